import PyProof.Rows.All
import Wide.All
import OpenK.AllK
import Wide.FinOn
import Lean
import PyProof.EqAt
import PyProof.EqKinds
import PyProof.NeKinds
import PyProof.TupleCall
import PySem.Challenge.RW_lotledger_k70_entries_kept
set_option Elab.async false
set_option linter.all false
set_option maxRecDepth 100000
set_option maxHeartbeats 4000000
abbrev Fg_ := PySem.W.Frag
namespace L2
open PySem PySem.Spec PyProof.Rows
abbrev Key := Sum Int Str
def Xd : Key -> Value -> Bool
 | .inl k, v => Value.isInt k v
 | .inr x, v => Value.isStrOf x v
def aeC (w : World) : Key -> Int
 | .inl k => hashInt k
 | .inr x => hashStr w x
theorem BZ : ∀ {k : Key} {v : Value}, Xd k v = true -> (∃ i t, k = Sum.inl i /\ v = Value.int i t) \/ (∃ x t, k = Sum.inr x /\ v = Value.str x t)
 | .inl i, v, h => by
  obtain ⟨t, e⟩ := Value.isInt_shape (k := i) (v := v) h
  exact .inl ⟨i, t, rfl, e⟩
 | .inr x, v, h => by
  obtain ⟨t, e⟩ := Value.isStrOf_shape (x := x) (v := v) h
  exact .inr ⟨x, t, rfl, e⟩
theorem YF (i : Int) (t : Tok) : Xd (.inl i) (.int i t) = true := by simp [Xd, Value.isInt]
theorem XF (x : Str) (t : Tok) : Xd (.inr x) (.str x t) = true := by simp [Xd, Value.isStrOf]
theorem adb (a b : Int) : decide ((Sum.inl a : Key) = Sum.inl b) = (a == b) := by
 by_cases e : a = b
 ·subst e; simp
 ·have h : ¬ (Sum.inl a : Key) = Sum.inl b := fun q => e (Sum.inl.inj q)
  rw [decide_eq_false h]
  exact (beq_eq_false_iff_ne.mpr e).symm
theorem acv (a b : Str) : decide ((Sum.inr a : Key) = Sum.inr b) = decide (a = b) := by
 by_cases e : a = b
 ·subst e; simp
 ·have h : ¬ (Sum.inr a : Key) = Sum.inr b := fun q => e (Sum.inr.inj q)
  rw [decide_eq_false h, decide_eq_false e]
theorem acw (a : Int) (b : Str) : decide ((Sum.inl a : Key) = Sum.inr b) = false := decide_eq_false (fun q => nomatch q)
theorem acu (a : Str) (b : Int) : decide ((Sum.inr a : Key) = Sum.inl b) = false := decide_eq_false (fun q => nomatch q)
def BR (prog : Program) (w : World) : PySem.KeyKind prog w Key where
 is := Xd
 hash := aeC w
 inj := fun v a b ha hb => by
  rcases BZ ha with ⟨i, t, rfl, rfl⟩ | ⟨x, t, rfl, rfl⟩
  ·rcases BZ hb with ⟨j, u, rfl, e⟩ | ⟨y, u, rfl, e⟩
   ·injection e with e1 _; rw [e1]
   ·exact nomatch e
  ·rcases BZ hb with ⟨j, u, rfl, e⟩ | ⟨y, u, rfl, e⟩
   ·exact nomatch e
   ·injection e with e1 _; rw [e1]
 byValue := fun k v h => by
  rcases BZ h with ⟨i, t, rfl, rfl⟩ | ⟨x, t, rfl, rfl⟩ <;> rfl
 pyHash := fun hv h => by
  rcases BZ hv with ⟨i, t, rfl, rfl⟩ | ⟨x, t, rfl, rfl⟩
  ·exact wpAny_pyHash_int h
  ·exact wpAny_pyHash_str h
 eqBool := fun hu hv h => by
  rcases BZ hu with ⟨i, t, rfl, rfl⟩ | ⟨x, t, rfl, rfl⟩
  ·rcases BZ hv with ⟨j, u, rfl, rfl⟩ | ⟨y, u, rfl, rfl⟩
   ·rw [adb] at h; exact wpAny_eqBool_int h
   ·rw [acw] at h; exact SeqAt.EqAt.int_str i t y u _ _ _ _ h
  ·rcases BZ hv with ⟨j, u, rfl, rfl⟩ | ⟨y, u, rfl, rfl⟩
   ·rw [acu] at h; exact SeqAt.EqAt.str_int x t j u _ _ _ _ h
   ·rw [acv] at h; exact wpAny_eqBool_str h
 «strs» := fun k x t v h => by
  rcases BZ h with ⟨i, u, rfl, e⟩ | ⟨y, u, rfl, e⟩
  ·exact nomatch e
  ·injection e with e1 _
   subst e1
   cases v <;> rfl
theorem Ua (prog : Program) (w : World) (i : Int) (t : Tok) : (BR prog w).is (.inl i) (.int i t) = true := YF i t
theorem Vc (prog : Program) (w : World) (x : Str) (t : Tok) : (BR prog w).is (.inr x) (.str x t) = true := XF x t
end L2
namespace L2
open PySem PySem.Spec PyProof.Rows
inductive V where
 | non | bl (b : Bool) | int (i : Int) | str (x : Str) | byt (b : Array UInt8) | flt (b : UInt64) | ref (a : Addr) | ty (n : String)
 deriving DecidableEq
def RelV : V -> Value -> Prop
 | .non, u => u = Value.none
 | .bl b, u => u = Value.bool b
 | .int i, u => ∃ t, u = Value.int i t
 | .str x, u => ∃ t, u = Value.str x t
 | .byt b, u => ∃ t, u = Value.bytes b t
 | .flt b, u => ∃ t, u = Value.float b t
 | .ref a, u => u = Value.ref a
 | .ty n, u => u = Value.type n
abbrev Vals : List V -> List Value -> Prop := Paired RelV
theorem Vals.length {xs : List V} {us : List Value} (r : Vals xs us) : xs.length = us.length := Paired.length r
theorem Vals.get : ∀ {xs : List V} {us : List Value} {i : Nat} {x : V}, Vals xs us -> xs[i]? = some x -> ∃ u, us[i]? = some u /\ RelV x u
 | _, _, _, _, .nil, e => by simp at e
 | _, _, 0, _, .cons r _, e => by simp at e; subst e; exact ⟨_, rfl, r⟩
 | _, _, i + 1, x, .cons _ t, e => by
  obtain ⟨u, h1, h2⟩ := Vals.get (i := i) (x := x) t (by simpa using e)
  exact ⟨u, by simpa using h1, h2⟩
theorem Vals.set {x : V} {u : Value} (r : RelV x u) : ∀ {xs : List V} {us : List Value} (i : Nat), Vals xs us -> Vals (xs.set i x) (us.set i u)
 | _, _, _, .nil => .nil
 | _, _, 0, .cons _ t => .cons r t
 | _, _, i + 1, .cons q t => .cons q (Vals.set r i t)
theorem Vals.append : ∀ {xs ys : List V} {us ws : List Value}, Vals xs us -> Vals ys ws -> Vals (xs ++ ys) (us ++ ws)
 | _, _, _, _, .nil, s => s
 | _, _, _, _, .cons r t, s => .cons r (Vals.append t s)
theorem Vals.take : ∀ {xs : List V} {us : List Value} (n : Nat), Vals xs us -> Vals (xs.take n) (us.take n)
 | _, _, 0, _ => .nil
 | _, _, _ + 1, .nil => .nil
 | _, _, n + 1, .cons r t => .cons r (Vals.take n t)
theorem Vals.drop : ∀ {xs : List V} {us : List Value} (n : Nat), Vals xs us -> Vals (xs.drop n) (us.drop n)
 | _, _, 0, r => r
 | _, _, _ + 1, .nil => .nil
 | _, _, n + 1, .cons _ t => Vals.drop n t
def RelO : Option V -> Option Value -> Prop
 | some v, some u => RelV v u
 | none, none => True
 | _, _ => False
def KV {κ : Type} : List (κ × V) -> List (κ × Value) -> Prop := Paired fun (p : κ × V) (q : κ × Value) => p.1 = q.1 /\ RelV p.2 q.2
def kV : Key -> V
 | .inl i => .int i
 | .inr x => .str x
inductive HO where
 | lst (xs : List V)
 | tup (xs : List V)
 | dK (kvs : List (Key × V)) | dT (kvs : List (List Key × V))
 | set (S : Int -> Bool) (n : Nat)
 | ins (C dx : Addr) (fs : List (Str × V))
 | own (x : Addr)
 | xd (fs : List (Str × V))
 | met (f x : Addr)
 | rng (lo hi : Int)
 | frz (o : Obj) (u : HO)
 | tbl (ps : Array Value)
 | ext (φ : Heap -> Prop)
abbrev Hp := Addr -> Option HO
def upd (H : Hp) (a : Addr) (o : HO) : Hp := fun b => if b = a then some o else H b
theorem Ae {H : Hp} {a : Addr} {o : HO} : upd H a o a = some o := by unfold upd; rw [if_pos rfl]
theorem Aj {H : Hp} {a b : Addr} {o : HO} (h : b ≠ a) : upd H a o b = H b := by unfold upd; rw [if_neg h]
theorem adW {H : Hp} {a b : Addr} {o u : HO} (h : H a = some o) (h' : H b = some u) (d : o ≠ u) : a ≠ b := by
 intro e; subst e; rw [h] at h'; exact d (Option.some.inj h')
theorem Bo {H : Hp} {a b : Addr} {o : HO} (h : H a = some o) (h' : H b = none) : a ≠ b := by
 intro e; subst e; rw [h] at h'; cases h'
section
variable (P : Program) (w : World)
def ObjOk (H : Hp) (h : Heap) (a : Addr) : HO -> Prop
 | .lst xs => xs.length <= sizeLine /\ ∃ (its : List Value) (n : Nat), Vals xs its /\ h.get? a = some { cls := .type "list", data := .seq its.toArray n }
 | .tup xs => xs.length <= sizeLine /\ ∃ its : List Value, Vals xs its /\ IsTup h a its.toArray
 | .dK kvs => kvs.length <= sizeLine /\ (a == sysModules) = false /\ ∃ vs, KV kvs vs /\ h.DictOf (BR P w) a vs
 | .dT kvs => kvs.length <= sizeLine /\ (a == sysModules) = false /\ ∃ xs : List (List Key × Addr × Value),
   Paired (fun (p : List Key × V) (q : List Key × Addr × Value) => p.1 = q.1 /\ H q.2.1 = some (.tup (p.1.map kV)) /\ RelV p.2 q.2.2) kvs xs /\
   ∃ o es ep, h.get? a = some o /\ o.ExactDict /\ o.data = .dict es ep /\ es.toList = xs.map (entryOfKey (tupleKind (BR P w))) /\ (xs.map (·.1)).Nodup
 | .set S n => h.SetOf (intKind P w) a S n
 | .ins C dx fs => H dx = some (.own a) /\ fs.length <= 1000 /\ dx ≠ a /\ h.get? a = some (PySem.W.instObj C dx) /\
   ∃ mA, h.Ns1 dx mA /\ (∀ f, RelO (fs.lookup f) (mA f)) /\ PySem.Within mA (fs.map (·.1))
 | .own _ => ∃ o, h.get? a = some o
 | .xd fs => ∃ mA, h.Ns1 a mA /\ ∀ f, RelO (fs.lookup f) (mA f)
 | .rng lo hi => ∃ t u v, h.get? a = some { cls := .type "range", data := .fields #[.int lo t, .int hi u, .int 1 v] }
 | .frz o u => h.get? a = some o /\ ObjOk H h a u
 | .tbl ps => h.get? a = some { cls := .none, data := .fields ps }
 | .met f x => h.get? a = some (PySem.W.methodObj (.ref f) (.ref x))
 | .ext φ => φ h /\ (∃ o, h.get? a = some o) /\ ∀ h1 h2 : Heap, φ h1 -> (∀ o, h1.get? a = some o -> h2.get? a = some o) -> φ h2
def HOk (H : Hp) (h : Heap) : Prop := ∀ a o, H a = some o -> ObjOk P w H h a o
end
section
variable {P : Program} {w : World} {H H' : Hp} {h h' : Heap} {a : Addr} {o : HO}
theorem ObjOk.lt (x : ObjOk P w H h a o) : a < h.objs.size := by
 cases o with
 | lst xs => obtain ⟨_, _, _, _, e⟩ := x; exact Heap.lt_size e
 | tup xs => obtain ⟨_, _, _, p⟩ := x; exact p.lt
 | dK kvs => obtain ⟨_, _, _, _, o, _, _, e, _⟩ := x; exact Heap.lt_size e
 | dT kvs => obtain ⟨_, _, _, _, o, _, _, e, _⟩ := x; exact Heap.lt_size e
 | set S n => obtain ⟨o, _, _, _, e, _⟩ := x; exact Heap.lt_size e
 | ins C dx fs => obtain ⟨_, _, _, e, _⟩ := x; exact Heap.lt_size e
 | own y => obtain ⟨_, e⟩ := x; exact Heap.lt_size e
 | xd fs => obtain ⟨_, ⟨_, _, _, e, _⟩, _⟩ := x; exact Heap.lt_size e
 | rng lo hi => obtain ⟨_, _, _, e⟩ := x; exact Heap.lt_size e
 | frz ob u => obtain ⟨e, _⟩ := x; exact Heap.lt_size e
 | tbl ps => exact Heap.lt_size (show h.get? a = some _ from x)
 | met f y => exact Heap.lt_size (show h.get? a = some _ from x)
 | ext φ => obtain ⟨_, ⟨_, e⟩, _⟩ := x; exact Heap.lt_size e
theorem Paired.mapP {α β : Type} {F G : α -> β -> Prop} : ∀ {l₁ : List α} {l₂ : List β}, Paired F l₁ l₂ -> (∀ a b, F a b -> G a b) -> Paired G l₁ l₂
 | _, _, .nil, _ => .nil
 | _, _, .cons r t, f => .cons (f _ _ r) (Paired.mapP t f)
theorem ObjOk.stay (x : ObjOk P w H h a o) (k : ∀ b u, (b = a \/ H b = some (.own a)) -> h.get? b = some u -> h'.get? b = some u)
  (ho : ∀ b, H b = some (.own a) -> H' b = some (.own a)) (ht : ∀ b xs, H b = some (.tup xs) -> H' b = some (.tup xs)) : ObjOk P w H' h' a o := by
 induction o with
 | lst xs => obtain ⟨z, its, n, r, e⟩ := x; exact ⟨z, its, n, r, k _ _ (.inl rfl) e⟩
 | tup xs => obtain ⟨z, its, r, ob, e, c⟩ := x; exact ⟨z, its, r, ob, k _ _ (.inl rfl) e, c⟩
 | dK kvs => obtain ⟨z, y, vs, r, ob, es, ep, e, c⟩ := x; exact ⟨z, y, vs, r, ob, es, ep, k _ _ (.inl rfl) e, c⟩
 | dT kvs =>
  obtain ⟨z, y, xs, r, ob, es, ep, e, c⟩ := x
  exact ⟨z, y, xs, Paired.mapP r fun p q z => ⟨z.1, ht _ _ z.2.1, z.2.2⟩, ob, es, ep, k _ _ (.inl rfl) e, c⟩
 | set S n => obtain ⟨ob, es, ep, t, e, c⟩ := x; exact ⟨ob, es, ep, t, k _ _ (.inl rfl) e, c⟩
 | ins C dx fs =>
  obtain ⟨d, z, ne, e, mA, ⟨od, es, ep, e2, c⟩, r⟩ := x
  exact ⟨ho _ d, z, ne, k _ _ (.inl rfl) e, mA, ⟨od, es, ep, k _ _ (.inr d) e2, c⟩, r⟩
 | own y => obtain ⟨ob, e⟩ := x; exact ⟨ob, k _ _ (.inl rfl) e⟩
 | xd fs => obtain ⟨mA, ⟨od, es, ep, e, c⟩, r⟩ := x; exact ⟨mA, ⟨od, es, ep, k _ _ (.inl rfl) e, c⟩, r⟩
 | rng lo hi => obtain ⟨t, u, v, e⟩ := x; exact ⟨t, u, v, k _ _ (.inl rfl) e⟩
 | frz ob u ih => obtain ⟨e, q⟩ := x; exact ⟨k _ _ (.inl rfl) e, ih q⟩
 | tbl ps =>
  have e : h.get? a = some { cls := .none, data := .fields ps } := x
  show h'.get? a = some { cls := .none, data := .fields ps }
  exact k a _ (.inl rfl) e
 | met f y =>
  have e : h.get? a = some (PySem.W.methodObj (.ref f) (.ref y)) := x
  show h'.get? a = some (PySem.W.methodObj (.ref f) (.ref y))
  exact k a _ (.inl rfl) e
 | ext φ => obtain ⟨p, ⟨o, e⟩, st⟩ := x; exact ⟨st _ _ p fun o q => k _ _ (.inl rfl) q, ⟨o, k _ _ (.inl rfl) e⟩, st⟩
theorem HOk.lt (x : HOk P w H h) (e : H a = some o) : a < h.objs.size := (x a o e).lt
theorem HOk.fresh (x : HOk P w H h) (e : h.objs.size <= a) : H a = none := by
 cases q : H a with
 | none => rfl
 | some u => exact absurd (Nat.lt_of_lt_of_le (x.lt q) e) (Nat.lt_irrefl _)
theorem HOk.kept (x : HOk P w H h) (k : ∀ b u, h.get? b = some u -> h'.get? b = some u) : HOk P w H h' := fun a o e =>
 (x a o e).stay (fun b u _ q => k b u q) (fun _ q => q) fun _ _ q => q
theorem HOk.laid (x : HOk P w H h) (k : ∀ b u, h.get? b = some u -> h'.get? b = some u) (hp : h.objs.size <= a) (new : ObjOk P w (upd H a o) h' a o) : HOk P w (upd H a o) h' := fun b u e => by
 have hn := x.fresh hp
 by_cases hb : b = a
 ·subst hb; rw [Ae] at e; cases e; exact new
 ·rw [Aj hb] at e
  exact (x b u e).stay (fun c v _ q => k c v q) (fun c q => by rw [Aj (Bo q hn)]; exact q) fun c xs q => by rw [Aj (Bo q hn)]; exact q
end
def Rd (H : Hp) (a : Addr) (u : HO) : Prop := H a = some u \/ ∃ o, H a = some (.frz o u)
theorem Rd.of {H : Hp} {a : Addr} {u : HO} (h : H a = some u) : Rd H a u := .inl h
theorem Rd.ok {P : Program} {w : World} {H : Hp} {h : Heap} {a : Addr} {u : HO} (r : Rd H a u) (x : HOk P w H h) : ObjOk P w H h a u := by
 rcases r with r | ⟨o, r⟩
 ·exact x a u r
 ·obtain ⟨_, q⟩ := x a _ r
  exact q
def Mut : Option HO -> Prop
 | some (.lst _) => True
 | some (.dK _) => True
 | some (.dT _) => True
 | some (.set _ _) => True
 | some (.ins _ _ _) => True
 | some (.ext _) => True
 | _ => False
section
variable {P : Program} {w : World} {H : Hp} {h h' : Heap} {x e : Addr} {o' : HO}
theorem HOk.write (ok : HOk P w H h) (mu : Mut (H x)) (he : e = x \/ H e = some (.own x)) (k : ∀ b u, b ≠ e -> h.get? b = some u -> h'.get? b = some u) (heo : ∃ u, h'.get? e = some u)
  (new : ObjOk P w (upd H x o') h' x o') : HOk P w (upd H x o') h' := fun b u q => by
 have nown : ∀ c y, H c = some (.own y) -> c ≠ x := fun c y r z => by subst z; rw [r] at mu; exact mu
 have ntup : ∀ c xs, H c = some (.tup xs) -> c ≠ x := fun c xs r z => by subst z; rw [r] at mu; exact mu
 by_cases hb : b = x
 ·subst hb; rw [Ae] at q; cases q; exact new
 ·rw [Aj hb] at q
  by_cases hbe : b = e
  ·have q' : H b = some (.own x) := by
    rcases he with z | z
    ·exact absurd (hbe.trans z) hb
    ·rw [hbe]; exact z
   rw [q] at q'; cases q'
   obtain ⟨v, hv⟩ := heo
   exact ⟨v, by rw [hbe]; exact hv⟩
  ·refine (ok b u q).stay (fun c v hc r => k c v ?_ r) (fun c r => by rw [Aj (nown c b r)]; exact r) fun c xs r => by rw [Aj (ntup c xs r)]; exact r
   rcases hc with rfl | hc
   ·exact hbe
   ·rintro rfl
    rcases he with z | z
    ·exact nown c b hc z
    ·rw [hc] at z; cases z; exact hb rfl
end
structure Un (fs ex : List Addr) (H H' : Hp) (h h' : Heap) : Prop where
 keep : ∀ b o, h.get? b = some o -> H b = none -> b ∉ fs -> b ∉ ex -> h'.get? b = some o
 slot : ∀ b o, h.get? b = some o -> H b = none -> b ∈ fs -> b ∉ ex -> ∃ sl, h'.get? b = some { o with slots := sl }
 free : ∀ b o, h.get? b = some o -> H b = none -> b ∉ ex -> H' b = none
 there : ∀ b o, h.get? b = some o -> b ∉ ex -> ∃ o', h'.get? b = some o'
 tups : ∀ b xs, H b = some (.tup xs) -> H' b = some (.tup xs)
 frzs : ∀ b o u, H b = some (.frz o u) -> H' b = some (.frz o u)
 tbls : ∀ b ps, H b = some (.tbl ps) -> ∃ more, H' b = some (.tbl (ps ++ more))
section
variable {fs fs' ex ex' : List Addr} {H H1 H2 : Hp} {h h1 h2 h' : Heap} {a x e : Addr} {o : HO}
theorem Un.any (u : Un fs ex H H1 h h1) {b : Addr} {ob : Obj} (q : h.get? b = some ob) (n : H b = none) (hx : b ∉ ex) : ∃ sl, h1.get? b = some { ob with slots := sl } := by
 by_cases hb : b ∈ fs
 ·exact u.slot b ob q n hb hx
 ·exact ⟨ob.slots, u.keep b ob q n hb hx⟩
theorem Un.trans (a : Un fs ex H H1 h h1) (b : Un fs ex H1 H2 h1 h2) : Un fs ex H H2 h h2 where
 keep := fun c ob q n hc hx => b.keep c ob (a.keep c ob q n hc hx) (a.free c ob q n hx) hc hx
 slot := fun c ob q n hc hx => by
  obtain ⟨sl, e1⟩ := a.slot c ob q n hc hx
  obtain ⟨sl', e2⟩ := b.slot c _ e1 (a.free c ob q n hx) hc hx
  exact ⟨sl', e2⟩
 free := fun c ob q n hx => by
  obtain ⟨o', e1⟩ := a.there c ob q hx
  exact b.free c o' e1 (a.free c ob q n hx) hx
 there := fun c ob q hx => by
  obtain ⟨o', e1⟩ := a.there c ob q hx
  exact b.there c o' e1 hx
 tups := fun c xs q => b.tups c xs (a.tups c xs q)
 frzs := fun c ob xs q => b.frzs c ob xs (a.frzs c ob xs q)
 tbls := fun c ps q => by
  obtain ⟨m1, e1⟩ := a.tbls c ps q
  obtain ⟨m2, e2⟩ := b.tbls c _ e1
  exact ⟨m1 ++ m2, by rw [e2, Array.append_assoc]⟩
theorem Un.kept (k : ∀ b u, h.get? b = some u -> h'.get? b = some u) : Un fs ex H H h h' :=
 ⟨fun b ob q _ _ _ => k b ob q, fun b ob q _ _ _ => ⟨ob.slots, k b ob q⟩, fun _ _ _ n _ => n, fun b ob q _ => ⟨ob, k b ob q⟩, fun _ _ q => q, fun _ _ _ q => q, fun _ ps q => ⟨#[], by rw [q]; simp⟩⟩
theorem Un.refl : Un fs ex H H h h := Un.kept fun _ _ q => q
theorem Un.laid (k : ∀ b u, h.get? b = some u -> h'.get? b = some u) (hp : h.objs.size <= a) (hn : H a = none) : Un fs ex H (upd H a o) h h' where
 keep := fun b u q _ _ _ => k b u q
 slot := fun b u q _ _ _ => ⟨u.slots, k b u q⟩
 free := fun b u q n _ => by rw [Aj (Nat.ne_of_lt (Nat.lt_of_lt_of_le (Heap.lt_size q) hp))]; exact n
 there := fun b u q _ => ⟨u, k b u q⟩
 tups := fun b xs q => by rw [Aj (Bo q hn)]; exact q
 frzs := fun b u xs q => by rw [Aj (Bo q hn)]; exact q
 tbls := fun b ps q => ⟨#[], by rw [Aj (Bo q hn), q]; simp⟩
theorem Un.write (mu : Mut (H x)) (he : e = x \/ H e = some (.own x)) (k : ∀ b u, b ≠ e -> h.get? b = some u -> h'.get? b = some u) (heo : ∃ u, h'.get? e = some u) : Un fs ex H (upd H x o) h h' := by
 have hx : ∀ b, H b = none -> b ≠ x := fun b n z => by subst z; rw [n] at mu; exact mu
 have hb : ∀ b, H b = none -> b ≠ e := fun b n z => by
  subst z
  rcases he with r | r
  ·exact hx b n r
  ·rw [n] at r; cases r
 have hm : ∀ b u, H b = some u -> ¬ Mut (some u) -> b ≠ x := fun b u q nm z => by subst z; rw [q] at mu; exact nm mu
 refine ⟨fun b u q n _ _ => k b u (hb b n) q, fun b u q n _ _ => ⟨u.slots, k b u (hb b n) q⟩, fun b u q n _ => by rw [Aj (hx b n)]; exact n, fun b u q _ => ?_,
  fun b xs q => by rw [Aj (hm b _ q fun z => z)]; exact q, fun b u xs q => by rw [Aj (hm b _ q fun z => z)]; exact q, fun b ps q => ⟨#[], by rw [Aj (hm b _ q fun z => z), q]; simp⟩⟩
 by_cases hbe : b = e
 ·subst hbe; exact heo
 ·exact ⟨u, k b u hbe q⟩
end
def trk (h : Heap) (H : Hp) : List Addr := (List.range h.objs.size).filter fun a => (H a).isSome
def aav (h : Heap) (H : Hp) : Heap := PySem.W.hideAll h (trk h H)
theorem Xl (h : Heap) (H : Hp) : (aav h H).objs.size = h.objs.size := PySem.W.hideAll_size _ _
theorem ZP {h : Heap} {H : Hp} {b : Addr} {o : Obj} (e : h.get? b = some o) (n : H b = none) : (aav h H).get? b = some o :=
 PySem.W.hideAll_get _ e fun hm => by
  have q : (H b).isSome = true := (List.mem_filter.mp hm).2
  rw [n] at q; simp at q
theorem abM {h : Heap} {H : Hp} {b : Addr} {o : Obj} (e : (aav h H).get? b = some o) : h.get? b = some o /\ H b = none := by
 have e' : h.get? b = some o := PySem.W.of_hideAll (trk h H) e
 refine ⟨e', ?_⟩
 cases q : H b with
 | none => rfl
 | some x =>
  have hm : b ∈ trk h H := List.mem_filter.mpr ⟨List.mem_range.mpr (Heap.lt_size e'), by simp [q]⟩
  have z : (aav h H).get? b = none := PySem.W.hideAll_none (trk h H) hm
  rw [z] at e; cases e
def abW (g h : Heap) (L : Addr) : List (Addr × Obj) := (List.range h.objs.size).filterMap fun a => if a = L \/ (g.get? a).isSome = true then none else (h.get? a).map fun o => (a, o)
def rest (g h : Heap) (L d : Addr) : List (Addr × Obj) := (abW g h L).filter fun p => decide (p.1 ≠ d)
end L2
namespace L2
open PySem PySem.Spec PyProof.Rows
structure Mod (K : Fg_) (mg : Str -> Option Value) (base : Heap) : Prop where
 kin : K.In base
 glob : base.Ns mainGlobals mg
 blt : ∃ mb, base.Ns builtinsNs mb /\ ∀ x : Str, x ≠ "__name__" -> mb x = bootBuiltins x
 nolimit : base.NoLimit
structure Cx where
 prog : Program
 w : World
 K : Fg_
 mg : Str -> Option Value
 base : Heap
 A : Around
 N : List Str
 s₀ : Shared
 H₀ : Hp
 env : Env
 outer : List Env
 stack : List Env
 ex : List Addr
 fn : Str -> Bool
 calm : Bool
 pn : List (Addr × Obj)
 xe : Value -> Shared -> Prop
def frs (l : List Env) : List Addr := l.filterMap (·.frame)
abbrev Cx.fs (X : Cx) : List Addr := frs X.outer
def Vis (sc : Scope) (x : Str) : Prop := sc.names.lookup x = some .local \/ sc.names.lookup x = some .cell \/ sc.names.lookup x = some .free
def Loc (sc : Scope) (x : Str) : Prop := sc.names.lookup x = some .local \/ sc.names.lookup x = some .cell
def Look (env : Env) (h : Heap) (m : Str -> Option Value) (x : Str) (u : Value) : Prop :=
 (env.kindOf x = some .local /\ m x = some u) \/ ((env.kindOf x = some .cell \/ env.kindOf x = some .free) /\ ∃ c, env.cells.lookup x = some c /\ h.IsCell c (some u))
structure Cx.Ok (X : Cx) : Prop where
 mod : Mod X.K X.mg X.base
 kind : X.env.scope.kind = .function
 glob : X.env.globals = mainGlobals
 blt : X.env.builtins = builtinsNs
 above : X.s₀.heap.objs.size <= X.env.locals
 inj : ∀ x y c, X.env.cells.lookup x = some c -> X.env.cells.lookup y = some c -> x = y
 has : ∀ x, (X.env.kindOf x = some .cell \/ X.env.kindOf x = some .free) -> ∃ c, X.env.cells.lookup x = some c
 cab : ∀ x c, X.fn x = true -> X.env.cells.lookup x = some c -> X.s₀.heap.objs.size <= c
 hd : X.calm = true -> X.A.handled = none
 frames : X.A.frames = some X.stack
 stk : X.stack = X.outer \/ (X.stack = X.env :: X.outer /\ X.env.frame = some X.env.locals)
 exf : ∀ b ∈ X.ex, b ≠ X.env.locals /\ ∀ x c, X.env.cells.lookup x = some c -> c ≠ b
 bs : ∀ b o, X.base.get? b = some o -> X.s₀.heap.get? b = some o /\ X.H₀ b = none
 bsz : X.base.objs.size <= X.s₀.heap.objs.size
 noex : ∀ b o, X.base.get? b = some o -> b ∉ X.ex
 exfs : ∀ b ∈ X.ex, b ∉ X.fs
 funs : X.s₀.heap.FunFrames X.base X.outer
 frf : ∀ b ∈ X.fs, X.H₀ b = none
structure Inv (X : Cx) (pins : List (Addr × Obj)) (σ : List (Option V)) (H : Hp) (s : Shared) : Prop where
 ok : X.Ok
 os : s.os = X.s₀.os
 bare : AllBare s.gens
 base : Un X.fs X.ex X.H₀ H X.s₀.heap s.heap
 loc : ∃ m, s.heap.Ns X.env.locals m /\ ∀ (i : Nat) (x : Str) (v : V), X.N[i]? = some x -> σ[i]? = some (some v) -> Vis X.env.scope x -> ∃ u, RelV v u /\ Look X.env s.heap m x u
 cell : ∀ x c, X.env.cells.lookup x = some c -> ∃ v, s.heap.IsCell c v
 free : H X.env.locals = none
 freeC : ∀ x c, X.env.cells.lookup x = some c -> H c = none
 pin : ∀ p ∈ X.pn ++ pins, s.heap.get? p.1 = some p.2 /\ H p.1 = none /\ p.1 ≠ X.env.locals /\ p.1 ∉ X.fs /\ ∀ v, p.2.data ≠ .cell v
 hok : HOk X.prog X.w H s.heap
 len : σ.length = X.N.length
section
variable {X : Cx} {pins : List (Addr × Obj)} {σ : List (Option V)} {H H' : Hp} {s : Shared} {h' : Heap}
theorem Cx.Ok.nofr (ok : X.Ok) {b : Addr} {o : Obj} (e : X.base.get? b = some o) : b ∉ X.fs := fun hb => by
 have := (ok.funs.mem hb).1
 rw [e] at this; cases this
theorem Inv.bs (I : Inv X pins σ H s) : ∀ b o, X.base.get? b = some o -> s.heap.get? b = some o /\ H b = none := fun b o e =>
 ⟨I.base.keep b o (I.ok.bs b o e).1 (I.ok.bs b o e).2 (I.ok.nofr e) (I.ok.noex b o e), I.base.free b o (I.ok.bs b o e).1 (I.ok.bs b o e).2 (I.ok.noex b o e)⟩
theorem Inv.bk (I : Inv X pins σ H s) : ∀ b o, X.base.get? b = some o -> s.heap.get? b = some o := fun b o e => (I.bs b o e).1
theorem Inv.mod (I : Inv X pins σ H s) : Mod X.K X.mg X.base := I.ok.mod
theorem Inv.kIn (I : Inv X pins σ H s) : X.K.In s.heap := I.ok.mod.kin.keeps I.bk
theorem Inv.fr (I : Inv X pins σ H s) : ∃ m, Fr X.base X.env.locals s.heap m :=
 let ⟨m, hn, _⟩ := I.loc
 ⟨m, hn, I.bk, Nat.le_trans I.ok.bsz I.ok.above⟩
theorem Inv.lt (I : Inv X pins σ H s) : X.env.locals < s.heap.objs.size := let ⟨_, hn, _⟩ := I.loc; hn.lt
theorem Inv.sz (I : Inv X pins σ H s) : X.s₀.heap.objs.size <= s.heap.objs.size := Nat.le_trans I.ok.above (Nat.le_of_lt I.lt)
theorem Inv.nofs (I : Inv X pins σ H s) {a : Addr} (h : s.heap.objs.size <= a) : a ∉ X.fs := fun hb => by
 obtain ⟨_, o, ho, _⟩ := I.ok.funs.mem hb
 exact absurd (Nat.lt_of_lt_of_le (Heap.lt_size ho) (Nat.le_trans I.sz h)) (Nat.lt_irrefl _)
theorem Inv.cne (I : Inv X pins σ H s) : ∀ x c, X.env.cells.lookup x = some c -> c ≠ X.env.locals := fun x c e z => by
 obtain ⟨v, o, ho, hd⟩ := I.cell x c e
 obtain ⟨m, ⟨o', es, ep, ho', hd', _⟩, _⟩ := I.loc
 rw [z, ho'] at ho; cases ho; rw [hd'] at hd; cases hd
theorem Inv.funs (I : Inv X pins σ H s) : s.heap.FunFrames X.base X.outer := by
 have all : ∀ (l : List Env), (∀ b ∈ frs l, b ∈ X.fs) -> X.s₀.heap.FunFrames X.base l -> s.heap.FunFrames X.base l := by
  intro l
  induction l with
  | nil => intro _ _; trivial
  | cons env r ih =>
   intro hs hl
   obtain ⟨hk, ⟨L, o, hf, hn, ho, hd⟩, hr⟩ := hl
   have hL : L ∈ X.fs := hs L (by unfold frs; rw [List.filterMap_cons, hf]; exact List.mem_cons_self)
   obtain ⟨sl, e⟩ := I.base.slot L o ho (I.ok.frf L hL) hL fun z => I.ok.exfs L z hL
   exact ⟨hk, ⟨L, _, hf, hn, e, hd⟩, ih (fun b hb => hs b (by unfold frs; rw [List.filterMap_cons, hf]; exact List.mem_cons_of_mem _ hb)) hr⟩
 exact all X.outer (fun _ hb => hb) I.ok.funs
theorem Inv.stack (I : Inv X pins σ H s) : s.heap.FunFrames X.base X.stack := by
 rcases I.ok.stk with e | ⟨e, hf⟩
 ·rw [e]; exact I.funs
 ·rw [e]
  obtain ⟨m, hn, _⟩ := I.loc
  refine .cons (by rw [I.ok.kind]; decide) hf hn ?_ I.funs
  exact Heap.get?_none_of_le (Nat.le_trans I.ok.bsz I.ok.above)
theorem Inv.stkSub (I : Inv X pins σ H s) : ∀ b ∈ frs X.stack, b ∈ X.env.locals :: X.fs := fun b hb => by
 rcases I.ok.stk with e | ⟨e, hf⟩
 ·rw [e] at hb; exact List.mem_cons_of_mem _ hb
 ·rw [e] at hb
  unfold frs at hb
  rw [List.filterMap_cons, hf] at hb
  exact hb
theorem Inv.stkFree (I : Inv X pins σ H s) : ∀ b ∈ frs X.stack, H b = none := fun b hb => by
 rcases List.mem_cons.mp (I.stkSub b hb) with e | hb
 ·rw [e]; exact I.free
 ·obtain ⟨_, o, ho, _⟩ := I.ok.funs.mem hb
  exact I.base.free b o ho (I.ok.frf b hb) fun z => I.ok.exfs b z hb
theorem Inv.step {g' : Array GenState} {t' : Nat} {d' : Drawn} {ch : List Addr} (I : Inv X pins σ H s)
  (hch : ∀ b ∈ ch, (b ∈ X.ex \/ X.s₀.heap.objs.size <= b) /\ b ≠ X.env.locals /\ (∀ x c, X.env.cells.lookup x = some c -> c ≠ b) /\ ∀ p ∈ X.pn ++ pins, p.1 ≠ b)
  (keep : ∀ b o, b ≠ X.env.locals -> b ∉ X.fs -> b ∉ ch -> s.heap.get? b = some o -> H b = none -> h'.get? b = some o)
  (slot : ∀ b o, b ≠ X.env.locals -> b ∈ X.fs -> b ∉ ch -> s.heap.get? b = some o -> H b = none -> ∃ sl, h'.get? b = some { o with slots := sl }) (free : ∀ b o, b ∉ ch -> s.heap.get? b = some o -> H b = none -> H' b = none)
  (there : ∀ b o, b ∉ ch -> s.heap.get? b = some o -> ∃ o', h'.get? b = some o')
  (tups : ∀ b xs, H b = some (.tup xs) -> H' b = some (.tup xs)) (frzs : ∀ b o u, H b = some (.frz o u) -> H' b = some (.frz o u)) (tbls : ∀ b ps, H b = some (.tbl ps) -> ∃ more, H' b = some (.tbl (ps ++ more)))
  (ns : ∀ m, s.heap.Ns X.env.locals m -> h'.Ns X.env.locals m) (hok : HOk X.prog X.w H' h') (hg : AllBare g') :
  Inv X pins σ H' { s with heap := h', gens := g', drawn := d', toks := t' } := by
 have neL : ∀ b o, X.s₀.heap.get? b = some o -> b ≠ X.env.locals := fun b o e => Nat.ne_of_lt (Nat.lt_of_lt_of_le (Heap.lt_size e) I.ok.above)
 have neC : ∀ b o, X.s₀.heap.get? b = some o -> b ∉ X.ex -> b ∉ ch := fun b o e hx hb => by
  rcases (hch b hb).1 with z | z
  ·exact hx z
  ·exact absurd (Nat.lt_of_lt_of_le (Heap.lt_size e) z) (Nat.lt_irrefl _)
 have cellK : ∀ x c, X.env.cells.lookup x = some c -> ∀ v, s.heap.IsCell c v -> h'.IsCell c v := fun x c e v ⟨o, ho, hd⟩ => by
  have nch : c ∉ ch := fun z => (hch c z).2.2.1 x c e rfl
  by_cases hc : c ∈ X.fs
  ·obtain ⟨sl, q⟩ := slot c o (I.cne x c e) hc nch ho (I.freeC x c e)
   exact ⟨_, q, hd⟩
  ·exact ⟨o, keep c o (I.cne x c e) hc nch ho (I.freeC x c e), hd⟩
 refine ⟨I.ok, I.os, hg, ⟨fun b o e n hb hx => ?_, fun b o e n hb hx => ?_, fun b o e n hx => ?_, fun b o e hx => ?_, fun b xs e => tups b xs (I.base.tups b xs e), fun b o xs e => frzs b o xs (I.base.frzs b o xs e), fun b ps e => ?_⟩, ?_, fun x c e => ?_, ?_, fun x c e => ?_, fun p hp => ?_, hok, I.len⟩
 ·exact keep b o (neL b o e) hb (neC b o e hx) (I.base.keep b o e n hb hx) (I.base.free b o e n hx)
 ·obtain ⟨sl, e1⟩ := I.base.slot b o e n hb hx
  obtain ⟨sl', e2⟩ := slot b _ (neL b o e) hb (neC b o e hx) e1 (I.base.free b o e n hx)
  exact ⟨sl', e2⟩
 ·obtain ⟨o', e1⟩ := I.base.there b o e hx
  exact free b o' (neC b o e hx) e1 (I.base.free b o e n hx)
 ·obtain ⟨o', e1⟩ := I.base.there b o e hx
  exact there b o' (neC b o e hx) e1
 ·obtain ⟨m1, e1⟩ := I.base.tbls b ps e
  obtain ⟨m2, e2⟩ := tbls b _ e1
  exact ⟨m1 ++ m2, by rw [e2, Array.append_assoc]⟩
 ·obtain ⟨m, hn, hl⟩ := I.loc
  refine ⟨m, ns m hn, fun i x v e1 e2 e3 => ?_⟩
  obtain ⟨u, r, l⟩ := hl i x v e1 e2 e3
  refine ⟨u, r, ?_⟩
  rcases l with l | ⟨k, c, e, z⟩
  ·exact .inl l
  ·exact .inr ⟨k, c, e, cellK x c e _ z⟩
 ·obtain ⟨v, z⟩ := I.cell x c e
  exact ⟨v, cellK x c e v z⟩
 ·obtain ⟨m, ⟨o, _, _, ho, _⟩, _⟩ := I.loc
  exact free _ o (fun z => (hch _ z).2.1 rfl) ho I.free
 ·obtain ⟨v, o, ho, hd⟩ := I.cell x c e
  exact free c o (fun z => (hch c z).2.2.1 x c e rfl) ho (I.freeC x c e)
 ·obtain ⟨e, n, ne, nf, d⟩ := I.pin p hp
  have nch : p.1 ∉ ch := fun z => (hch p.1 z).2.2.2 p hp rfl
  exact ⟨keep p.1 p.2 ne nf nch e n, free p.1 p.2 nch e n, ne, nf, d⟩
theorem Inv.un {t' : Nat} (I : Inv X pins σ H s) (u : Un X.fs [] H H' s.heap h') (hok : HOk X.prog X.w H' h') : Inv X pins σ H' { s with heap := h', toks := t' } := by
 obtain ⟨m, ⟨o, es, ep, ho, r⟩, _⟩ := id I.loc
 obtain ⟨sl, hL⟩ := u.any ho I.free (by simp)
 exact I.step (g' := s.gens) (d' := s.drawn) (ch := []) (fun _ z => nomatch z) (fun b o _ hb _ e n => u.keep b o e n hb (by simp)) (fun b o _ hb _ e n => u.slot b o e n hb (by simp)) (fun b o _ e n => u.free b o e n (by simp)) (fun b o _ e => u.there b o e (by simp)) u.tups u.frzs u.tbls (fun m' hm => by
  obtain ⟨o', es', ep', ho', r'⟩ := hm
  rw [ho] at ho'; cases ho'
  exact ⟨_, es', ep', hL, r'⟩) hok I.bare
theorem Inv.call {g' : Array GenState} {t' : Nat} {d' : Drawn} {ch : List Addr} (I : Inv X pins σ H s) (u : Un (frs X.stack) ch H H' s.heap h') (hok : HOk X.prog X.w H' h') (hg : AllBare g')
  (hch : ∀ b ∈ ch, (b ∈ X.ex \/ X.s₀.heap.objs.size <= b) /\ b ≠ X.env.locals /\ (∀ x c, X.env.cells.lookup x = some c -> c ≠ b) /\ ∀ p ∈ X.pn ++ pins, p.1 ≠ b) :
  Inv X pins σ H' { s with heap := h', gens := g', drawn := d', toks := t' } := by
 obtain ⟨m, ⟨o, es, ep, ho, r⟩, _⟩ := id I.loc
 obtain ⟨sl, hL⟩ := u.any ho I.free fun z => (hch _ z).2.1 rfl
 exact I.step (ch := ch) hch (fun b o hL hb hc e n => u.keep b o e n (fun z => (List.mem_cons.mp (I.stkSub b z)).elim hL hb) hc) (fun b o _ _ hc e n => u.any e n hc) (fun b o hc e n => u.free b o e n hc) (fun b o hc e => u.there b o e hc) u.tups u.frzs u.tbls (fun m' hm => by
  obtain ⟨o', es', ep', ho', r'⟩ := hm
  rw [ho] at ho'; cases ho'
  exact ⟨_, es', ep', hL, r'⟩) hok hg
theorem Inv.turned {t' : Nat} {it : Addr} (I : Inv X pins σ H s) (k : ∀ b o, b ≠ it -> s.heap.get? b = some o -> h'.get? b = some o) (hn : H it = none) (hL : it ≠ X.env.locals)
  (h1 : it ∈ X.ex \/ X.s₀.heap.objs.size <= it) (h2 : ∀ x c, X.env.cells.lookup x = some c -> c ≠ it) (h3 : ∀ p ∈ X.pn ++ pins, p.1 ≠ it) : Inv X pins σ H { s with heap := h', toks := t' } := by
 have nit : ∀ b u, H b = some u -> b ≠ it := fun b u e z => by rw [z, hn] at e; cases e
 refine I.step (g' := s.gens) (d' := s.drawn) (ch := [it]) (fun b hb => ?_) (fun b o _ _ hc e _ => k b o (fun z => hc (by simp [z])) e) (fun b o _ _ hc e _ => ⟨o.slots, k b o (fun z => hc (by simp [z])) e⟩) (fun _ _ _ _ n => n)
  (fun b o hc e => ⟨o, k b o (fun z => hc (by simp [z])) e⟩) (fun _ _ e => e) (fun _ _ _ e => e) (fun b ps e => ⟨#[], by rw [e]; simp⟩) (fun m hm => ?_) (fun b u e => ?_) I.bare
 ·have e : b = it := by simpa using hb
  subst e
  exact ⟨h1, hL, h2, h3⟩
 ·obtain ⟨o, es, ep, ho, r⟩ := hm
  exact ⟨o, es, ep, k _ o (Ne.symm hL) ho, r⟩
 ·refine (I.hok b u e).stay (fun c v hc q => k c v ?_ q) (fun _ q => q) fun _ _ q => q
  rcases hc with z | z
  ·rw [z]; exact nit b u e
  ·exact nit c _ z
theorem Inv.tok (I : Inv X pins σ H s) (t : Nat) : Inv X pins σ H { s with toks := t } := I.un (h' := s.heap) (t' := t) Un.refl I.hok
theorem Inv.kept {t' : Nat} (I : Inv X pins σ H s) (k : ∀ b u, s.heap.get? b = some u -> h'.get? b = some u) : Inv X pins σ H { s with heap := h', toks := t' } := I.un (Un.kept k) (I.hok.kept k)
theorem Inv.laid {a : Addr} {o : HO} {t' : Nat} (I : Inv X pins σ H s) (k : ∀ b u, s.heap.get? b = some u -> h'.get? b = some u) (hp : s.heap.objs.size <= a) (new : ObjOk X.prog X.w (upd H a o) h' a o) :
  Inv X pins σ (upd H a o) { s with heap := h', toks := t' } := I.un (Un.laid k hp (I.hok.fresh hp)) (I.hok.laid k hp new)
theorem Inv.write {x e : Addr} {o : HO} {t' : Nat} (I : Inv X pins σ H s) (mu : Mut (H x)) (he : e = x \/ H e = some (.own x)) (k : ∀ b u, b ≠ e -> s.heap.get? b = some u -> h'.get? b = some u) (heo : ∃ u, h'.get? e = some u)
  (new : ObjOk X.prog X.w (upd H x o) h' x o) : Inv X pins σ (upd H x o) { s with heap := h', toks := t' } := I.un (Un.write mu he k heo) (I.hok.write mu he k heo new)
theorem Inv.pins_of {pins' : List (Addr × Obj)} (I : Inv X pins σ H s) (h : ∀ p ∈ pins', s.heap.get? p.1 = some p.2 /\ H p.1 = none /\ p.1 ≠ X.env.locals /\ p.1 ∉ X.fs /\ ∀ v, p.2.data ≠ .cell v) : Inv X pins' σ H s :=
 ⟨I.ok, I.os, I.bare, I.base, I.loc, I.cell, I.free, I.freeC, fun p hp => (List.mem_append.mp hp).elim (fun z => I.pin p (List.mem_append_left _ z)) (h p), I.hok, I.len⟩
theorem Rh {N : List Str} (hN : N.Nodup) {i j : Nat} {x : Str} (a : N[i]? = some x) (b : N[j]? = some x) : i = j := by
 obtain ⟨h1, e1⟩ := List.getElem?_eq_some_iff.mp a
 obtain ⟨h2, e2⟩ := List.getElem?_eq_some_iff.mp b
 exact (List.getElem_inj hN).mp (e1.trans e2.symm)
theorem Xz {M : Model} {A : Around} {E : Value -> Shared -> Prop} {i : Nat} {x : Str} {v : V} {u : Value} {Q : Unit -> Shared -> Prop} (I : Inv X pins σ H s) (hN : X.N.Nodup) (hi : X.N[i]? = some x) (hx : Loc X.env.scope x) (r : RelV v u)
  (h : ∀ s', Inv X pins (σ.set i (some v)) H s' -> (∃ a, Heap.SameBut a s.heap s'.heap /\ (a = X.env.locals \/ X.env.cells.lookup x = some a)) -> Q () s') (hf : X.fn x = true \/ X.env.scope.names.lookup x = some .local := by first | exact .inl rfl | exact .inr rfl | assumption) : wpAny M A (storeName X.env x u) Q E s := by
 obtain ⟨m, hn, hl⟩ := id I.loc
 have hcls : (X.env.scope.kind == .class || (X.env.scope.kind == .module && X.env.locals != X.env.globals)) = false := by rw [I.ok.kind]; rfl
 have hiσ : i < σ.length := by rw [I.len]; exact (List.getElem?_eq_some_iff.mp hi).1
 have cne := I.cne
 have tracked : ∀ {a : Addr} {h' : Heap}, (∃ o, s.heap.get? a = some o /\ H a = none) -> Heap.SameBut a s.heap h' -> HOk X.prog X.w H h' := fun {a h'} ha hs b ob e => by
  obtain ⟨_, _, hfree⟩ := ha
  refine (I.hok b ob e).stay (fun c w' hc q => (hs.2 c ?_).trans q) (fun _ q => q) fun _ _ q => q
  rintro rfl
  rcases hc with rfl | hc
  ·rw [hfree] at e; cases e
  ·rw [hfree] at hc; cases hc
 rcases hx with hk | hk
 ·refine wpAny_storeName_local hk hn (fun h' hn' hs => ?_) hcls
  obtain ⟨oL, _, _, hoL, _⟩ := id hn
  refine h _ ⟨I.ok, I.os, I.bare, ⟨fun b o e n hb hx => ?_, fun b o e n hb hx => ?_, I.base.free, fun b o e hx => ?_, I.base.tups, I.base.frzs, I.base.tbls⟩, ⟨_, hn', fun j y v' e1 e2 e3 => ?_⟩, fun y c e => ?_, I.free, I.freeC, fun p hp => ?_, tracked ⟨oL, hoL, I.free⟩ hs, by simpa using I.len⟩ ⟨_, hs, .inl rfl⟩
  ·exact (hs.2 b (Nat.ne_of_lt (Nat.lt_of_lt_of_le (Heap.lt_size e) I.ok.above))).trans (I.base.keep b o e n hb hx)
  ·obtain ⟨sl, e1⟩ := I.base.slot b o e n hb hx
   exact ⟨sl, (hs.2 b (Nat.ne_of_lt (Nat.lt_of_lt_of_le (Heap.lt_size e) I.ok.above))).trans e1⟩
  ·obtain ⟨o', e1⟩ := I.base.there b o e hx
   exact ⟨o', (hs.2 b (Nat.ne_of_lt (Nat.lt_of_lt_of_le (Heap.lt_size e) I.ok.above))).trans e1⟩
  ·by_cases hj : j = i
   ·subst hj
    rw [hi] at e1; cases e1
    rw [List.getElem?_set_self hiσ] at e2
    cases e2
    exact ⟨u, r, .inl ⟨hk, by simp⟩⟩
   ·rw [List.getElem?_set_ne (Ne.symm hj)] at e2
    obtain ⟨u', r', q⟩ := hl j y v' e1 e2 e3
    refine ⟨u', r', ?_⟩
    rcases q with ⟨k, e⟩ | ⟨k, c, e, z⟩
    ·refine .inl ⟨k, ?_⟩
     have : y ≠ x := fun e => hj (Rh hN e1 (e ▸ hi))
     simp [this, e]
    ·exact .inr ⟨k, c, e, z.sameBut hs (cne y c e)⟩
  ·obtain ⟨w', z⟩ := I.cell y c e
   exact ⟨w', z.sameBut hs (cne y c e)⟩
  ·obtain ⟨e, n, ne, nf, d⟩ := I.pin p hp
   exact ⟨(hs.2 p.1 ne).trans e, n, ne, nf, d⟩
 ·have hfn : X.fn x = true := by
   rcases hf with z | z
   ·exact z
   ·rw [z] at hk; cases hk
  obtain ⟨c, hc⟩ := I.ok.has x (.inl hk)
  obtain ⟨w', z⟩ := I.cell x c hc
  refine wpAny_storeName_cell I.ok.kind hk hc z (fun h' hc' hs => ?_)
  obtain ⟨oc, hoc, hocd⟩ := id z
  refine h { s with heap := h' } ⟨I.ok, I.os, I.bare, ⟨fun b o e n hb hx => ?_, fun b o e n hb hx => ?_, I.base.free, fun b o e hx => ?_, I.base.tups, I.base.frzs, I.base.tbls⟩, ⟨m, hn.sameBut hs (Ne.symm (cne x c hc)), fun j y v' e1 e2 e3 => ?_⟩, fun y c' e => ?_, I.free, I.freeC, fun p hp => ?_, tracked ⟨oc, hoc, I.freeC x c hc⟩ hs, by simpa using I.len⟩ ⟨c, hs, .inr hc⟩
  ·exact (hs.2 b (Nat.ne_of_lt (Nat.lt_of_lt_of_le (Heap.lt_size e) (I.ok.cab x c hfn hc)))).trans (I.base.keep b o e n hb hx)
  ·obtain ⟨sl, e1⟩ := I.base.slot b o e n hb hx
   exact ⟨sl, (hs.2 b (Nat.ne_of_lt (Nat.lt_of_lt_of_le (Heap.lt_size e) (I.ok.cab x c hfn hc)))).trans e1⟩
  ·obtain ⟨o', e1⟩ := I.base.there b o e hx
   exact ⟨o', (hs.2 b (Nat.ne_of_lt (Nat.lt_of_lt_of_le (Heap.lt_size e) (I.ok.cab x c hfn hc)))).trans e1⟩
  ·by_cases hj : j = i
   ·subst hj
    rw [hi] at e1; cases e1
    rw [List.getElem?_set_self hiσ] at e2
    cases e2
    exact ⟨u, r, .inr ⟨.inl hk, c, hc, hc'⟩⟩
   ·rw [List.getElem?_set_ne (Ne.symm hj)] at e2
    obtain ⟨u', r', q⟩ := hl j y v' e1 e2 e3
    refine ⟨u', r', ?_⟩
    rcases q with q | ⟨k, c', e, z'⟩
    ·exact .inl q
    ·refine .inr ⟨k, c', e, z'.sameBut hs ?_⟩
     rintro rfl
     exact hj (Rh hN e1 (I.ok.inj _ _ _ e hc ▸ hi))
  ·by_cases hcc : c' = c
   ·subst hcc; exact ⟨_, hc'⟩
   ·obtain ⟨w2, z2⟩ := I.cell y c' e
    exact ⟨w2, z2.sameBut hs hcc⟩
  ·obtain ⟨e, n, ne, nf, d⟩ := I.pin p hp
   refine ⟨(hs.2 p.1 ?_).trans e, n, ne, nf, d⟩
   intro q
   rw [q, hoc] at e
   have q' : oc = p.2 := Option.some.inj e
   exact d w' (by rw [<- q']; exact hocd)
theorem QH {M : Model} {A : Around} {E : Value -> Shared -> Prop} {i : Nat} {x : Str} {v : V} {u : Value} {Q : Unit -> Shared -> Prop} (I : Inv X pins σ H s) (hN : X.N.Nodup) (hi : X.N[i]? = some x) (hx : Loc X.env.scope x) (r : RelV v u)
  (h : ∀ s', Inv X pins (σ.set i (some v)) H s' -> Q () s') (hf : X.fn x = true \/ X.env.scope.names.lookup x = some .local := by first | exact .inl rfl | exact .inr rfl | assumption) : wpAny M A (storeName X.env x u) Q E s :=
 Xz I hN hi hx r (fun s' I' _ => h s' I') hf
theorem Inv.call' {s' : Shared} {ch : List Addr} (I : Inv X pins σ H s) (ho : s'.os = s.os) (u : Un (frs X.stack) ch H H' s.heap s'.heap) (hok : HOk X.prog X.w H' s'.heap) (hg : AllBare s'.gens)
  (hch : ∀ b ∈ ch, (b ∈ X.ex \/ X.s₀.heap.objs.size <= b) /\ b ≠ X.env.locals /\ (∀ x c, X.env.cells.lookup x = some c -> c ≠ b) /\ ∀ p ∈ X.pn ++ pins, p.1 ≠ b) : Inv X pins σ H' s' := by
 obtain ⟨h', g', d', t', o'⟩ := s'
 have e : o' = s.os := ho
 subst e
 exact I.call (g' := g') (t' := t') (d' := d') u hok hg hch
end
abbrev XK := Value -> Option Addr -> Hp -> Prop
abbrev St := List (Option V)
abbrev VK := V -> Hp -> Prop
abbrev TE := St -> Hp -> VK -> Prop
abbrev TT := St -> Hp -> (Bool -> Hp -> Prop) -> Prop
abbrev TA := St -> Hp -> (List V -> Hp -> Prop) -> Prop
structure Ends where
 nx : St -> Hp -> Prop
 rt : VK
 bk : St -> Hp -> Prop := fun _ _ => False
 ct : St -> Hp -> Prop := fun _ _ => False
abbrev TS := Ends -> St -> Hp -> Prop
def EP (X : Cx) (pins : List (Addr × Obj)) (σ : St) (Q : VK) (u : Value) (s' : Shared) : Prop := ∃ v H', Inv X pins σ H' s' /\ RelV v u /\ Q v H'
def TP (X : Cx) (pins : List (Addr × Obj)) (σ : St) (Q : Bool -> Hp -> Prop) (b : Bool) (s' : Shared) : Prop := ∃ H', Inv X pins σ H' s' /\ Q b H'
def AP (X : Cx) (pins : List (Addr × Obj)) (σ : St) (Q : List V -> Hp -> Prop) (us : List Value) (s' : Shared) : Prop := ∃ vs H', Inv X pins σ H' s' /\ Vals vs us /\ Q vs H'
def SP (X : Cx) (pins : List (Addr × Obj)) (D : Ends) (f : Flow) (s' : Shared) : Prop :=
 match f with
 | .next => ∃ σ' H', Inv X pins σ' H' s' /\ D.nx σ' H'
 | .brk => ∃ σ' H', Inv X pins σ' H' s' /\ D.bk σ' H'
 | .cont => ∃ σ' H', Inv X pins σ' H' s' /\ D.ct σ' H'
 | .ret u => ∃ v σ' H', Inv X pins σ' H' s' /\ RelV v u /\ D.rt v H'
def PE (X : Cx) (e : Expr) (t : TE) : Prop :=
 ∀ (pins : List (Addr × Obj)) (s : Shared) (σ : St) (H : Hp) (Q : VK), Inv X pins σ H s -> t σ H Q -> wpAny (model X.prog X.w) X.A (eval e X.env) (EP X pins σ Q) X.xe s
def PT (X : Cx) (e : Expr) (t : TT) : Prop :=
 ∀ (pins : List (Addr × Obj)) (s : Shared) (σ : St) (H : Hp) (Q : Bool -> Hp -> Prop), Inv X pins σ H s -> t σ H Q -> wpAny (model X.prog X.w) X.A (isTrue e X.env (eval e X.env)) (TP X pins σ Q) X.xe s
def PW (X : Cx) (e : Expr) (t : TT) : Prop :=
 ∀ (whole : Sem Value) (pins : List (Addr × Obj)) (s : Shared) (σ : St) (H : Hp) (Q : Bool -> Hp -> Prop), Inv X pins σ H s -> t σ H Q -> wpAny (model X.prog X.w) X.A (isTrue e X.env whole) (TP X pins σ Q) X.xe s
theorem PW.pt {X : Cx} {e : Expr} {t : TT} (h : PW X e t) : PT X e t := h _
def PA (X : Cx) (es : List Expr) (t : TA) : Prop :=
 ∀ (pos : Pos) (pins : List (Addr × Obj)) (s : Shared) (σ : St) (H : Hp) (Q : List V -> Hp -> Prop), Inv X pins σ H s -> t σ H Q -> wpAny (model X.prog X.w) X.A (spliced (backTo pos (starEach es X.env))) (AP X pins σ Q) X.xe s
def PS (X : Cx) (st : Stmt) (t : TS) : Prop :=
 ∀ (pins : List (Addr × Obj)) (s : Shared) (σ : St) (H : Hp) (D : Ends), Inv X pins σ H s -> t D σ H -> wpAny (model X.prog X.w) X.A (exec st X.env) (SP X pins D) X.xe s
def PSs (X : Cx) (st : List Stmt) (t : TS) : Prop :=
 ∀ (pins : List (Addr × Obj)) (s : Shared) (σ : St) (H : Hp) (D : Ends), Inv X pins σ H s -> t D σ H -> wpAny (model X.prog X.w) X.A (execs st X.env) (SP X pins D) X.xe s
theorem thn {α : Type} {t : Sem α} {Q Q' : α -> Shared -> Prop} {M : Model} {A : Around} {E : Value -> Shared -> Prop} {s : Shared} (h : wpAny M A t Q E s) (hQ : ∀ a s, Q a s -> Q' a s) : wpAny M A t Q' E s := wpAny_mono h hQ fun _ _ x => x
end L2
namespace L2
open PySem PySem.Spec PyProof.Rows
section
variable {X : Cx}
def acj (i : Nat) : TE := fun σ H Q => ∃ v, σ[i]? = some (some v) /\ Q v H
def tC (v : V) : TE := fun _ H Q => Q v H
theorem adt {i : Nat} {x : Str} {pos : Pos} (hN : X.N[i]? = some x) (hv : Vis X.env.scope x) (hd : (x == ("__debug__" : Str)) = false := by decide) (hcd : (x == ("__classdict__" : Str)) = false := by decide) : PE X (.Name x pos) (acj i) := by
 intro pins s σ H Q I h
 obtain ⟨v, e, h⟩ := h
 obtain ⟨m, hn, hl⟩ := I.loc
 obtain ⟨u, r, l⟩ := hl i x v hN e hv
 have fin : EP X pins σ Q u s := ⟨v, H, I, r, h⟩
 rcases l with ⟨hk, hm⟩ | ⟨hk, c, hc, hcell⟩
 ·exact wpAny_Name (wpAny_loadName_local I.ok.kind hk hn hm fin) hd
 ·rcases hk with hk | hk
  ·exact wpAny_Name (wpAny_loadName_cell I.ok.kind hk hc hcell fin) hd
  ·exact wpAny_Name (wpAny_loadName_free I.ok.kind hk hc hcell fin hcd) hd
theorem Ab {i j pos} : PE X (.Constant (.int i) j pos) (tC (.int i)) := fun _ _ _ H _ I h => wpAny_Constant_int ⟨.int i, H, I.tok _, ⟨_, rfl⟩, h⟩
theorem HF {b j pos} : PE X (.Constant (.bool b) j pos) (tC (.bl b)) := fun _ _ _ H _ I h => Constant_bool ⟨.bl b, H, I, rfl, h⟩
theorem Jz {j pos} : PE X (.Constant .none j pos) (tC .non) := fun _ _ _ H _ I h => Constant_none ⟨.non, H, I, rfl, h⟩
theorem Aw {x j pos} : PE X (.Constant (.str x) j pos) (tC (.str x)) := fun _ _ _ H _ I h => Calls.Constant_str ⟨.str x, H, I.tok _, ⟨_, rfl⟩, h⟩
def Gl (X : Cx) (x : Str) : Prop := X.env.kindOf x = some .globalImplicit
theorem Jf {E : Value -> Shared -> Prop} {pins : List (Addr × Obj)} {s : Shared} {σ : St} {H : Hp} {x : Str} {u : Value} {pos : Pos} {Q : Value -> Shared -> Prop} (I : Inv X pins σ H s) (hg : Gl X x) (hm : X.mg x = some u) (h : Q u s)
  (hd : (x == ("__debug__" : Str)) = false := by decide) : wpAny (model X.prog X.w) X.A (eval (.Name x pos) X.env) Q E s :=
 Calls.Name_function_global I.ok.kind hg (Calls.loadGlobal_global (by rw [I.ok.glob]; exact I.mod.glob.keeps I.bk) hm h) hd
theorem Qq {E : Value -> Shared -> Prop} {pins : List (Addr × Obj)} {s : Shared} {σ : St} {H : Hp} {x : Str} {u : Value} {pos : Pos} {Q : Value -> Shared -> Prop} (I : Inv X pins σ H s) (hg : Gl X x) (hm : X.mg x = none) (hv : bootBuiltins x = some u) (h : Q u s)
  (hn : x ≠ "__name__" := by decide) (hd : (x == ("__debug__" : Str)) = false := by decide) : wpAny (model X.prog X.w) X.A (eval (.Name x pos) X.env) Q E s := by
 obtain ⟨mb, h1, h2⟩ := I.mod.blt
 exact Calls.Name_function_global I.ok.kind hg (Calls.loadGlobal_builtin (by rw [I.ok.glob]; exact I.mod.glob.keeps I.bk) hm (by rw [I.ok.blt]; exact h1.keeps I.bk) ((h2 x hn).trans hv) h) hd
theorem Bl {x : Str} {v : V} {u : Value} {pos : Pos} (hg : Gl X x) (hm : X.mg x = some u) (r : RelV v u) (hd : (x == ("__debug__" : Str)) = false := by decide) : PE X (.Name x pos) (tC v) :=
 fun _ _ _ H _ I h => Jf I hg hm ⟨v, H, I, r, h⟩ hd
theorem abT {x : Str} {v : V} {u : Value} {pos : Pos} (hg : Gl X x) (hm : X.mg x = none) (hv : bootBuiltins x = some u) (r : RelV v u) (hn : x ≠ "__name__" := by decide) (hd : (x == ("__debug__" : Str)) = false := by decide) : PE X (.Name x pos) (tC v) :=
 fun _ _ _ H _ I h => Qq I hg hm hv ⟨v, H, I, r, h⟩ hn hd
variable {a b : Expr} {ta tb : TE} {pos : Pos}
def tB (t : TE) : TT := fun σ H Q => t σ H fun x H1 => ∃ c, x = .bl c /\ Q c H1
theorem Iu {e : Expr} {t : TE} (h : PE X e t) (he : ∀ whole, isTrue e X.env whole = (do let v <- whole; standAt e.pos; holding [v] (truthy v)) := by intro _; rfl) : PT X e (tB t) := by
 intro pins s σ H Q I hw
 refine isTrue_plain (thn (h pins s σ H _ I hw) fun v s1 ⟨x, H1, I1, r1, q1⟩ => ?_) (he _)
 obtain ⟨d, rfl, q⟩ := q1
 cases r1
 exact wpAny_truthy_bool ⟨H1, I1, q⟩
variable {tA tB' : TT} {rest : List Expr}
def aer (t u : TT) : TT := fun σ H Q => t σ H fun c H1 => if c = true then u σ H1 Q else Q false H1
def tOr (t u : TT) : TT := fun σ H Q => t σ H fun c H1 => if c = true then Q true H1 else u σ H1 Q
def aeB (t : TT) : TT := fun σ H Q => t σ H fun c H1 => Q (!c) H1
theorem Og (ha : PT X a tA) : PW X (.BoolOp .And [a] pos) tA := by
 intro wh pins s σ H Q I h
 refine isTrue_and (thn (ha pins s σ H Q I h) fun c s1 e => ?_)
 cases c with
 | true => exact isTrue_and_nil e
 | false => exact e
theorem Jd (ha : PT X a tA) : PW X (.BoolOp .Or [a] pos) tA := by
 intro wh pins s σ H Q I h
 refine isTrue_or (thn (ha pins s σ H Q I h) fun c s1 e => ?_)
 cases c with
 | false => exact isTrue_or_nil e
 | true => exact e
theorem Sh (ha : PT X a tA) (hb : PW X (.BoolOp .And (b :: rest) pos) tB') : PW X (.BoolOp .And (a :: b :: rest) pos) (aer tA tB') := by
 intro wh pins s σ H Q I h
 refine isTrue_and (thn (ha pins s σ H _ I h) fun c s1 ⟨H1, I1, q1⟩ => ?_)
 cases c with
 | true => exact hb wh pins s1 σ H1 Q I1 q1
 | false => exact ⟨H1, I1, q1⟩
theorem Kp (ha : PT X a tA) (hb : PW X (.BoolOp .Or (b :: rest) pos) tB') : PW X (.BoolOp .Or (a :: b :: rest) pos) (tOr tA tB') := by
 intro wh pins s σ H Q I h
 refine isTrue_or (thn (ha pins s σ H _ I h) fun c s1 ⟨H1, I1, q1⟩ => ?_)
 cases c with
 | true => exact ⟨H1, I1, q1⟩
 | false => exact hb wh pins s1 σ H1 Q I1 q1
theorem IK (ha : PT X a tA) : PT X (.UnaryOp .Not a pos) (aeB tA) := by
 intro pins s σ H Q I h
 exact isTrue_not (ha pins s σ H (fun c H1 => Q (!c) H1) I h)
def acK (ta tb : TE) : TE := fun σ H Q => ta σ H fun x H1 => ∃ c, x = .bl c /\ if c = true then tb σ H1 Q else Q (.bl false) H1
def adk (ta : TE) : TE := fun σ H Q => ta σ H fun x H1 => ∃ c, x = .bl c /\ Q (.bl (!c)) H1
theorem acV {op} {t : TE} (h : PE X a t) : PE X (.BoolOp op [a] pos) t := fun pins s σ H Q I hw => BoolOp_one (h pins s σ H Q I hw)
theorem acQ (ha : PE X a ta) (hb : PE X (.BoolOp .And (b :: rest) pos) tb) : PE X (.BoolOp .And (a :: b :: rest) pos) (acK ta tb) := by
 intro pins s σ H Q I h
 refine BoolOp_and (thn (ha pins s σ H _ I h) fun v s1 ⟨x, H1, I1, r1, q1⟩ => ?_)
 obtain ⟨c, rfl, q1⟩ := q1
 cases r1
 refine wpAny_truthy_bool ?_
 cases c with
 | true => exact hb pins s1 σ H1 Q I1 q1
 | false => exact ⟨.bl false, H1, I1, rfl, q1⟩
theorem ada (ha : PE X a ta) : PE X (.UnaryOp .Not a pos) (adk ta) := by
 intro pins s σ H Q I h
 refine UnaryOp_ (thn (ha pins s σ H _ I h) fun v s1 ⟨x, H1, I1, r1, q1⟩ => ?_)
 obtain ⟨c, rfl, q1⟩ := q1
 cases r1
 exact not_of (wpAny_truthy_bool ⟨.bl (!c), H1, I1, rfl, q1⟩)
def tIf (t : TT) (ta tb : TE) : TE := fun σ H Q => t σ H fun c H1 => if c = true then ta σ H1 Q else tb σ H1 Q
theorem VL {c : Expr} (hc : PT X c tA) (ha : PE X a ta) (hb : PE X b tb) : PE X (.IfExp c a b pos) (tIf tA ta tb) := by
 intro pins s σ H Q I h
 refine wpAny_IfExp (thn (hc pins s σ H _ I h) fun d s1 ⟨H1, I1, q1⟩ => ?_)
 cases d with
 | true => exact ha pins s1 σ H1 Q I1 q1
 | false => exact hb pins s1 σ H1 Q I1 q1
end
end L2
namespace L2
open PySem PySem.Spec PyProof.Rows
def SqL (K : Fg_) (H : Hp) (a : Addr) (xs : List V) : Prop :=
 Rd H a (.lst xs) \/
  ∃ (o : Obj) (its : Array Value) (n : Nat), K.lookup a = some o /\ o.cls = .type "list" /\ o.dict = none /\ o.data = .seq its n /\ its.size <= sizeLine /\ Vals xs its.toList
def SqT (K : Fg_) (H : Hp) (a : Addr) (xs : List V) : Prop :=
 Rd H a (.tup xs) \/
  ∃ (o : Obj) (its : Array Value) (n : Nat), K.lookup a = some o /\ o.cls = .type "tuple" /\ o.data = .seq its n /\ its.size <= sizeLine /\ Vals xs its.toList
def aeE : Value -> Option V
 | .none => some .non
 | .bool b => some (.bl b)
 | .int i _ => some (.int i)
 | .str x _ => some (.str x)
 | .bytes b _ => some (.byt b)
 | .float b _ => some (.flt b)
 | .ref a => some (.ref a)
 | .type n => some (.ty n)
 | _ => none
theorem RelV.abs {x : V} {u : Value} (r : RelV x u) : aeE u = some x := by
 cases x with
 | non => cases r; rfl
 | bl _ => cases r; rfl
 | int _ => obtain ⟨t, rfl⟩ := r; rfl
 | str _ => obtain ⟨t, rfl⟩ := r; rfl
 | byt _ => obtain ⟨t, rfl⟩ := r; rfl
 | flt _ => obtain ⟨t, rfl⟩ := r; rfl
 | ref _ => cases r; rfl
 | ty _ => cases r; rfl
theorem RelV.inj {x y : V} {u : Value} (r : RelV x u) (q : RelV y u) : x = y := Option.some.inj (r.abs.symm.trans q.abs)
theorem Vals.inj : ∀ {xs ys : List V} {us : List Value}, Vals xs us -> Vals ys us -> xs = ys
 | _, _, _, .nil, .nil => rfl
 | _, _, _, .cons r t, .cons r' t' => by rw [r.inj r', Vals.inj t t']
section
variable {X : Cx} {pins : List (Addr × Obj)} {σ : St} {H : Hp} {s : Shared} {a : Addr} {xs ys : List V}
theorem SqL.of {K : Fg_} (h : H a = some (.lst xs)) : SqL K H a xs := .inl (.inl h)
theorem SqT.of {K : Fg_} (h : H a = some (.tup xs)) : SqT K H a xs := .inl (.inl h)
theorem Inv.list (I : Inv X pins σ H s) (h : SqL X.K H a xs) : ∃ its : List Value, Vals xs its /\ PlainL s.heap a its.toArray /\ xs.length <= sizeLine := by
 rcases h with h | ⟨o, its, n, hk, hc, hd, hs, hz, r⟩
 ·obtain ⟨z, its, n, r, e⟩ := h.ok I.hok
  exact ⟨its, r, ⟨_, n, e, rfl, rfl, rfl⟩, z⟩
 ·refine ⟨its.toList, r, ⟨o, n, I.kIn a o hk, hc, hd, by simpa using hs⟩, ?_⟩
  have e := r.length
  simp only [Array.length_toList] at e
  omega
theorem Inv.tuple (I : Inv X pins σ H s) (h : SqT X.K H a xs) : ∃ its : List Value, Vals xs its /\ IsTup s.heap a its.toArray /\ xs.length <= sizeLine := by
 rcases h with h | ⟨o, its, n, hk, hc, hs, hz, r⟩
 ·obtain ⟨z, its, r, p⟩ := h.ok I.hok
  exact ⟨its, r, p, z⟩
 ·refine ⟨its.toList, r, ⟨o, I.kIn a o hk, hc, n, by simpa using hs⟩, ?_⟩
  have e := r.length
  simp only [Array.length_toList] at e
  omega
theorem Inv.list_inj (I : Inv X pins σ H s) (h : SqL X.K H a xs) (h' : SqL X.K H a ys) : xs = ys := by
 obtain ⟨its, r, ⟨o, n, e, _, _, d⟩, _⟩ := I.list h
 obtain ⟨its', r', ⟨o', n', e', _, _, d'⟩, _⟩ := I.list h'
 rw [e] at e'; cases e'
 rw [d] at d'
 injection d' with d1 _
 have : its = its' := by simpa using congrArg Array.toList d1
 subst this
 exact r.inj r'
theorem Inv.tuple_inj (I : Inv X pins σ H s) (h : SqT X.K H a xs) (h' : SqT X.K H a ys) : xs = ys := by
 obtain ⟨its, r, ⟨o, e, _, n, d⟩, _⟩ := I.tuple h
 obtain ⟨its', r', ⟨o', e', _, n', d'⟩, _⟩ := I.tuple h'
 rw [e] at e'; cases e'
 rw [d] at d'
 injection d' with d1 _
 have : its = its' := by simpa using congrArg Array.toList d1
 subst this
 exact r.inj r'
end
abbrev Cx.wish (X : Cx) (E : Value -> Shared -> Prop) : Cx := { X with xe := E }
abbrev Cx.nox (X : Cx) : Cx := X.wish fun _ _ => False
theorem Cx.Ok.wish {X : Cx} (ok : X.Ok) (E : Value -> Shared -> Prop) : (X.wish E).Ok :=
 ⟨ok.mod, ok.kind, ok.glob, ok.blt, ok.above, ok.inj, ok.has, ok.cab, ok.hd, ok.frames, ok.stk, ok.exf, ok.bs, ok.bsz, ok.noex, ok.exfs, ok.funs, ok.frf⟩
theorem Cx.Ok.unwish {X : Cx} {E : Value -> Shared -> Prop} (ok : (X.wish E).Ok) : X.Ok :=
 ⟨ok.mod, ok.kind, ok.glob, ok.blt, ok.above, ok.inj, ok.has, ok.cab, ok.hd, ok.frames, ok.stk, ok.exf, ok.bs, ok.bsz, ok.noex, ok.exfs, ok.funs, ok.frf⟩
section
variable {X : Cx} {pins : List (Addr × Obj)} {σ : St} {H : Hp} {s : Shared} {E : Value -> Shared -> Prop}
theorem Inv.wish (I : Inv X pins σ H s) (E : Value -> Shared -> Prop) : Inv (X.wish E) pins σ H s := ⟨I.ok.wish E, I.os, I.bare, I.base, I.loc, I.cell, I.free, I.freeC, I.pin, I.hok, I.len⟩
theorem Inv.unwish (I : Inv (X.wish E) pins σ H s) : Inv X pins σ H s := ⟨I.ok.unwish, I.os, I.bare, I.base, I.loc, I.cell, I.free, I.freeC, I.pin, I.hok, I.len⟩
theorem SP.unwish {D : Ends} {f : Flow} {s' : Shared} (h : SP (X.wish E) pins D f s') : SP X pins D f s' := by
 cases f with
 | next => obtain ⟨σ', H', I, q⟩ := h; exact ⟨σ', H', I.unwish, q⟩
 | brk => obtain ⟨σ', H', I, q⟩ := h; exact ⟨σ', H', I.unwish, q⟩
 | cont => obtain ⟨σ', H', I, q⟩ := h; exact ⟨σ', H', I.unwish, q⟩
 | ret u => obtain ⟨v, σ', H', I, r, q⟩ := h; exact ⟨v, σ', H', I.unwish, r, q⟩
theorem PSs.nox {st : List Stmt} {t : TS} (h : PSs X.nox st t) : PSs X st t := fun pins s σ H D I hw =>
 wpAny_mono (h pins s σ H D (I.wish _) hw) (fun _ _ q => q.unwish) fun _ _ z => False.elim z
end
section
variable {X : Cx} {st : Stmt} {rest : List Stmt} {t u : TS} {e : Expr} {te : TE} {pos : Pos}
def adn : TS := fun D σ H => D.nx σ H
def acD (t u : TS) : TS := fun D σ H => t { D with nx := u D } σ H
theorem Av : PSs X [] adn := fun _ _ σ H _ I h => wpAny_execs_nil ⟨σ, H, I, h⟩
theorem Ac (h1 : PS X st t) (h2 : PSs X rest u) : PSs X (st :: rest) (acD t u) := by
 intro pins s σ H D I h
 refine wpAny_execs_cons (thn (h1 pins s σ H { D with nx := u D } I h) fun f s1 q => ?_)
 cases f with
 | next =>
  obtain ⟨σ', H', I', q⟩ := q
  exact h2 pins s1 σ' H' D I' q
 | ret v => exact q
 | brk => exact q
 | cont => exact q
theorem Af (h1 : PS X st t) : PSs X [st] t := by
 intro pins s σ H D I h
 refine wpAny_execs_cons (thn (h1 pins s σ H D I h) fun f s1 q => ?_)
 cases f with
 | next => exact wpAny_execs_nil q
 | ret v => exact q
 | brk => exact q
 | cont => exact q
theorem Inv.quiet {pins : List (Addr × Obj)} {σ : St} {H : Hp} {s : Shared} (I : Inv X pins σ H s) : interactive X.env = false := by simp [interactive, I.ok.kind]
def aby (te : TE) : TS := fun D σ H => te σ H fun _ H1 => D.nx σ H1
theorem Bh (he : PE X e te) (hs : swapsWith e none pos.line X.env = pure false := by rfl) : PS X (.Expr e pos) (aby te) := by
 intro pins s σ H D I h
 exact wpAny_Expr_any (thn (he pins s σ H _ I h) fun v s1 ⟨x, H1, I1, r1, q1⟩ => ⟨σ, H1, I1, q1⟩) I.quiet hs
def aez (te : TE) : TS := fun D σ H => te σ H D.rt
theorem Am (he : PE X e te) : PS X (.Return (some e) pos) (aez te) := by
 intro pins s σ H D I h
 exact wpAny_Return_some (thn (he pins s σ H _ I h) fun v s1 ⟨x, H1, I1, r1, q1⟩ => ⟨x, σ, H1, I1, r1, q1⟩)
def adz : TS := fun D _ H => D.rt .non H
theorem ach : PS X (.Return none pos) adz := fun _ _ σ H _ I h => wpAny_Return_none ⟨.non, σ, H, I, rfl, h⟩
def adA (c : TT) (t u : TS) : TS := fun D σ H => c σ H fun b H1 => if b = true then t D σ H1 else u D σ H1
theorem Bq {c : Expr} {a b : List Stmt} {tc : TT} (hc : PT X c tc) (ha : PSs X a t) (hb : PSs X b u) : PS X (.If c a b pos) (adA tc t u) := by
 intro pins s σ H D I h
 refine wpAny_If (thn (hc pins s σ H _ I h) fun d s1 ⟨H1, I1, q1⟩ => ?_)
 cases d with
 | true => exact ha pins s1 σ H1 D I1 q1
 | false => exact hb pins s1 σ H1 D I1 q1
def acL : TS := fun _ _ _ => False
theorem Ie : PS X st acL := fun _ _ _ _ _ _ h => h.elim
end
abbrev TG := V -> St -> Hp -> (St -> Hp -> Prop) -> Prop
abbrev TGs := List V -> St -> Hp -> (St -> Hp -> Prop) -> Prop
def PG (X : Cx) (target : Expr) (t : TG) : Prop :=
 ∀ (pins : List (Addr × Obj)) (s : Shared) (σ : St) (H : Hp) (v : V) (u : Value) (Q : St -> Hp -> Prop), Inv X pins σ H s -> RelV v u -> t v σ H Q ->
  wpAny (model X.prog X.w) X.A (assign target X.env u) (fun _ s' => ∃ σ' H', Inv X pins σ' H' s' /\ Q σ' H') X.xe s
def PGs (X : Cx) (ts : List Expr) (t : TGs) : Prop :=
 ∀ (pins : List (Addr × Obj)) (s : Shared) (σ : St) (H : Hp) (vs : List V) (us : List Value) (Q : St -> Hp -> Prop), Inv X pins σ H s -> Vals vs us -> t vs σ H Q ->
  wpAny (model X.prog X.w) X.A (assignInOrder ((assignEach ts X.env).map (·.2)) us) (fun _ s' => ∃ σ' H', Inv X pins σ' H' s' /\ Q σ' H') X.xe s
abbrev aee := V -> V -> V -> Hp -> (Hp -> Prop) -> Prop
def aeA (X : Cx) (t : aee) : Prop :=
 ∀ (pins : List (Addr × Obj)) (s : Shared) (σ : St) (H : Hp) (o i v : V) (ov iv u : Value) (Q : Hp -> Prop), Inv X pins σ H s -> RelV o ov -> RelV i iv -> RelV v u -> t o i v H Q ->
  wpAny (model X.prog X.w) X.A (setItem ov iv u) (fun _ s' => ∃ H', Inv X pins σ H' s' /\ Q H') X.xe s
section
variable {X : Cx} {pos : Pos}
def XH (i : Nat) : TG := fun v σ H Q => Q (σ.set i (some v)) H
theorem Bm {i : Nat} {x : Str} (hN : X.N.Nodup) (hi : X.N[i]? = some x) (hx : Loc X.env.scope x) (hf : X.fn x = true \/ X.env.scope.names.lookup x = some .local := by first | exact .inl rfl | exact .inr rfl | assumption) : PG X (.Name x pos) (XH i) := by
 intro pins s σ H v u Q I r h
 exact wpAny_assign_Name (QH I hN hi hx r (fun s' I' => ⟨_, H, I', h⟩) hf)
def aes : TGs := fun vs σ H Q => vs = [] /\ Q σ H
def acW (t : TG) (u : TGs) : TGs := fun vs σ H Q => ∃ v r, vs = v :: r /\ t v σ H fun σ' H' => u r σ' H' Q
theorem Rx : PGs X [] aes := by
 intro pins s σ H vs us Q I r h
 obtain ⟨e, h⟩ := h
 subst e
 cases r
 exact assignInOrder_nil ⟨σ, H, I, h⟩
theorem DY {e : Expr} {es : List Expr} {t : TG} {u : TGs} (h1 : PG X e t) (h2 : PGs X es u)
  (hs : (assignEach (e :: es) X.env).map (·.2) = assign e X.env :: (assignEach es X.env).map (·.2) := by rfl) : PGs X (e :: es) (acW t u) := by
 intro pins s σ H vs us Q I r h
 obtain ⟨v, vr, e1, h⟩ := h
 subst e1
 cases r with
 | cons r rr =>
  rw [hs]
  refine assignInOrder_cons (thn (h1 pins s σ H _ _ _ I r h) fun _ s1 ⟨σ1, H1, I1, q1⟩ => ?_)
  exact h2 pins s1 σ1 H1 _ _ Q I1 rr q1
def adR (K : Fg_) (n : Nat) (t : TGs) : TG := fun v σ H Q => ∃ a xs, v = .ref a /\ SqT K H a xs /\ xs.length = n /\ t xs σ H Q
theorem acS {es : List Expr} {k : Nat} {t : TGs} {n : Nat} (hc : X.calm = true) (h : PGs X es t)
  (hn : (assignEach es X.env).length = n := by rfl) (hst : (assignEach es X.env).findIdx? (·.1) = none := by rfl) : PG X (.Tuple es k pos) (adR X.K n t) := by
 intro pins s σ H v u Q I r hw
 obtain ⟨a, xs, e1, hq, hl, hw⟩ := hw
 subst e1
 cases r
 obtain ⟨its, rv, ht, hz⟩ := I.tuple hq
 refine assign_Tuple_tuple (I.ok.hd hc) ht (by simp [hn, <- hl, rv.length]) hst fun h' hx => ?_
 have I1 : Inv X pins σ H { s with heap := h' } := I.kept (t' := s.toks) fun b o e => hx b o (Nat.ne_of_lt (Heap.lt_size e)) e
 exact h pins _ σ H xs _ Q I1 (by simpa using rv) hw
def aey (to ti : TE) (t : aee) : TG := fun v σ H Q => to σ H fun o H1 => ti σ H1 fun i H2 => t o i v H2 fun H3 => Q σ H3
theorem acX {o i : Expr} {to ti : TE} {t : aee} (ho : PE X o to) (hi : PE X i ti) (hs : aeA X t)
  (ha : ∀ v, assign (.Subscript o i pos) X.env v = (do
   let ov <- holding [v] (eval o X.env)
   let iv <- holding [v, ov] (eval i X.env)
   standAt pos
   holding [v, ov, iv] (setItem ov iv v)
   release [v, ov, iv] []) := by intro _; rfl) : PG X (.Subscript o i pos) (aey to ti t) := by
 intro pins s σ H v u Q I r h
 rw [ha]
 refine wpAny_bind (wpAny_holding (thn (ho pins s σ H _ I h) fun ov s1 ⟨x, H1, I1, r1, q1⟩ => ?_))
 refine wpAny_bind (wpAny_holding (thn (hi pins s1 σ H1 _ I1 q1) fun iv s2 ⟨y, H2, I2, r2, q2⟩ => ?_))
 refine wpAny_bind (wpAny_standAt (wpAny_bind (wpAny_holding (thn (hs pins s2 σ H2 x y v ov iv u _ I2 r1 r2 r q2) fun _ s3 ⟨H3, I3, q3⟩ => ?_))))
 exact wpAny_release ⟨σ, H3, I3, q3⟩
def aec (te : TE) (g : TG) : TS := fun D σ H => te σ H fun x H1 => g x σ H1 D.nx
theorem Yi {tg e : Expr} {te : TE} {g : TG} (he : PE X e te) (hg : PG X tg g) (hs : swapsWithSole [tg] e pos.line X.env = pure false := by rfl) (hw : swappedStores [tg] e X.env = pure none := by rfl)
  (h1 : (assignEach [tg] X.env).map (·.2) = [assign tg X.env] := by rfl) : PS X (.Assign [tg] e pos) (aec te g) := by
 intro pins s σ H D I h
 refine wpAny_Assign_stores (thn (he pins s σ H _ I h) fun v s1 ⟨x, H1, I1, r1, q1⟩ => ?_) hs hw
 rw [h1]
 exact thn (hg pins s1 σ H1 x v _ I1 r1 q1) fun _ s2 q => q
theorem Bd {i : Nat} {x : Str} {e : Expr} {te : TE} {pos' : Pos} (hN : X.N.Nodup) (hi : X.N[i]? = some x) (hx : Loc X.env.scope x) (he : PE X e te) (hs : swapsWith e (some (.Name x pos')) pos.line X.env = pure false := by rfl) (hf : X.fn x = true \/ X.env.scope.names.lookup x = some .local := by first | exact .inl rfl | exact .inr rfl | assumption) :
  PS X (.Assign [.Name x pos'] e pos) (aec te (XH i)) := by
 intro pins s σ H D I h
 refine wpAny_Assign_Name (thn (he pins s σ H _ I h) fun v s1 ⟨y, H1, I1, r1, q1⟩ => ?_) hs
 exact QH I1 hN hi hx r1 (fun s2 I2 => ⟨_, H1, I2, q1⟩) hf
end
structure It where
 go : Nat -> Hp -> Prop
 yld : Nat -> Hp -> V -> Hp -> Prop
 stop : Nat -> Hp -> Prop
def Wd (X : Cx) (pins : List (Addr × Obj)) (H : Hp) (b : Addr) : Prop :=
 H b = none /\ b ≠ X.env.locals /\ b ∉ X.fs /\ (b ∈ X.ex \/ X.s₀.heap.objs.size <= b) /\ (∀ x c, X.env.cells.lookup x = some c -> c ≠ b) /\ ∀ p ∈ X.pn ++ pins, p.1 ≠ b
theorem Inv.fpOk {X : Cx} {pins : List (Addr × Obj)} {σ : St} {H H' : Hp} {s : Shared} {b : Addr} (I : Inv X pins σ H s) (hb : s.heap.objs.size <= b) (hn : H' b = none) : Wd X pins H' b := by
 refine ⟨hn, Nat.ne_of_gt (Nat.lt_of_lt_of_le I.lt hb), I.nofs hb, .inr (Nat.le_trans I.sz hb), fun x c e z => ?_, fun p hp z => ?_⟩
 ·obtain ⟨v, q⟩ := I.cell x c e
  exact absurd (Nat.lt_of_lt_of_le q.lt (by rw [z]; exact hb)) (Nat.lt_irrefl _)
 ·exact absurd (Nat.lt_of_lt_of_le (Heap.lt_size (I.pin p hp).1) (by rw [z]; exact hb)) (Nat.lt_irrefl _)
structure Turn (P : Program) (w : World) (K : Fg_) (tg : Expr) (J : It) (fp : List Addr) (it : Addr) (tn : Nat -> Heap -> Prop) : Prop where
 mem : it ∈ fp
 obj : ∀ i h, tn i h -> ∀ b ∈ fp, ∃ o, h.get? b = some o /\ ∀ v, o.data ≠ .cell v
 keep : ∀ i h h', tn i h -> (∀ b ∈ fp, ∀ o, h.get? b = some o -> h'.get? b = some o) -> tn i h'
 item : ∀ (X : Cx), X.prog = P -> X.w = w -> X.K = K -> X.calm = true -> ∀ (i : Nat) (pins : List (Addr × Obj)) (s : Shared) (σ : St) (H : Hp) (E : Value -> Shared -> Prop), Inv X pins σ H s -> (∀ b ∈ fp, Wd X pins H b) -> tn i s.heap -> J.go i H ->
  wpAny (model P w) X.A (pyNext (.ref it)) (fun r s1 => ∃ u, r = some u /\
   wpAny (model P w) X.A (letOwnedTupleGo tg (.ref it) u) (fun _ s2 => ∃ x H', Inv X pins σ H' s2 /\ RelV x u /\ J.yld i H x H' /\ tn (i + 1) s2.heap /\ ∀ b ∈ fp, H' b = none) E s1) E s
 done : ∀ (X : Cx), X.prog = P -> X.w = w -> X.K = K -> X.calm = true -> ∀ (i : Nat) (pins : List (Addr × Obj)) (s : Shared) (σ : St) (H : Hp) (E : Value -> Shared -> Prop), Inv X pins σ H s -> (∀ b ∈ fp, Wd X pins H b) -> tn i s.heap -> J.stop i H ->
  wpAny (model P w) X.A (pyNext (.ref it)) (fun r s1 => r = none /\ Inv X pins σ H s1) E s
 self : ∀ (A : Around) (i : Nat) (s : Shared) (Q : Value -> Shared -> Prop) (E : Value -> Shared -> Prop), tn i s.heap -> Q (.ref it) s -> wpAny (model P w) A (pyIter (.ref it)) Q E s
abbrev TI := St -> Hp -> (It -> Hp -> Prop) -> Prop
def PIE (X : Cx) (pins : List (Addr × Obj)) (σ : St) (tg : Expr) (R : It -> Hp -> Prop) (itv : Value) (s2 : Shared) : Prop :=
 ∃ (it : Addr) (fp : List Addr) (tn : Nat -> Heap -> Prop) (J : It) (H' : Hp), itv = .ref it /\ Inv X pins σ H' s2 /\ Turn X.prog X.w X.K tg J fp it tn /\ tn 0 s2.heap /\ (∀ b ∈ fp, Wd X pins H' b) /\ R J H'
def PI (X : Cx) (tg iter : Expr) (wi : TI) : Prop :=
 ∀ (pins : List (Addr × Obj)) (s : Shared) (σ : St) (H : Hp) (R : It -> Hp -> Prop), Inv X pins σ H s -> wi σ H R ->
  wpAny (model X.prog X.w) X.A (eval iter X.env) (fun v s1 => wpAny (model X.prog X.w) X.A (pyIter v) (PIE X pins σ tg R) X.xe s1) X.xe s
theorem WL {M : Model} {A : Around} {E : Value -> Shared -> Prop} {s : Shared} {tg : Expr} {it : Addr} {u : Value} {o : Obj} {n : String} {vs : Array Value} {Q : Unit -> Shared -> Prop} (ho : s.heap.get? it = some o) (hc : o.cls = .type n) (hd : o.data = .fields vs)
  (hn : ["enumerate", "zip", "dict_itemiterator", "dict_reverseitemiterator", "odict_iterator", "itertools.zip_longest", "itertools.pairwise"].contains n = false) (hQ : Q () s) : wpAny M A (letOwnedTupleGo tg (.ref it) u) Q E s := by
 unfold letOwnedTupleGo
 cases tg <;> first
  | exact wpAny_pure hQ
  | (cases u <;> first
    | exact wpAny_pure hQ
    | (refine wpAny_bind (wpAny_load ho ?_)
       rw [hc, hd]
       show wpAny M A (if (["enumerate", "zip", "dict_itemiterator", "dict_reverseitemiterator", "odict_iterator", "itertools.zip_longest", "itertools.pairwise"].contains n && vs[0]? == some (rawInt _)) = true then _ else _) Q E s
       rw [if_neg (by intro h; rw [hn, Bool.false_and] at h; cases h)]
       exact wpAny_pure hQ))
def Itl (K : Fg_) (a : Addr) : It :=
 ⟨fun i H => ∃ xs x, SqL K H a xs /\ xs[i]? = some x, fun i H x H' => H' = H /\ ∀ xs, SqL K H a xs -> xs[i]? = some x, fun i H => ∃ xs, SqL K H a xs /\ xs.length <= i⟩
def Itr (lo : Int) (n : Nat) : It := ⟨fun i _ => i < n, fun i H x H' => H' = H /\ x = .int (lo + i), fun i _ => n <= i⟩
theorem YK {P : Program} {w : World} {K : Fg_} {tg : Expr} (a it : Addr) : Turn P w K tg (Itl K a) [it] it (fun i h => h.IsListIter it a i) where
 mem := by simp
 obj := fun i h st b hb => by
  have e : b = it := by simpa using hb
  subst e
  obtain ⟨o, e, c, d⟩ := st
  exact ⟨o, e, fun v z => by rw [d] at z; cases z⟩
 keep := fun i h h' st k => st.at fun o e => k it (by simp) o e
 item := by
  intro X hP hw hK hc i pins s σ H E I hf st hg
  subst hP hw hK
  obtain ⟨xs, x, hq, hx⟩ := hg
  obtain ⟨its, rv, p, hz⟩ := I.list hq
  obtain ⟨u, hu, ru⟩ := rv.get hx
  obtain ⟨f0, f1, f2, f3, f4, f5⟩ := hf it (by simp)
  refine wpAny_pyNext_list_item st p.isList (x := u) (by simpa using hu) fun h' st' sb => ?_
  have I1 : Inv X pins σ H { s with heap := h' } := I.turned (t' := s.toks) (fun b o hb e => (sb.2 b hb).trans e) f0 f1 f3 f4 f5
  obtain ⟨o, e, c, d⟩ := id st'
  exact ⟨u, rfl, WL (s := { s with heap := h' }) e c d (by decide) ⟨x, H, I1, ru, ⟨rfl, fun ys hy => by rw [I.list_inj hy hq]; exact hx⟩, st', fun b hb => (hf b hb).1⟩⟩
 done := by
  intro X hP hw hK hc i pins s σ H E I hf st hg
  subst hP hw hK
  obtain ⟨xs, hq, hx⟩ := hg
  obtain ⟨its, rv, p, hz⟩ := I.list hq
  obtain ⟨f0, f1, f2, f3, f4, f5⟩ := hf it (by simp)
  have hl := rv.length
  exact wpAny_pyNext_list_end (I.ok.hd hc) st p.isList (by simp; omega) fun h' eb => ⟨rfl, I.turned (t' := s.toks) (fun b o hb e => eb b o hb e) f0 f1 f3 f4 f5⟩
 self := fun _ _ _ _ _ st h => wpAny_pyIter_listiter st h
theorem WM {P : Program} {w : World} {K : Fg_} {tg : Expr} (it : Addr) (lo : Int) (n : Nat) : Turn P w K tg (Itr lo n) [it] it (fun i h => IsRangeIter h it (lo + (i : Nat) * 1) ((n : Int) - (i : Nat)) 1) where
 mem := by simp
 obj := fun i h st b hb => by
  have e : b = it := by simpa using hb
  subst e
  exact ⟨_, st, fun v z => by
   have z' : Data.fields _ = Data.cell v := z
   cases z'⟩
 keep := fun i h h' st k => k it (by simp) _ st
 item := by
  intro X hP hw hK hc i pins s σ H E I hf st hg
  subst hP hw hK
  obtain ⟨f0, f1, f2, f3, f4, f5⟩ := hf it (by simp)
  have W := Walks.range (prog := X.prog) (w := X.w) (I.ok.hd hc) it lo 1 n
  refine W.item i s _ _ hg st fun v h' tk hv st' kk => ?_
  obtain ⟨t, rfl⟩ := hv
  have I1 : Inv X pins σ H { s with heap := h', toks := tk } := I.turned (fun b o hb e => kk b o (by simpa using hb) e) f0 f1 f3 f4 f5
  refine ⟨_, rfl, WL (s := { s with heap := h', toks := tk }) (n := "range_iterator") st' rfl rfl (by decide) ⟨.int (lo + i), H, I1, ⟨t, ?_⟩, ⟨rfl, rfl⟩, st', fun b hb => (hf b hb).1⟩⟩
  rw [Int.mul_one]
 done := by
  intro X hP hw hK hc i pins s σ H E I hf st hg
  subst hP hw hK
  obtain ⟨f0, f1, f2, f3, f4, f5⟩ := hf it (by simp)
  exact wpAny_pyNext_range_end (I.ok.hd hc) st (by have : n <= i := hg; omega) fun h' eb => ⟨rfl, I.turned (t' := s.toks) (fun b o hb e => eb b o hb e) f0 f1 f3 f4 f5⟩
 self := fun _ _ _ _ _ st h => wpAny_pyIter_rangeiter st h
end L2
namespace L2
open PySem PySem.Spec PyProof.Rows
section
variable {X : Cx} {tg : Expr}
def abh (K : Fg_) (tl : TE) : TI := fun σ H R => tl σ H fun x H1 => ∃ a, x = .ref a /\ (∃ xs, SqL K H1 a xs) /\ R (Itl K a) H1
theorem abp {l : Expr} {tl : TE} (hl : PE X l tl) : PI X tg l (abh X.K tl) := by
 intro pins s σ H R I h
 refine thn (hl pins s σ H _ I h) fun v s1 ⟨x, H1, I1, r1, q1⟩ => ?_
 obtain ⟨a, e, ⟨xs, hq⟩, q⟩ := q1
 subst e
 cases r1
 obtain ⟨its, rv, p, hz⟩ := I1.list hq
 refine wpAny_pyIter_list p.isList ?_
 refine ⟨s1.heap.objs.size, [s1.heap.objs.size], _, _, H1, rfl, I1.kept (t' := s1.toks) fun b o e => Heap.get?_push_of_some _ e, YK a _, ⟨_, Heap.get?_push_size _ rfl, rfl, rfl⟩, fun b hb => ?_, q⟩
 have e : b = s1.heap.objs.size := by simpa using hb
 subst e
 exact I1.fpOk (Nat.le_refl _) (I1.hok.fresh (Nat.le_refl _))
theorem ZK {pins : List (Addr × Obj)} {σ : St} {H : Hp} {s : Shared} {R : It -> Hp -> Prop} {E : Value -> Shared -> Prop} {lo hi : Int} {t u v : Tok} {tk : Nat} (I : Inv X pins σ H s) (h1 : -(2 ^ 62) <= lo) (h2 : lo < 2 ^ 62) (h3 : -(2 ^ 62) <= hi) (h4 : hi < 2 ^ 62)
  (q : R (Itr lo (hi - lo).toNat) H) : wpAny (model X.prog X.w) X.A (pyIter (.ref s.heap.objs.size)) (PIE X pins σ tg R) E { s with heap := s.heap.push { cls := .type "range", data := .fields #[.int lo t, .int hi u, .int 1 v] }, toks := tk } := by
 refine wpAny_pyIter_range (IsRange.new ..) (small_one h1 h2 h3 h4) ?_
 have I1 : Inv X pins σ H { s with heap := s.heap.push { cls := .type "range", data := .fields #[.int lo t, .int hi u, .int 1 v] }, toks := tk } := I.kept fun b o e => Heap.get?_push_of_some _ e
 refine ⟨(s.heap.push { cls := .type "range", data := .fields #[.int lo t, .int hi u, .int 1 v] }).objs.size, [(s.heap.push { cls := .type "range", data := .fields #[.int lo t, .int hi u, .int 1 v] }).objs.size], _, _, H, rfl,
  I1.kept (t' := tk) fun b o e => Heap.get?_push_of_some _ e, WM _ lo (hi - lo).toNat, ?_, fun b hb => ?_, q⟩
 ·have e1 : lo + ((0 : Nat) : Int) * 1 = lo := by simp
  have e2 : (((hi - lo).toNat : Nat) : Int) - ((0 : Nat) : Int) = Builtin.Range.rangeSize lo hi 1 := by rw [rangeSize_one]; split <;> omega
  show IsRangeIter _ _ (lo + ((0 : Nat) : Int) * 1) ((((hi - lo).toNat : Nat) : Int) - ((0 : Nat) : Int)) 1
  rw [e1, e2]
  exact Heap.get?_push_size _ rfl
 ·have e : b = (s.heap.push { cls := .type "range", data := .fields #[.int lo t, .int hi u, .int 1 v] }).objs.size := by simpa using hb
  subst e
  exact I1.fpOk (Nat.le_refl _) (I1.hok.fresh (Nat.le_refl _))
def acA (ta : TA) : TI := fun σ H R => ta σ H fun vs H1 => ∃ j : Int, vs = [.int j] /\ -(2 ^ 62) <= j /\ j < 2 ^ 62 /\ R (Itr 0 j.toNat) H1
theorem Pz {a : Expr} {ta : TA} {p pos : Pos} (hg : Gl X "range") (hm : X.mg "range" = none) (ha : PA X [a] ta) (hs : starEach [a] X.env = [(false, eval a X.env)] := by rfl) : PI X tg (.Call (.Name "range" p) [a] [] pos) (acA ta) := by
 intro pins s σ H R I h
 refine Call_ (Qq I hg hm boot_range (PyProof.Rows.callWith_type1 (thn (ha pos pins s σ H _ I h) fun us s1 ⟨vs, H1, I1, r1, q1⟩ => ?_) hs rfl))
 obtain ⟨j, e, q1, q2, q⟩ := q1
 subst e
 cases r1 with
 | cons r rr =>
  cases rr
  obtain ⟨t, rfl⟩ := r
  exact call_range_1 (ZK I1 (by omega) (by omega) q1 q2 (by simpa using q))
def adD (wi : TI) (g : TG) (tb : TS) : TS := fun D σ H => wi σ H fun J H1 => ∃ W : Nat -> Nat -> St -> Hp -> Prop, (∃ m, W 0 m σ H1) /\ ∀ i m σ H, W i m σ H ->
 (J.stop i H /\ D.nx σ H) \/ (J.go i H /\ ∃ N : St -> Hp -> Prop, (∀ σ' H', N σ' H' -> ∃ m', m' < m /\ W (i + 1) m' σ' H') /\ ∀ x H', J.yld i H x H' -> g x σ H' fun σ2 H2 => tb { D with nx := N, ct := N, bk := D.nx } σ2 H2)
def Sg (fp : List Addr) (h : Heap) : List (Addr × Obj) := fp.filterMap fun b => (h.get? b).map fun o => (b, o)
theorem Ji {fp : List Addr} {h : Heap} {b : Addr} {o : Obj} (hb : b ∈ fp) (e : h.get? b = some o) : (b, o) ∈ Sg fp h := List.mem_filterMap.mpr ⟨b, hb, by rw [e]; rfl⟩
theorem Yn {fp : List Addr} {h : Heap} {p : Addr × Obj} (hp : p ∈ Sg fp h) : p.1 ∈ fp /\ h.get? p.1 = some p.2 := by
 obtain ⟨b, hb, e⟩ := List.mem_filterMap.mp hp
 cases q : h.get? b with
 | none => rw [q] at e; cases e
 | some o =>
  rw [q] at e
  have e' : (b, o) = p := Option.some.inj e
  subst e'
  exact ⟨hb, q⟩
theorem Inv.pinned {pins : List (Addr × Obj)} {σ : St} {H : Hp} {s : Shared} {fp : List Addr} (I : Inv X pins σ H s) (hf : ∀ b ∈ fp, Wd X pins H b) (ho : ∀ b ∈ fp, ∃ o, s.heap.get? b = some o /\ ∀ v, o.data ≠ .cell v) : Inv X (pins ++ Sg fp s.heap) σ H s :=
 I.pins_of fun p hp => (List.mem_append.mp hp).elim (fun z => I.pin p (List.mem_append_right _ z)) fun z => by
  obtain ⟨hb, e⟩ := Yn z
  obtain ⟨f0, f1, f2, _⟩ := hf p.1 hb
  obtain ⟨o, e', d⟩ := ho p.1 hb
  rw [e] at e'; cases e'
  exact ⟨e, f0, f1, f2, d⟩
theorem Inv.unpinned {pins pl : List (Addr × Obj)} {σ : St} {H : Hp} {s : Shared} (I : Inv X (pins ++ pl) σ H s) : Inv X pins σ H s := I.pins_of fun p hp => I.pin p (List.mem_append_right _ (List.mem_append_left _ hp))
theorem Mp {iter : Expr} {body : List Stmt} {wi : TI} {g : TG} {tb : TS} {pos : Pos} (hp : PassesOwn (model X.prog X.w) X.A X.env X.xe) (hc : X.calm = true) (hi : PI X tg iter wi) (hg : PG X tg g) (hb : PSs X body tb)
  (hs : ∀ x, foldedSetIterable iter X.env x = pure x := by intro _; rfl) : PS X (.For tg iter body [] pos) (adD wi g tb) := by
 intro pins s σ H D I h
 refine wpAny_For (thn (hi pins s σ H _ I h) fun v s1 h1 => thn h1 fun itv s2 h2 => ?_) hs
 obtain ⟨it, fp, tn, J, H2, e, I2, T, st2, f2, W, ⟨m0, w0⟩, turn⟩ := h2
 subst e
 have stat : ∀ {H' : Hp}, (∀ b ∈ fp, H' b = none) -> ∀ b ∈ fp, Wd X pins H' b := fun hn b hb => ⟨hn b hb, (f2 b hb).2⟩
 refine codeAny_forLoop_any (fun n s' => ∃ i σ' H', Inv X pins σ' H' s' /\ tn i s'.heap /\ (∀ b ∈ fp, H' b = none) /\ W i n σ' H') ?_ m0 ⟨0, σ, H2, I2, st2, fun b hb => (f2 b hb).1, w0⟩
 rintro n s3 ⟨i, σ3, H3, I3, st3, fr3, w3⟩
 rcases turn i n σ3 H3 w3 with ⟨stop, qn⟩ | ⟨go, N, hN, step⟩
 ·refine wpAny_passesOwn hp (thn (T.done X rfl rfl rfl hc i pins s3 σ3 H3 X.xe I3 (stat fr3) st3 stop) fun r s4 ⟨hr, I4⟩ => ?_)
  subst hr
  exact wpAny_execs_nil ⟨σ3, H3, I4, qn⟩
 ·refine wpAny_passesOwn hp (thn (T.item X rfl rfl rfl hc i pins s3 σ3 H3 X.xe I3 (stat fr3) st3 go) fun r s4 ⟨u, hr, h4⟩ => ?_)
  subst hr
  refine wpAny_passesOwn hp (thn h4 fun _ s5 ⟨x, H5, I5, r5, y5, st5, fr5⟩ => ?_)
  have I5' := I5.pinned (stat fr5) (T.obj _ _ st5)
  refine wpAny_passesOwn hp (thn (hg _ s5 σ3 H5 x u _ I5' r5 (step x H5 y5)) fun _ s6 ⟨σ6, H6, I6, q6⟩ => ?_)
  refine wpAny_passesOwn hp (thn (hb _ s6 σ6 H6 _ I6 q6) fun f s7 q7 => ?_)
  have again : ∀ {σ7 : St} {H7 : Hp}, Inv X (pins ++ Sg fp s5.heap) σ7 H7 s7 -> N σ7 H7 -> ∃ m, m < n /\ ∃ i σ' H', Inv X pins σ' H' s7 /\ tn i s7.heap /\ (∀ b ∈ fp, H' b = none) /\ W i m σ' H' := fun {σ7 H7} I7 n7 => by
   obtain ⟨m', hm, w7⟩ := hN σ7 H7 n7
   refine ⟨m', hm, i + 1, σ7, H7, I7.unpinned, T.keep _ _ _ st5 fun b hb o e => (I7.pin (b, o) (List.mem_append_right _ (List.mem_append_right _ (Ji hb e)))).1, fun b hb => ?_, w7⟩
   obtain ⟨o, e, d⟩ := T.obj _ _ st5 b hb
   exact (I7.pin (b, o) (List.mem_append_right _ (List.mem_append_right _ (Ji hb e)))).2.1
  cases f with
  | next => obtain ⟨σ7, H7, I7, n7⟩ := q7; exact again I7 n7
  | cont => obtain ⟨σ7, H7, I7, n7⟩ := q7; exact again I7 n7
  | brk => obtain ⟨σ7, H7, I7, q7⟩ := q7; exact ⟨σ7, H7, I7.unpinned, q7⟩
  | ret v => obtain ⟨x7, σ7, H7, I7, r7, q7⟩ := q7; exact ⟨x7, σ7, H7, I7.unpinned, r7, q7⟩
end
theorem aat {K : Fg_} {a : Addr} {xs : List V} {g : TG} {tb : TS} {D : Ends} {σ : St} {H : Hp} (Pv : Nat -> St -> Hp -> Prop) (h0 : Pv 0 σ H) (hl : ∀ i σ H, i <= xs.length -> Pv i σ H -> SqL K H a xs)
  (hs : ∀ i x σ H, xs[i]? = some x -> Pv i σ H -> g x σ H fun σ2 H2 => tb { D with nx := Pv (i + 1), ct := Pv (i + 1), bk := D.nx } σ2 H2) (hd : ∀ σ H, Pv xs.length σ H -> D.nx σ H) :
  ∃ W : Nat -> Nat -> St -> Hp -> Prop, (∃ m, W 0 m σ H) /\ ∀ i m σ H, W i m σ H ->
   ((Itl K a).stop i H /\ D.nx σ H) \/ ((Itl K a).go i H /\ ∃ N : St -> Hp -> Prop, (∀ σ' H', N σ' H' -> ∃ m', m' < m /\ W (i + 1) m' σ' H') /\ ∀ x H', (Itl K a).yld i H x H' -> g x σ H' fun σ2 H2 => tb { D with nx := N, ct := N, bk := D.nx } σ2 H2) := by
 refine ⟨fun i m σ H => m = xs.length - i /\ i <= xs.length /\ Pv i σ H, ⟨xs.length, by simp, Nat.zero_le _, h0⟩, ?_⟩
 rintro i m σ H ⟨rfl, hi, p⟩
 have q := hl i σ H hi p
 by_cases hlt : i < xs.length
 ·refine .inr ⟨⟨xs, xs[i], q, by simp [hlt]⟩, Pv (i + 1), fun σ' H' p' => ⟨xs.length - (i + 1), by omega, rfl, hlt, p'⟩, fun x H' y => ?_⟩
  obtain ⟨e, y⟩ := y
  subst e
  exact hs i x σ _ (y xs q) p
 ·have e : i = xs.length := by omega
  subst e
  exact .inl ⟨⟨xs, q, Nat.le_refl _⟩, hd σ H p⟩
theorem Zr {lo : Int} {n : Nat} {g : TG} {tb : TS} {D : Ends} {σ : St} {H : Hp} (Pv : Nat -> St -> Hp -> Prop) (h0 : Pv 0 σ H)
  (hs : ∀ i σ H, i < n -> Pv i σ H -> g (.int (lo + i)) σ H fun σ2 H2 => tb { D with nx := Pv (i + 1), ct := Pv (i + 1), bk := D.nx } σ2 H2) (hd : ∀ σ H, Pv n σ H -> D.nx σ H) :
  ∃ W : Nat -> Nat -> St -> Hp -> Prop, (∃ m, W 0 m σ H) /\ ∀ i m σ H, W i m σ H ->
   ((Itr lo n).stop i H /\ D.nx σ H) \/ ((Itr lo n).go i H /\ ∃ N : St -> Hp -> Prop, (∀ σ' H', N σ' H' -> ∃ m', m' < m /\ W (i + 1) m' σ' H') /\ ∀ x H', (Itr lo n).yld i H x H' -> g x σ H' fun σ2 H2 => tb { D with nx := N, ct := N, bk := D.nx } σ2 H2) := by
 refine ⟨fun i m σ H => m = n - i /\ i <= n /\ Pv i σ H, ⟨n, by simp, Nat.zero_le _, h0⟩, ?_⟩
 rintro i m σ H ⟨rfl, hi, p⟩
 by_cases hlt : i < n
 ·refine .inr ⟨hlt, Pv (i + 1), fun σ' H' p' => ⟨n - (i + 1), by omega, rfl, hlt, p'⟩, fun x H' y => ?_⟩
  obtain ⟨e, y⟩ := y
  subst e y
  exact hs i σ _ hlt p
 ·have e : i = n := by omega
  subst e
  exact .inl ⟨Nat.le_refl _, hd σ H p⟩
end L2
namespace L2
open PySem PySem.Spec PyProof.Rows
abbrev R2 := V -> V -> Hp -> VK -> Prop
def OpR (X : Cx) (f : Value -> Value -> Sem Value) (r : R2) : Prop :=
 ∀ (pins : List (Addr × Obj)) (s : Shared) (σ : St) (H : Hp) (x y : V) (v u : Value) (Q : VK), Inv X pins σ H s -> RelV x v -> RelV y u -> r x y H Q ->
  wpAny (model X.prog X.w) X.A (f v u) (EP X pins σ Q) X.xe s
def UnR (X : Cx) (f : Value -> Sem Value) (r : V -> Hp -> VK -> Prop) : Prop :=
 ∀ (pins : List (Addr × Obj)) (s : Shared) (σ : St) (H : Hp) (x : V) (v : Value) (Q : VK), Inv X pins σ H s -> RelV x v -> r x H Q ->
  wpAny (model X.prog X.w) X.A (f v) (EP X pins σ Q) X.xe s
def DQ (X : Cx) (f : Value) (r : List V -> Hp -> VK -> Prop) : Prop :=
 ∀ (pins : List (Addr × Obj)) (s : Shared) (σ : St) (H : Hp) (xs : List V) (us : List Value) (Q : VK), Inv X pins σ H s -> Vals xs us -> r xs H Q ->
  wpAny (model X.prog X.w) X.A (call f us) (EP X pins σ Q) X.xe s
def tOp (r : R2) (ta tb : TE) : TE := fun σ H Q => ta σ H fun x H1 => tb σ H1 fun y H2 => r x y H2 Q
def tUn (r : V -> Hp -> VK -> Prop) (ta : TE) : TE := fun σ H Q => ta σ H fun x H1 => r x H1 Q
def rI (C : Int -> Int -> Prop) (g : Int -> Int -> V) : R2 := fun x y H Q => ∃ i j, x = .int i /\ y = .int j /\ C i j /\ Q (g i j) H
def rI0 (g : Int -> Int -> V) : R2 := fun x y H Q => ∃ i j, x = .int i /\ y = .int j /\ Q (g i j) H
def rU (g : Int -> V) : V -> Hp -> VK -> Prop := fun x H Q => ∃ i, x = .int i /\ Q (g i) H
section
variable {X : Cx} {a b c : Expr} {ta tb tc : TE} {pos : Pos}
theorem aei (ha : PE X a ta) (hb : PE X b tb) {pins : List (Addr × Obj)} {s : Shared} {σ : St} {H : Hp} {R : V -> V -> Hp -> Prop} (I : Inv X pins σ H s)
  (h : ta σ H fun x H1 => tb σ H1 fun y H2 => R x y H2) {Q : Value -> Shared -> Prop} {f : Value -> Value -> Sem Value}
  (hf : ∀ v u s2 x y H2, Inv X pins σ H2 s2 -> RelV x v -> RelV y u -> R x y H2 -> wpAny (model X.prog X.w) X.A (f v u) Q X.xe s2) :
  wpAny (model X.prog X.w) X.A (eval a X.env) (fun v s₁ => wpAny (model X.prog X.w) X.A (eval b X.env) (fun u s₂ => wpAny (model X.prog X.w) X.A (f v u) Q X.xe s₂) X.xe s₁) X.xe s := by
 refine thn (ha pins s σ H _ I h) fun v s1 ⟨x, H1, I1, r1, q1⟩ => ?_
 refine thn (hb pins s1 σ H1 _ I1 q1) fun u s2 ⟨y, H2, I2, r2, q2⟩ => ?_
 exact hf v u s2 x y H2 I2 r1 r2 q2
theorem Az {op : Operator} {r : R2} (ho : OpR X (binaryOp op) r) (ha : PE X a ta) (hb : PE X b tb) : PE X (.BinOp a op b pos) (tOp r ta tb) := by
 intro pins s σ H Q I h
 exact wpAny_BinOp (aei ha hb I h fun v u s2 x y H2 I2 rx ry q => ho pins s2 σ H2 x y v u Q I2 rx ry q)
theorem adY {op : UnaryOp} {r : V -> Hp -> VK -> Prop} (ho : UnR X (unaryOp op) r) (ha : PE X a ta) : PE X (.UnaryOp op a pos) (tUn r ta) := by
 intro pins s σ H Q I h
 exact UnaryOp_ (thn (ha pins s σ H _ I h) fun v s1 ⟨x, H1, I1, r1, q1⟩ => ho pins s1 σ H1 x v Q I1 r1 q1)
theorem opI {f : Value -> Value -> Sem Value} {C : Int -> Int -> Prop} {g : Int -> Int -> Int}
  (rule : ∀ (i j : Int) (t u : Tok) (s : Shared) (Q : Value -> Shared -> Prop) (E : Value -> Shared -> Prop), C i j -> Q (.int (g i j) s.toks) { s with toks := s.toks + 1 } -> wpAny (model X.prog X.w) X.A (f (.int i t) (.int j u)) Q E s) :
  OpR X f (rI C fun i j => .int (g i j)) := by
 intro pins s σ H x y v u Q I rx ry h
 obtain ⟨i, j, rfl, rfl, hc, q⟩ := h
 obtain ⟨t, rfl⟩ := rx
 obtain ⟨t', rfl⟩ := ry
 exact rule i j t t' s _ _ hc ⟨.int (g i j), H, I.tok _, ⟨_, rfl⟩, q⟩
theorem aen {f : Value -> Value -> Sem Value} {g : Int -> Int -> Int}
  (rule : ∀ (i j : Int) (t u : Tok) (s : Shared) (Q : Value -> Shared -> Prop) (E : Value -> Shared -> Prop), Q (.int (g i j) s.toks) { s with toks := s.toks + 1 } -> wpAny (model X.prog X.w) X.A (f (.int i t) (.int j u)) Q E s) :
  OpR X f (rI0 fun i j => .int (g i j)) := by
 intro pins s σ H x y v u Q I rx ry h
 obtain ⟨i, j, rfl, rfl, q⟩ := h
 obtain ⟨t, rfl⟩ := rx
 obtain ⟨t', rfl⟩ := ry
 exact rule i j t t' s _ _ ⟨.int (g i j), H, I.tok _, ⟨_, rfl⟩, q⟩
theorem aeg {f : Value -> Value -> Sem Value} {g : Int -> Int -> Bool}
  (rule : ∀ (i j : Int) (t u : Tok) (s : Shared) (Q : Value -> Shared -> Prop) (E : Value -> Shared -> Prop), Q (.bool (g i j)) s -> wpAny (model X.prog X.w) X.A (f (.int i t) (.int j u)) Q E s) :
  OpR X f (rI0 fun i j => .bl (g i j)) := by
 intro pins s σ H x y v u Q I rx ry h
 obtain ⟨i, j, rfl, rfl, q⟩ := h
 obtain ⟨t, rfl⟩ := rx
 obtain ⟨t', rfl⟩ := ry
 exact rule i j t t' s _ _ ⟨.bl (g i j), H, I, rfl, q⟩
def aek (i j : Int) : Prop := 0 <= j /\ j <= 1000000 /\ i.natAbs < 2 ^ 64
def CMul (i j : Int) : Prop := (-(2 ^ 64) < i /\ i < 2 ^ 64) \/ (-(2 ^ 64) < j /\ j < 2 ^ 64)
theorem CMul.ok {i j : Int} (h : CMul i j) : IntMulOk i j := by
 rcases h with ⟨h1, h2⟩ | ⟨h1, h2⟩
 ·exact .of_left (intBits_le_64 h1 h2)
 ·exact .of_right (intBits_le_64 h1 h2)
theorem Cj : OpR X (binaryOp .Add) (rI0 fun i j => .int (i + j)) := aen fun _ _ _ _ _ _ _ q => add_int q
theorem aaM : OpR X (binaryOp .Sub) (rI0 fun i j => .int (i - j)) := aen fun _ _ _ _ _ _ _ q => sub_int q
theorem Ci : OpR X (binaryOp .Mod) (rI (fun _ j => 0 < j) fun i j => .int (i % j)) := opI fun i j _ _ _ _ _ hc q => by
 have h1 : (0 : Int) < j := hc
 exact mod_int' (by omega) (by rw [Int.fmod_eq_emod_of_nonneg i (by omega)]; exact q)
theorem Hh : OpR X (binaryOp .Pow) (rI aek fun i j => .int (i ^ j.toNat)) := opI fun _ _ _ _ _ _ _ hc q => pow_int_small hc.1 hc.2.1 hc.2.2 q
theorem unI {f : Value -> Sem Value} {g : Int -> Int}
  (rule : ∀ (i : Int) (t : Tok) (s : Shared) (Q : Value -> Shared -> Prop) (E : Value -> Shared -> Prop), Q (.int (g i) s.toks) { s with toks := s.toks + 1 } -> wpAny (model X.prog X.w) X.A (f (.int i t)) Q E s) :
  UnR X f (rU fun i => .int (g i)) := by
 intro pins s σ H x v Q I rx h
 obtain ⟨i, rfl, q⟩ := h
 obtain ⟨t, rfl⟩ := rx
 exact rule i t s _ _ ⟨.int (g i), H, I.tok _, ⟨_, rfl⟩, q⟩
theorem adx : UnR X (unaryOp .USub) (rU fun i => .int (-i)) := unI fun _ _ _ _ _ q => neg_int q
end
def abl : V -> V -> Bool
 | .non, .non => true | .non, .int _ => true | .int _, .non => true | .non, .bl _ => true | .bl _, .non => true | .non, .str _ => true | .str _, .non => true
 | .int _, .int _ => true | .bl _, .bl _ => true | .str _, .str _ => true | .byt _, .byt _ => true
 | .int _, .str _ => true | .str _, .int _ => true | .bl _, .str _ => true | .str _, .bl _ => true
 | _, _ => false
def rEq : R2 := fun x y H Q => abl x y = true /\ Q (.bl (decide (x = y))) H
def rNe : R2 := fun x y H Q => abl x y = true /\ Q (.bl (!decide (x = y))) H
theorem Yo {i j : Int} : decide (V.int i = V.int j) = (i == j) := by
 rw [Bool.eq_iff_iff]
 simp
theorem aaI {i j : Bool} : decide (V.bl i = V.bl j) = (i == j) := by
 rw [Bool.eq_iff_iff]
 simp
theorem YL {i j : Str} : decide (V.str i = V.str j) = (i == j) := by
 rw [Bool.eq_iff_iff]
 simp
theorem Zh {i j : Array UInt8} : decide (V.byt i = V.byt j) = (i.toList == j.toList) := by
 rw [Bool.eq_iff_iff]
 cases i
 cases j
 simp
section
variable {X : Cx} {a b c : Expr} {ta tb tc : TE} {pos : Pos}
theorem Bx {pins : List (Addr × Obj)} {σ : St} {H : Hp} {s : Shared} {Q : VK} {k k' : Bool} (I : Inv X pins σ H s) (q : Q (.bl k) H) (e : k = k') : EP X pins σ Q (.bool k') s := by
 subst e
 exact ⟨.bl k, H, I, rfl, q⟩
theorem Ck : OpR X (compareOp .Eq) rEq := by
 intro pins s σ H x y v u Q I rx ry h
 obtain ⟨hs, q⟩ := h
 cases x with
 | non =>
  cases rx
  cases y with
  | non => cases ry; exact PySem.EqNone.eq_none_none (Bx I q (by simp))
  | bl j => cases ry; exact PySem.EqNone.eq_none_bool (Bx I q (by simp))
  | int j => obtain ⟨t', rfl⟩ := ry; exact PySem.EqNone.eq_none_int (Bx I q (by simp))
  | str j => obtain ⟨t', rfl⟩ := ry; exact PySem.EqNone.eq_none_str (Bx I q (by simp))
  | _ => exact absurd (show false = true from hs) Bool.false_ne_true
 | bl i =>
  cases rx
  cases y with
  | non => cases ry; exact PySem.EqNone.eq_bool_none (Bx I q (by simp))
  | bl j => cases ry; exact eq_bool (Bx I q aaI)
  | str j => obtain ⟨t', rfl⟩ := ry; exact PySem.EqMixed.eq_bool_str (Bx I q (by simp))
  | _ => exact absurd (show false = true from hs) Bool.false_ne_true
 | int i =>
  obtain ⟨t, rfl⟩ := rx
  cases y with
  | non => cases ry; exact PySem.EqNone.eq_int_none (Bx I q (by simp))
  | int j => obtain ⟨t', rfl⟩ := ry; exact eq_int (Bx I q Yo)
  | str j => obtain ⟨t', rfl⟩ := ry; exact PySem.EqMixed.eq_int_str (Bx I q (by simp))
  | _ => exact absurd (show false = true from hs) Bool.false_ne_true
 | str i =>
  obtain ⟨t, rfl⟩ := rx
  cases y with
  | non => cases ry; exact PySem.EqNone.eq_str_none (Bx I q (by simp))
  | bl j => cases ry; exact PySem.EqMixed.eq_str_bool (Bx I q (by simp))
  | int j => obtain ⟨t', rfl⟩ := ry; exact PySem.EqMixed.eq_str_int (Bx I q (by simp))
  | str j => obtain ⟨t', rfl⟩ := ry; exact eq_str (Bx I q YL)
  | _ => exact absurd (show false = true from hs) Bool.false_ne_true
 | byt i =>
  obtain ⟨t, rfl⟩ := rx
  cases y with
  | byt j => obtain ⟨t', rfl⟩ := ry; exact PySem.W.eq_bytes (Bx I q Zh)
  | _ => exact absurd (show false = true from hs) Bool.false_ne_true
 | _ => cases y <;> exact absurd (show false = true from hs) Bool.false_ne_true
theorem adH : OpR X (compareOp .NotEq) rNe := by
 intro pins s σ H x y v u Q I rx ry h
 obtain ⟨hs, q⟩ := h
 cases x with
 | non =>
  cases rx
  cases y with
  | non => cases ry; exact PySem.EqNone.ne_none_none (Bx I q (by simp))
  | bl j => cases ry; exact PySem.EqNone.ne_none_bool (Bx I q (by simp))
  | int j => obtain ⟨t', rfl⟩ := ry; exact PySem.EqNone.ne_none_int (Bx I q (by simp))
  | str j => obtain ⟨t', rfl⟩ := ry; exact PySem.EqNone.ne_none_str (Bx I q (by simp))
  | _ => exact absurd (show false = true from hs) Bool.false_ne_true
 | bl i =>
  cases rx
  cases y with
  | non => cases ry; exact PySem.EqNone.ne_bool_none (Bx I q (by simp))
  | bl j => cases ry; exact ne_bool (Bx I q (congrArg not aaI))
  | str j => obtain ⟨t', rfl⟩ := ry; exact PySem.EqMixed.ne_bool_str (Bx I q (by simp))
  | _ => exact absurd (show false = true from hs) Bool.false_ne_true
 | int i =>
  obtain ⟨t, rfl⟩ := rx
  cases y with
  | non => cases ry; exact PySem.EqNone.ne_int_none (Bx I q (by simp))
  | int j => obtain ⟨t', rfl⟩ := ry; exact ne_int (Bx I q (congrArg not Yo))
  | str j => obtain ⟨t', rfl⟩ := ry; exact PySem.EqMixed.ne_int_str (Bx I q (by simp))
  | _ => exact absurd (show false = true from hs) Bool.false_ne_true
 | str i =>
  obtain ⟨t, rfl⟩ := rx
  cases y with
  | non => cases ry; exact PySem.EqNone.ne_str_none (Bx I q (by simp))
  | bl j => cases ry; exact PySem.EqMixed.ne_str_bool (Bx I q (by simp))
  | int j => obtain ⟨t', rfl⟩ := ry; exact PySem.EqMixed.ne_str_int (Bx I q (by simp))
  | str j => obtain ⟨t', rfl⟩ := ry; exact ne_str (Bx I q (congrArg not YL))
  | _ => exact absurd (show false = true from hs) Bool.false_ne_true
 | byt i =>
  obtain ⟨t, rfl⟩ := rx
  cases y with
  | byt j => obtain ⟨t', rfl⟩ := ry; exact PySem.W.ne_bytes (Bx I q (congrArg not Zh))
  | _ => exact absurd (show false = true from hs) Bool.false_ne_true
 | _ => cases y <;> exact absurd (show false = true from hs) Bool.false_ne_true
theorem ZR : OpR X (compareOp .Lt) (rI0 fun i j => .bl (decide (i < j))) := aeg fun _ _ _ _ _ _ _ q => lt_int q
theorem adL : OpR X (compareOp .LtE) (rI0 fun i j => .bl (decide (i <= j))) := aeg fun _ _ _ _ _ _ _ q => le_int q
theorem Tv : OpR X (compareOp .Gt) (rI0 fun i j => .bl (decide (j < i))) := aeg fun _ _ _ _ _ _ _ q => gt_int q
theorem Zo : OpR X (compareOp .Is) (fun x y H Q => y = .non /\ Q (.bl (decide (x = .non))) H) := by
 intro pins s σ H x y v u Q I rx ry h
 obtain ⟨rfl, q⟩ := h
 cases ry
 refine is_none_gen (Bx I q ?_)
 cases x <;> first
  | (cases rx; rfl)
  | (obtain ⟨t, rfl⟩ := rx; rfl)
theorem Um : OpR X (compareOp .IsNot) (fun x y H Q => y = .non /\ Q (.bl (!decide (x = .non))) H) := by
 intro pins s σ H x y v u Q I rx ry h
 obtain ⟨rfl, q⟩ := h
 cases ry
 refine isnot_none_gen (Bx I q ?_)
 cases x <;> first
  | (cases rx; rfl)
  | (obtain ⟨t, rfl⟩ := rx; rfl)
theorem Ay (b : Expr) {op : CmpOp} (h : op ≠ .In := by decide) (h2 : op ≠ .NotIn := by decide) : behindInMarks op b = false := by
 have e1 : (op == CmpOp.In) = false := by cases op <;> first | rfl | exact absurd rfl h
 have e2 : (op == CmpOp.NotIn) = false := by cases op <;> first | rfl | exact absurd rfl h2
 cases b <;> simp [behindInMarks, e1, e2]
theorem JH {op : CmpOp} {r : R2} (ho : OpR X (compareOp op) r) (ha : PE X a ta) (hb : PE X b tb) (hm : behindInMarks op b = false) : PE X (.Compare a [op] [b] pos) (tOp r ta tb) := by
 intro pins s σ H Q I h
 exact wpAny_Compare1 (aei ha hb I h fun v u s2 x y H2 I2 rx ry q => ho pins s2 σ H2 x y v u Q I2 rx ry q) hm
def acI (t : TE) : TT := fun σ H Q => t σ H fun x H' => ∃ k, x = .bl k /\ Q k H'
theorem Al {op : CmpOp} {r : R2} (ho : OpR X (compareOp op) r) (ha : PE X a ta) (hb : PE X b tb) (hm : behindInMarks op b = false) : PT X (.Compare a [op] [b] pos) (acI (tOp r ta tb)) := by
 intro pins s σ H Q I h
 refine wpAny_isTrue_Compare1 (thn (ha pins s σ H _ I h) fun v s1 ⟨x, H1, I1, r1, q1⟩ => thn (hb pins s1 σ H1 _ I1 q1) fun u s2 ⟨y, H2, I2, r2, q2⟩ =>
  thn (ho pins s2 σ H2 x y v u _ I2 r1 r2 q2) fun c s3 ⟨z, H3, I3, r3, k, e, q3⟩ => ?_) hm
 subst e
 cases r3
 exact wpAny_truthy_bool ⟨H3, I3, q3⟩
def aaX (r r' : R2) (ta tb tc : TE) : TE := fun σ H Q => ta σ H fun x H1 => tb σ H1 fun y H2 => r x y H2 fun z H3 => ∃ k, z = .bl k /\
 (if k = true then tc σ H3 fun w' H4 => r' y w' H4 Q else Q (.bl false) H3)
theorem ZZ {op op' : CmpOp} {r r' : R2} (ho : OpR X (compareOp op) r) (ho' : OpR X (compareOp op') r') (ha : PE X a ta) (hb : PE X b tb) (hc : PE X c tc)
  (hm : lastMarks [op, op'] [b, c] = false := by with_unfolding_all rfl) : PE X (.Compare a [op, op'] [b, c] pos) (aaX r r' ta tb tc) := by
 intro pins s σ H Q I h
 refine Compare_chain (thn (ha pins s σ H _ I h) fun v s1 ⟨x, H1, I1, r1, q1⟩ => chain_link (thn (hb pins s1 σ H1 _ I1 q1) fun u s2 ⟨y, H2, I2, r2, q2⟩ =>
  thn (ho pins s2 σ H2 x y v u _ I2 r1 r2 q2) fun d s3 ⟨z, H3, I3, r3, k, e, q3⟩ => ?_)) hm
 subst e
 cases r3
 refine wpAny_truthy_bool ?_
 cases k with
 | false => exact ite_ff ⟨.bl false, H3, I3, rfl, q3⟩
 | true => exact ite_tt (chain_last (thn (hc pins s3 σ H3 _ I3 q3) fun w' s4 ⟨z', H4, I4, r4, q4⟩ => ho' pins s4 σ H4 y z' u w' Q I4 r2 r4 q4))
theorem Ti : (sizeLine : Nat) < 2 ^ 63 := by rw [sizeLine_eq]; decide
theorem vals1 {x : V} {us : List Value} (r : Vals [x] us) : ∃ u, us = [u] /\ RelV x u := by
 cases r with
 | cons r1 r2 => cases r2; exact ⟨_, rfl, r1⟩
theorem vals2 {x y : V} {us : List Value} (r : Vals [x, y] us) : ∃ u w', us = [u, w'] /\ RelV x u /\ RelV y w' := by
 cases r with
 | cons r1 r2 =>
  cases r2 with
  | cons r3 r4 => cases r4; exact ⟨_, _, rfl, r1, r3⟩
end
end L2
namespace L2
open PySem PySem.Spec PyProof.Rows
structure ObjM (h : Heap) (x dx C : Addr) (mA : Str -> Option Value) : Prop where
 obj : h.get? x = some (PySem.W.instObj C dx)
 ns : h.Ns1 dx mA
 ne : dx ≠ x
theorem Yy {h : Heap} {dx : Addr} {mA : Str -> Option Value} (n : h.Ns1 dx mA) : ∃ od, h.get? dx = some od /\ ∀ name, PySem.W.lookIn name od = some (mA name) := by
 obtain ⟨o, es, ep, ho, hd, hk, _, hm⟩ := n
 refine ⟨o, ho, fun name => ?_⟩
 have e := hm name
 unfold nsFind findBy at e
 rw [<- Array.find?_toList] at e
 unfold PySem.W.lookIn
 rw [hd]
 dsimp only
 split
 ·rename_i y q
  rw [q] at e
  exact congrArg some e
 ·rename_i q
  rw [q] at e
  have a : es.toList.any (·.refKey) = false := by
   rw [List.any_eq_false]
   intro y hy
   obtain ⟨z, t, hkey⟩ := hk y (Array.mem_toList_iff.mp hy)
   simp [DictEntry.refKey, hkey]
  have a' : ¬ es.toList.any (·.refKey) = true := by rw [a]; exact Bool.false_ne_true
  rw [if_neg a']
  exact congrArg some e
theorem ObjM.look {h : Heap} {x dx C : Addr} {mA : Str -> Option Value} (I : ObjM h x dx C mA) : ∃ od, PySem.W.InstAt h x (PySem.W.instObj C dx) C (some od) /\ ∀ name, PySem.W.lookIn name od = some (mA name) :=
 let ⟨od, ho, hl⟩ := Yy I.ns
 ⟨od, ⟨I.obj, rfl, rfl, ho⟩, hl⟩
section
variable {prog : Program} {w : World} {A : Around} {E : Value -> Shared -> Prop} {s : Shared} {K : Fg_} {x dx C f : Addr} {mA : Str -> Option Value} {name : Str} {v : Value}
theorem get_map {expr : Bool} {Q : Value -> Shared -> Prop} (X : K.In s.heap) (I : ObjM s.heap x dx C mA) (hg : PySem.W.plainGet K C name = true) (hh : PySem.W.hasDictIn K C = true)
  (ha : PySem.W.findIn K (.ref C) name = some none) (hv : mA name = some v) (hv' : PySem.W.handedIn v = true) (h : Q v { s with toks := s.toks + 1 }) :
  wpAny (model prog w) A (getAttr (.ref x) name expr) Q E s := by
 obtain ⟨od, J, hl⟩ := I.look
 exact PySem.W.get_value X J (PySem.W.plainGet_of hg).1 (PySem.W.findObj_own hh ha rfl (by rw [hl, hv])) hv' h
theorem ZS {pl : Sem Bool} {Q : Value × List Value -> Shared -> Prop} (X : K.In s.heap) (I : ObjM s.heap x dx C mA) (hg : PySem.W.plainGet K C name = true)
  (hf : PySem.W.findIn K (.ref C) name = some (some (.ref f))) (ht : PySem.W.isFn K (.ref f) = true) (hv : mA name = none) (h : Q (.ref f, [.ref x]) s) :
  wpAny (model prog w) A (getMethod (.ref x) name pl) Q E s := by
 obtain ⟨od, J, hl⟩ := I.look
 exact PySem.W.method_fn X J (PySem.W.plainGet_of hg).1 (PySem.W.plainGet_of hg).2 hf (beq_iff_eq.mp ht) (by show (PySem.W.lookIn name od).map (·.isSome) = some false; rw [hl, hv]; rfl) h
theorem abe {ns : List Str} {Q : Unit -> Shared -> Prop} (X : K.In s.heap) (I : ObjM s.heap x dx C mA)
  (hs : PySem.W.findIn K (.ref C) "__setattr__" = some (some (.builtin "object.__setattr__"))) (hp : PySem.W.plainOver K C = true) (ht : PySem.W.takerIn K C name = some none) (hh : PySem.W.hasDictIn K C = true)
  (hw : PySem.Within mA ns) (hsz : ns.length <= sizeLine)
  (h : ∀ h', ObjM h' x dx C (fun y => if y = name then some v else mA y) -> Heap.SameBut dx s.heap h' -> Q () { s with heap := h', toks := s.toks + 2 }) :
  wpAny (model prog w) A (setAttr (.ref x) name v) Q E s := by
 obtain ⟨od, J, hl⟩ := I.look
 refine PySem.W.set_plain X J hs (PySem.W.osa_open (s := { s with toks := s.toks + 1 }) (r := none) X J hp ht fun b => ?_)
 obtain ⟨cd, hc, hd'⟩ := PySem.W.any_some hh
 have hx : s.heap.get? x = some ⟨.ref C, some dx, .plain, #[]⟩ := I.obj
 refine wpAny_bind (wpAny_pure (wpAny_bind (wpAny_bind (wpAny_loadPart hx (wpAny_bind (PySem.W.Looks.here (s := { s with toks := s.toks + 1 }) (PySem.W.looks_clsIn X hc) ?_))))))
 rw [hd']
 refine wpAny_pure (a := some dx) (wpAny_bind (wpAny_pure (wpAny_bind ?_)))
 refine wpAny_nsSet1 (s := { s with toks := s.toks + 1 }) I.ns fun h' hn2 hs2 => ?_
 obtain ⟨oD, esD, epD, hoD, hdD, hcD⟩ := hn2.count (PySem.Within.cons name v hw)
 refine wpAny_bind (wpAny_lookBehind hoD (by rw [hdD]; exact pastItsLine_dict (Nat.le_trans hcD (by rw [List.length_cons]; omega))) ?_)
 exact wpAny_pure (h _ ⟨(hs2.2 _ (Ne.symm I.ne)).trans I.obj, hn2, I.ne⟩ hs2)
theorem Zy {R : Result -> Shared -> Prop} {vs : List Value} {kw : List (Str × Value)} (X : K.In s.heap) (hm : PySem.W.makesIn K C = true)
  (hi : PySem.W.findIn K (.ref C) "__init__" = some (some (.ref f))) (hf : PySem.W.typeIn K (.ref f) = some (.type "function"))
  (h : codeAny (model prog w) (A.under (.builtin "type.__call__" ⟨.ref C :: vs, kw⟩)) (.call (.ref f) ⟨.ref (s.heap.objs.size + 1) :: vs, kw⟩) (PySem.W.InitBack (s.heap.objs.size + 1) R)
   { s with heap := (s.heap.push PySem.W.emptyDict).push (PySem.W.instObj C s.heap.objs.size) }) :
  codeAny (model prog w) A (.call (.ref C) ⟨vs, kw⟩) R s := by
 obtain ⟨hh, g, d, t, os⟩ := s
 exact PySem.W.make_core (PySem.W.makes_of X hm) (PySem.W.looks_findIn X hi) (fun self => PySem.W.bind_fn X self hf) (.inl rfl) h
end
def Qs (f : Str) (v : V) : List (Str × V) -> List (Str × V)
 | [] => [(f, v)]
 | (g, x) :: r => if g = f then (g, v) :: r else (g, x) :: Qs f v r
theorem Pa (f g : Str) (v : V) : ∀ fs : List (Str × V), (Qs f v fs).lookup g = if g = f then some v else fs.lookup g
 | [] => by
  show List.lookup g [(f, v)] = _
  by_cases h : g = f
  ·have hb : (g == f) = true := beq_iff_eq.mpr h
   simp only [List.lookup, hb, if_pos h]
  ·have hb : (g == f) = false := beq_eq_false_iff_ne.mpr h
   simp only [List.lookup, hb, if_neg h]
 | (k, x) :: r => by
  have ih := Pa f g v r
  rw [show Qs f v ((k, x) :: r) = (if k = f then (k, v) :: r else (k, x) :: Qs f v r) from rfl]
  by_cases hk : k = f
  ·rw [if_pos hk]
   by_cases h : g = k
   ·have hb : (g == k) = true := beq_iff_eq.mpr h
    simp only [List.lookup, hb, if_pos (h.trans hk)]
   ·have hb : (g == k) = false := beq_eq_false_iff_ne.mpr h
    simp only [List.lookup, hb, if_neg (fun e : g = f => h (e.trans hk.symm))]
  ·rw [if_neg hk]
   by_cases h : g = k
   ·have hb : (g == k) = true := beq_iff_eq.mpr h
    simp only [List.lookup, hb, if_neg (fun e : g = f => hk (h.symm.trans e))]
   ·have hb : (g == k) = false := beq_eq_false_iff_ne.mpr h
    simp only [List.lookup, hb]
    exact ih
theorem Oa (f : Str) (v : V) : ∀ fs : List (Str × V), f ∈ (Qs f v fs).map (·.1) /\ ∀ g, g ∈ fs.map (·.1) -> g ∈ (Qs f v fs).map (·.1)
 | [] => ⟨by simp [Qs], fun g h => by simp at h⟩
 | (k, x) :: r => by
  obtain ⟨i1, i2⟩ := Oa f v r
  rw [show Qs f v ((k, x) :: r) = (if k = f then (k, v) :: r else (k, x) :: Qs f v r) from rfl]
  by_cases hk : k = f
  ·rw [if_pos hk]
   subst hk
   exact ⟨by simp, fun g h => by simpa using h⟩
  ·rw [if_neg hk]
   refine ⟨?_, fun g h => ?_⟩
   ·rw [List.map_cons]
    exact List.mem_cons_of_mem _ i1
   ·rw [List.map_cons] at h ⊢
    rcases List.mem_cons.mp h with e | e
    ·exact List.mem_cons.mpr (.inl e)
    ·exact List.mem_cons_of_mem _ (i2 g e)
theorem Ov (f : Str) (v : V) : ∀ fs : List (Str × V), (Qs f v fs).length <= fs.length + 1
 | [] => by simp [Qs]
 | (k, x) :: r => by
  have ih := Ov f v r
  rw [show Qs f v ((k, x) :: r) = (if k = f then (k, v) :: r else (k, x) :: Qs f v r) from rfl]
  by_cases hk : k = f
  ·rw [if_pos hk, List.length_cons, List.length_cons]; omega
  ·rw [if_neg hk, List.length_cons, List.length_cons]; omega
theorem RelO.some_of {v : V} {o : Option Value} (r : RelO (some v) o) : ∃ u, o = some u /\ RelV v u := by
 cases o with
 | none => exact (show False from r).elim
 | some u => exact ⟨u, rfl, r⟩
theorem RelO.none_of {o : Option Value} (r : RelO none o) : o = none := by
 cases o with
 | none => rfl
 | some u => exact (show False from r).elim
theorem YC {v : V} {u : Value} (r : RelV v u) : PySem.W.handedIn u = true := by
 cases v with
 | non => cases (show u = Value.none from r); rfl
 | bl b => cases (show u = Value.bool b from r); rfl
 | int i => obtain ⟨t, e⟩ := (show ∃ t, u = Value.int i t from r); cases e; rfl
 | str x => obtain ⟨t, e⟩ := (show ∃ t, u = Value.str x t from r); cases e; rfl
 | byt b => obtain ⟨t, e⟩ := (show ∃ t, u = Value.bytes b t from r); cases e; rfl
 | flt b => obtain ⟨t, e⟩ := (show ∃ t, u = Value.float b t from r); cases e; rfl
 | ref a => cases (show u = Value.ref a from r); rfl
 | ty n => cases (show u = Value.type n from r); rfl
section
variable {P : Program} {w : World} {H H' : Hp} {h h' : Heap} {a C dx : Addr} {fs fs' : List (Str × V)}
theorem Rm (hok : HOk P w H h) (e : H a = some (.ins C dx fs)) : ∃ mA, ObjM h a dx C mA /\ (∀ f, RelO (fs.lookup f) (mA f)) /\ PySem.Within mA (fs.map (·.1)) /\ fs.length <= 1000 /\ H dx = some (.own a) := by
 obtain ⟨d, z, ne, ob, mA, n, r, q⟩ := (show ObjOk P w H h a (.ins C dx fs) from hok a _ e)
 exact ⟨mA, ⟨ob, n, ne⟩, r, q, z, d⟩
end
structure Cls (K : Fg_) (C : Addr) : Prop where
 pg : PySem.W.plainGet K C Str.empty = true
 hd : PySem.W.hasDictIn K C = true
 po : PySem.W.plainOver K C = true
 sa : PySem.W.findIn K (.ref C) "__setattr__" = some (some (.builtin "object.__setattr__"))
theorem Cls.get {K : Fg_} {C : Addr} (c : Cls K C) (f : Str) : PySem.W.plainGet K C f = true := c.pg
def NoAttr (K : Fg_) (C : Addr) (f : Str) : Prop := PySem.W.findIn K (.ref C) f = some none
theorem NoAttr.taker {K : Fg_} {C : Addr} {f : Str} (n : NoAttr K C f) : PySem.W.takerIn K C f = some none := by
 unfold PySem.W.takerIn
 rw [show PySem.W.findIn K (.ref C) f = some none from n]
 rfl
structure Con (K : Fg_) (C : Addr) (f : Str) (v : V) (u : Value) : Prop where
 at_ : PySem.W.findIn K (.ref C) f = some (some u)
 rel : RelV v u
 get : PySem.W.specialIn K u "__get__" = some none
 cp : PySem.W.copiedNames.contains f = false
structure Meth (K : Fg_) (C : Addr) (m : Str) (f : Addr) : Prop where
 at_ : PySem.W.findIn K (.ref C) m = some (some (.ref f))
 fn : PySem.W.isFn K (.ref f) = true
 kp : PySem.W.keepIn K (.ref f) = true
section
variable {X : Cx} {pins : List (Addr × Obj)} {σ : St} {H : Hp} {s : Shared} {a C dx : Addr} {fs : List (Str × V)} {f : Str} {v : V} {A : Around} {E : Value -> Shared -> Prop}
theorem Ww {b : Bool} {Q : Value -> Shared -> Prop} (I : Inv X pins σ H s) (e : H a = some (.ins C dx fs)) (c : Cls X.K C) (n : NoAttr X.K C f) (l : fs.lookup f = some v)
  (h : ∀ u s', Inv X pins σ H s' -> RelV v u -> Q u s') : wpAny (model X.prog X.w) A (getAttr (.ref a) f b) Q E s := by
 obtain ⟨mA, O, r, _, _, _⟩ := Rm I.hok e
 obtain ⟨u, hu, ru⟩ := RelO.some_of (v := v) (o := mA f) (by rw [<- l]; exact r f)
 exact get_map I.kIn O (c.get f) c.hd n hu (YC ru) (h u _ (I.tok _) ru)
theorem LR {m : Str} {g : Addr} {pl : Sem Bool} {Q : Value × List Value -> Shared -> Prop} (I : Inv X pins σ H s) (e : H a = some (.ins C dx fs)) (c : Cls X.K C) (k : Meth X.K C m g) (l : fs.lookup m = none)
  (h : Q (.ref g, [.ref a]) s) : wpAny (model X.prog X.w) A (getMethod (.ref a) m pl) Q E s := by
 obtain ⟨mA, O, r, _, _, _⟩ := Rm I.hok e
 have hn : mA m = none := RelO.none_of (by rw [<- l]; exact r m)
 exact ZS I.kIn O (c.get m) k.at_ k.fn hn h
theorem WW {y : V} {u : Value} {Q : Unit -> Shared -> Prop} (I : Inv X pins σ H s) (e : H a = some (.ins C dx fs)) (c : Cls X.K C) (n : NoAttr X.K C f) (hl : fs.length < 1000) (ry : RelV y u)
  (h : ∀ s', Inv X pins σ (upd H a (.ins C dx (Qs f y fs))) s' -> Q () s') : wpAny (model X.prog X.w) A (setAttr (.ref a) f u) Q E s := by
 obtain ⟨mA, O, r, wi, _, ho⟩ := Rm I.hok e
 have hz : (fs.map (·.1)).length <= sizeLine := by rw [List.length_map, sizeLine_eq]; omega
 refine abe I.kIn O c.sa c.po n.taker c.hd wi hz fun h' O' sb => h _ ?_
 have hd : ∃ o, h'.get? dx = some o := let ⟨o, _, _, e', _⟩ := O'.ns; ⟨o, e'⟩
 refine I.write (x := a) (e := dx) (by rw [e]; exact True.intro) (.inr ho) (fun b q hb z => (sb.2 b hb).trans z) hd ?_
 refine ⟨by rw [Aj O.ne]; exact ho, ?_, O.ne, O'.obj, _, O'.ns, fun g => ?_, fun g hg => ?_⟩
 ·have := Ov f y fs; omega
 ·show RelO ((Qs f y fs).lookup g) (if g = f then some u else mA g)
  rw [Pa]
  by_cases q : g = f
  ·rw [if_pos q, if_pos q]; exact ry
  ·rw [if_neg q, if_neg q]; exact r g
 ·by_cases q : g = f
  ·rw [q]; exact (Oa f y fs).1
  ·refine (Oa f y fs).2 g (wi g fun z => hg ?_)
   show (if g = f then some u else mA g) = none
   rw [if_neg q]; exact z
theorem Inv.made (I : Inv X pins σ H s) : Inv X pins σ (upd (upd H s.heap.objs.size (.own (s.heap.objs.size + 1))) (s.heap.objs.size + 1) (.ins C s.heap.objs.size []))
  { s with heap := (s.heap.push PySem.W.emptyDict).push (PySem.W.instObj C s.heap.objs.size) } := by
 have e1 : (s.heap.push PySem.W.emptyDict).get? s.heap.objs.size = some PySem.W.emptyDict := Heap.get?_push_size s.heap rfl
 have e2 : ((s.heap.push PySem.W.emptyDict).push (PySem.W.instObj C s.heap.objs.size)).get? (s.heap.objs.size + 1) = some (PySem.W.instObj C s.heap.objs.size) := by
  have := Heap.get?_push_size (s.heap.push PySem.W.emptyDict) (o := PySem.W.instObj C s.heap.objs.size) rfl
  rwa [Heap.size_push] at this
 have e3 : (s.heap.push PySem.W.emptyDict).Ns s.heap.objs.size (fun _ => none) := ⟨PySem.W.emptyDict, #[], _, e1, rfl, (fun e he => absurd he (by simp)), fun _ => rfl⟩
 have I1 := I.laid (a := s.heap.objs.size) (o := .own (s.heap.objs.size + 1)) (h' := s.heap.push PySem.W.emptyDict) (t' := s.toks) (fun b u q => Heap.get?_push_of_some _ q) (Nat.le_refl _) ⟨_, e1⟩
 refine I1.laid (a := s.heap.objs.size + 1) (o := .ins C s.heap.objs.size []) (t' := s.toks) (fun b u q => Heap.get?_push_of_some _ q) (Nat.le_of_eq (Heap.size_push _ _)) ?_
 have ne : s.heap.objs.size ≠ s.heap.objs.size + 1 := Nat.ne_of_lt (Nat.lt_succ_self _)
 refine ⟨by rw [Aj ne, Ae], Nat.zero_le _, ne, e2, fun _ => none, (Heap.Ns1.of_empty e3).at fun o q => Heap.get?_push_of_some _ q, fun _ => True.intro, fun y hy => absurd rfl hy⟩
theorem Zj {prog : Program} {w : World} {env : Env} {e : Expr} {f : Str} {pos : Pos} {s : Shared} {Q : Value -> Shared -> Prop} (hb : attributeBase e f env (eval e env) = eval e env)
  (h : wpAny (model prog w) A (eval e env) (fun o s₁ => wpAny (model prog w) A (getAttr o f true) Q E s₁) E s) : wpAny (model prog w) A (eval (.Attribute e f pos) env) Q E s :=
 Attribute_any_ h (by rw [arm_eval_Attribute, hb])
end
def adE (K : Fg_) (ta : TE) (f : Str) : TE := fun σ H Q => ta σ H fun x H1 => ∃ a C dx fs v, x = .ref a /\ H1 a = some (.ins C dx fs) /\ Cls K C /\ NoAttr K C f /\ fs.lookup f = some v /\ Q v H1
def adO (K : Fg_) (ta tv : TE) (f : Str) : TS := fun D σ H => tv σ H fun y H1 => ta σ H1 fun x H2 => ∃ a C dx fs, x = .ref a /\ H2 a = some (.ins C dx fs) /\ Cls K C /\ NoAttr K C f /\ fs.length < 1000 /\
 D.nx σ (upd H2 a (.ins C dx (Qs f y fs)))
section
variable {X : Cx} {o e value : Expr} {f : Str} {pos pos' tpos : Pos} {ta tv : TE}
theorem acl (he : PE X e ta) (hb : attributeBase e f X.env (eval e X.env) = eval e X.env) : PE X (.Attribute e f pos) (adE X.K ta f) := by
 intro pins s σ H Q I h
 refine Zj hb (thn (he pins s σ H _ I h) fun u s1 ⟨x, H1, I1, rx, a, C, dx, fs, v, ex, ea, c, n, l, q⟩ => ?_)
 subst ex
 obtain rfl : u = Value.ref a := rx
 exact Ww I1 ea c n l fun u' s2 I2 ru => ⟨v, H1, I2, ru, q⟩
theorem acF (ha : PE X o ta) (hv : PE X value tv) (hs : swapsWith value (some (.Attribute o f pos')) pos.line X.env = pure false) : PS X (.Assign [.Attribute o f pos'] value pos) (adO X.K ta tv f) := by
 intro pins s σ H D I h
 refine plainObj_wpAny_Assign_Attribute (thn (hv pins s σ H _ I h) fun u s1 ⟨y, H1, I1, ry, q⟩ => thn (ha pins s1 σ H1 _ I1 q) fun ov s2 ⟨x, H2, I2, rx, a, C, dx, fs, ex, ea, c, n, l, q2⟩ => ?_) hs
 subst ex
 obtain rfl : ov = Value.ref a := rx
 exact WW I2 ea c n l ry fun s3 I3 => ⟨σ, _, I3, q2⟩
end
section
variable {X : Cx} {pins : List (Addr × Obj)} {σ : St} {H : Hp} {s : Shared} {A : Around} {E : Value -> Shared -> Prop} {Q : Value -> Shared -> Prop} {c : Value} {b : Bool}
inductive TyOf (K : Fg_) (H : Hp) : V -> Value -> Prop where
 | non : TyOf K H .non (.type "NoneType")
 | bl (x : Bool) : TyOf K H (.bl x) (.type "bool")
 | int (i : Int) : TyOf K H (.int i) (.type "int")
 | str (x : Str) : TyOf K H (.str x) (.type "str")
 | flt (x : UInt64) : TyOf K H (.flt x) (.type "float")
 | lst {a : Addr} {xs : List V} (e : H a = some (.lst xs)) : TyOf K H (.ref a) (.type "list")
 | frz {a : Addr} {o : Obj} {xs : List V} (e : H a = some (.frz o (.lst xs))) : TyOf K H (.ref a) (.type "list")
 | tup {a : Addr} {xs : List V} (e : H a = some (.tup xs)) : TyOf K H (.ref a) (.type "tuple")
 | dK {a : Addr} {kvs : List (Key × V)} (e : H a = some (.dK kvs)) : TyOf K H (.ref a) (.type "dict")
 | dT {a : Addr} {kvs : List (List Key × V)} (e : H a = some (.dT kvs)) : TyOf K H (.ref a) (.type "dict")
 | ins {a C dx : Addr} {fs : List (Str × V)} (e : H a = some (.ins C dx fs)) (cl : Cls K C) (ha : PySem.W.findIn K (.ref C) "__class__" = some (some (.builtin "object.__class__")))
   (hn : PySem.W.specialIn K (.builtin "object.__class__") "__get__" = some (some (.builtin "getset_descriptor.__get__"))) (htk : PySem.W.takesIn K (.builtin "object.__class__") = some true)
   (hm : PySem.W.mroIn K C (.type "object") = some true) : TyOf K H (.ref a) (.ref C)
theorem Sw {x : V} {u t : Value} (I : Inv X pins σ H s) (rx : RelV x u) (ty : TyOf X.K H x t) (e : PySem.W.kitOne X.K t c = some b) (h : ∀ tk, Q (.bool b) { s with toks := tk }) :
  wpAny (model X.prog X.w) A (call (.builtin "isinstance") [u, c]) Q E s := by
 cases ty with
 | non => cases (show u = Value.none from rx); exact PySem.W.kia_one PySem.W.kitx_none I.kIn True.intro e (fun z => nomatch z) h
 | bl y => cases (show u = Value.bool y from rx); exact PySem.W.kia_one PySem.W.kitx_bool I.kIn True.intro e (fun z => nomatch z) h
 | int i => obtain ⟨t, q⟩ := (show ∃ t, u = Value.int i t from rx); cases q; exact PySem.W.kia_one PySem.W.kitx_int I.kIn True.intro e (fun z => nomatch z) h
 | str y => obtain ⟨t, q⟩ := (show ∃ t, u = Value.str y t from rx); cases q; exact PySem.W.kia_one PySem.W.kitx_str I.kIn True.intro e (fun z => nomatch z) h
 | flt y => obtain ⟨t, q⟩ := (show ∃ t, u = Value.float y t from rx); cases q; exact PySem.W.kia_one PySem.W.kitx_float I.kIn True.intro e (fun z => nomatch z) h
 | @lst a xs ea =>
  cases (show u = Value.ref a from rx)
  obtain ⟨_, _, n, _, h1⟩ := (show ObjOk X.prog X.w H s.heap a (.lst xs) from I.hok a _ ea)
  exact PySem.W.kia_one PySem.W.kitx_list I.kIn ⟨_, h1, rfl⟩ e (fun z => nomatch z) h
 | @frz a ob xs ea =>
  cases (show u = Value.ref a from rx)
  obtain ⟨_, _, _, n, _, h1⟩ := (show ObjOk X.prog X.w H s.heap a (.frz ob (.lst xs)) from I.hok a _ ea)
  exact PySem.W.kia_one PySem.W.kitx_list I.kIn ⟨_, h1, rfl⟩ e (fun z => nomatch z) h
 | @tup a xs ea =>
  cases (show u = Value.ref a from rx)
  obtain ⟨_, _, _, p⟩ := (show ObjOk X.prog X.w H s.heap a (.tup xs) from I.hok a _ ea)
  obtain ⟨o, h1, h2, _⟩ := p
  exact PySem.W.kia_one PySem.W.kitx_tuple I.kIn ⟨o, h1, h2⟩ e (fun z => nomatch z) h
 | @dK a kvs ea =>
  cases (show u = Value.ref a from rx)
  obtain ⟨_, _, vs, _, p⟩ := (show ObjOk X.prog X.w H s.heap a (.dK kvs) from I.hok a _ ea)
  obtain ⟨o, es, ep, h1, h2, _⟩ := p
  exact PySem.W.kia_one PySem.W.kitx_dict I.kIn ⟨o, h1, h2.1⟩ e (fun z => nomatch z) h
 | @dT a kvs ea =>
  cases (show u = Value.ref a from rx)
  obtain ⟨_, _, xs, _, o, es, ep, h1, h2, _⟩ := (show ObjOk X.prog X.w H s.heap a (.dT kvs) from I.hok a _ ea)
  exact PySem.W.kia_one PySem.W.kitx_dict I.kIn ⟨o, h1, h2.1⟩ e (fun z => nomatch z) h
 | @ins a C dx fs ea cl ha hn htk hm =>
  cases (show u = Value.ref a from rx)
  obtain ⟨mA, O, _⟩ := Rm I.hok ea
  obtain ⟨od, J, _⟩ := O.look
  exact PySem.W.kia_one (PySem.W.kitx_own (cl.get _) cl.hd ha hn htk hm) I.kIn J e (fun z => nomatch z) h
end
end L2
namespace L2
open PySem PySem.Spec PyProof.Rows
structure Room (k : Nat) (A : Around) : Prop where
 hd : A.handled = none
 dp : A.depth + 3 * k + 5 < recursionLimit
 un : A.units + 16 * k + 200 < cLine
theorem Room.mono {j k : Nat} {A : Around} (r : Room k A) (h : j <= k) : Room j A := ⟨r.hd, by have := r.dp; omega, by have := r.un; omega⟩
theorem Room.deeper {k : Nat} {A : Around} (r : Room (k + 1) A) (env : Env) : Room k (A.deeper env) :=
 ⟨r.hd, by have := r.dp; show A.depth + 1 + 3 * k + 5 < _; omega, by have := r.un; show A.units + 3 + 16 * k + 200 < _; omega⟩
theorem Room.in1 {k : Nat} {A : Around} (r : Room (k + 1) A) : Room k A.in1 :=
 ⟨r.hd, by have := r.dp; show A.depth + 3 * k + 5 < _; omega, by have := r.un; show A.units + 1 + 16 * k + 200 < _; omega⟩
theorem Wq {A : Around} {C : Addr} {us : List Value} {kw : List (Str × Value)} : (A.under (.builtin "type.__call__" ⟨.ref C :: us, kw⟩)).depth = A.depth + 1 := by
 first | rfl | simp [Around.under, Code.weight, Code.isCreation, Code.isGuard, Code.isCaller, Code.frames, Code.isFrame, guardIds]
theorem WX {A : Around} {C : Addr} {us : List Value} {kw : List (Str × Value)} : (A.under (.builtin "type.__call__" ⟨.ref C :: us, kw⟩)).units = A.units + 1 := by
 first | rfl | simp [Around.under, Code.cUnits, Code.frames, Code.isFrame]
theorem Room.make {k : Nat} {A : Around} (r : Room (k + 1) A) (C : Addr) (us : List Value) (kw : List (Str × Value)) : Room k (A.under (.builtin "type.__call__" ⟨.ref C :: us, kw⟩)) :=
 ⟨r.hd, by have := r.dp; rw [Wq]; omega, by have := r.un; rw [WX]; omega⟩
theorem Room.depth {k : Nat} {A : Around} (r : Room k A) : A.depth < recursionLimit := by have := r.dp; omega
theorem Room.units {k : Nat} {A : Around} (r : Room k A) : A.units + 64 < cLine := by have := r.un; omega
def Vf : TA := fun _ H Q => Q [] H
def Dt (ta : TE) (tr : TA) : TA := fun σ H Q => ta σ H fun x H1 => tr σ H1 fun xs H2 => Q (x :: xs) H2
section
variable {X : Cx} {e : Expr} {es : List Expr} {te : TE} {t : TA} {pos : Pos}
theorem Ad : PA X [] Vf := fun _ _ _ _ H Q I h => Calls.spliced_nil ⟨[], H, I, .nil, h⟩
theorem Aa (ha : PE X e te) (hr : PA X es t) (hs : starEach (e :: es) X.env = (false, eval e X.env) :: starEach es X.env := by rfl) : PA X (e :: es) (Dt te t) := by
 intro pos pins s σ H Q I h
 rw [hs]
 show wpAny _ _ (spliced ((false, eval e X.env) :: backTo pos (starEach es X.env))) _ _ s
 refine Calls.spliced_cons (thn (ha pins s σ H _ I h) fun u s1 ⟨x, H1, I1, r1, q1⟩ => ?_)
 exact thn (hr pos pins s1 σ H1 _ I1 q1) fun us s2 ⟨xs, H2, I2, r2, q2⟩ => ⟨x :: xs, H2, I2, .cons r1 r2, q2⟩
def aaE (t : TA) : TE := fun σ H Q => t σ H fun xs H1 => xs.length <= sizeLine /\ ∀ p, H1 p = none -> Q (.ref p) (upd H1 p (.tup xs))
def aew (t : TA) : TE := fun σ H Q => t σ H fun xs H1 => xs.length <= sizeLine /\ ∀ p, H1 p = none -> Q (.ref p) (upd H1 p (.lst xs))
theorem Bw {x1} (h : PA X es t) : PE X (.Tuple es x1 pos) (aaE t) := by
 intro pins s σ H Q I hq
 refine wpAny_Tuple_spliced (thn (h pos pins s σ H _ I hq) fun us s1 ⟨xs, H1, I1, r, z, q⟩ => ⟨by rw [<- r.length]; exact z, ?_⟩)
 have hf : H1 s1.heap.objs.size = none := I1.hok.fresh (Nat.le_refl _)
 refine ⟨.ref s1.heap.objs.size, upd H1 s1.heap.objs.size (.tup xs), I1.laid (t' := s1.toks) (fun b u e => Heap.get?_push_of_some _ e) (Nat.le_refl _) ?_, rfl, q _ hf⟩
 exact ⟨z, us, r, ⟨_, Heap.get?_push_size _ rfl, rfl, _, rfl⟩⟩
theorem Dv (h : PA X es t) : PE X (.List es pos) (aew t) := by
 intro pins s σ H Q I hq
 refine wpAny_List_spliced (thn (h pos pins s σ H _ I hq) fun us s1 ⟨xs, H1, I1, r, z, q⟩ => ⟨by rw [<- r.length]; exact z, ?_⟩)
 have hf : H1 s1.heap.objs.size = none := I1.hok.fresh (Nat.le_refl _)
 refine ⟨.ref s1.heap.objs.size, upd H1 s1.heap.objs.size (.lst xs), I1.laid (t' := s1.toks) (fun b u e => Heap.get?_push_of_some _ e) (Nat.le_refl _) ?_, rfl, q _ hf⟩
 exact ⟨z, us, 0, r, Heap.get?_push_size _ rfl⟩
end
abbrev Sp := List V -> Hp -> VK -> XK -> Prop
abbrev CXT := List Env -> Hp -> Shared -> XK -> Value -> Shared -> Prop
structure Env0 (P : Program) (w : World) (K : Fg_) (mg : Str -> Option Value) (base : Heap) (A : Around) (outer : List Env) (s : Shared) (H : Hp) : Prop where
 frames : A.frames = some outer
 mod : Mod K mg base
 bs : ∀ b o, base.get? b = some o -> s.heap.get? b = some o /\ H b = none
 bsz : base.objs.size <= s.heap.objs.size
 funs : s.heap.FunFrames base outer
 frf : ∀ b ∈ frs outer, H b = none
 hok : HOk P w H s.heap
 bare : AllBare s.gens
def CE (outer : List Env) (P : Program) (w : World) (H : Hp) (s : Shared) (Q : VK) (u : Value) (s' : Shared) : Prop :=
 ∃ v H', s'.os = s.os /\ AllBare s'.gens /\ Un (frs outer) [] H H' s.heap s'.heap /\ HOk P w H' s'.heap /\ RelV v u /\ Q v H'
def CR (CX : CXT) (outer : List Env) (P : Program) (w : World) (H : Hp) (s : Shared) (Q : VK) (E : XK) (r : Result) (s' : Shared) : Prop :=
 match r with
 | .ok (.ret u) => CE outer P w H s Q u s'
 | .ok _ => False
 | .error e => CX outer H s E e s'
structure FnOk (P : Program) (w : World) (K : Fg_) (mg : Str -> Option Value) (base : Heap) (CX : CXT) (k : Nat) (f : Addr) (fd : FuncData) (ps : List Str) (sp : Sp) : Prop where
 len : ∀ vs H Q E, sp vs H Q E -> vs.length = ps.length
 run : ∀ (A : Around) (outer : List Env) (s : Shared) (H : Hp) (args : Args) (us : List Value) (vs : List V) (Q : VK) (E : XK), Room k A -> Env0 P w K mg base A outer s H -> BindsTo s fd args (ps.zip us) -> Vals vs us -> sp vs H Q E ->
  codeAny (model P w) A (.call (.ref f) args) (CR CX outer P w H s Q E) s
theorem Env0.make {P : Program} {w : World} {K : Fg_} {mg : Str -> Option Value} {base : Heap} {A : Around} {outer : List Env} {s : Shared} {H : Hp} (e : Env0 P w K mg base A outer s H) (C : Addr) (us : List Value) (kw : List (Str × Value)) :
  Env0 P w K mg base (A.under (.builtin "type.__call__" ⟨.ref C :: us, kw⟩)) outer s H := ⟨by first | exact e.frames | (simpa [Around.under, Code.envs, Code.isFrame, pushEnvs] using e.frames), e.mod, e.bs, e.bsz, e.funs, e.frf, e.hok, e.bare⟩
theorem Env0.in1 {P : Program} {w : World} {K : Fg_} {mg : Str -> Option Value} {base : Heap} {A : Around} {outer : List Env} {s : Shared} {H : Hp} (e : Env0 P w K mg base A outer s H) :
  Env0 P w K mg base A.in1 outer s H := ⟨e.frames, e.mod, e.bs, e.bsz, e.funs, e.frf, e.hok, e.bare⟩
section
variable {X : Cx} {pins : List (Addr × Obj)} {σ : St} {H : Hp} {s s' : Shared}
theorem Inv.env0 (I : Inv X pins σ H s) : Env0 X.prog X.w X.K X.mg X.base X.A X.stack s H :=
 ⟨I.ok.frames, I.ok.mod, I.bs, Nat.le_trans I.ok.bsz I.sz, I.stack, I.stkFree, I.hok, I.bare⟩
theorem Inv.after {Q : VK} {u : Value} (I : Inv X pins σ H s) (h : CE X.stack X.prog X.w H s Q u s') : EP X pins σ Q u s' := by
 obtain ⟨v, H', os, bare, un, hok, r, q⟩ := h
 obtain ⟨hh, g, d, t, os'⟩ := s'
 obtain rfl : os' = s.os := os
 exact ⟨v, H', I.call (h' := hh) (g' := g) (d' := d) (t' := t) (ch := []) un hok bare (fun b z => absurd z (by simp)), r, q⟩
end
def abR (sp : Sp) (dvs : List V) (E : XK) (t : TA) : TE := fun σ H Q => t σ H fun vs H1 => sp (vs ++ dvs) H1 Q E
def abY (C : Addr) (sp : Sp) (dvs : List V) (E : XK) (t : TA) : TE := fun σ H Q => t σ H fun vs H1 => ∀ x dx, H1 x = none -> H1 dx = none -> dx ≠ x ->
 sp (.ref x :: (vs ++ dvs)) (upd (upd H1 dx (.own x)) x (.ins C dx [])) (fun v H2 => v = .non /\ Q (.ref x) H2) E
def Binds (K : Fg_) (fd : FuncData) (ps : List Str) (ds : List Value) : Prop :=
 ∀ (s : Shared) (us : List Value), K.In s.heap -> (us ++ ds).length = ps.length -> BindsTo s fd ⟨us, []⟩ (ps.zip (us ++ ds))
theorem Binds.all {K : Fg_} {fd : FuncData} {ps : List Str} (h : ∀ us : List Value, us.length = ps.length -> bindArgs fd ⟨us, []⟩ = pure (ps.zip us)) : Binds K fd ps [] := fun s us _ hl => by
 rw [List.append_nil] at hl ⊢
 exact .of_eq (h us hl)
def Jg (CX : CXT) (X : Cx) (E : XK) : Prop := ∀ (pins : List (Addr × Obj)) (σ : St) (H : Hp) (s : Shared) (e : Value) (s' : Shared), Inv X pins σ H s -> CX X.stack H s E e s' -> X.xe e s'
section
variable {X : Cx} {CX : CXT} {k : Nat} {f C : Addr} {fd : FuncData} {ps : List Str} {sp : Sp} {dvs : List V} {ds : List Value} {E : XK} {x m : Str} {p pos apos : Pos} {e o : Expr} {es : List Expr} {ta : TE} {t : TA}
theorem Vt {pins : List (Addr × Obj)} {σ : St} {H : Hp} {s : Shared} {Q : VK} {us : List Value} {vs : List V} (F : FnOk X.prog X.w X.K X.mg X.base CX k f fd ps sp) (hr : Room k X.A) (hb : Binds X.K fd ps ds) (hd : Vals dvs ds) (hx : Jg CX X E)
  (I : Inv X pins σ H s) (r : Vals vs us) (h : sp (vs ++ dvs) H Q E) : wpAny (model X.prog X.w) X.A (call (.ref f) us) (EP X pins σ Q) X.xe s := by
 have r2 : Vals (vs ++ dvs) (us ++ ds) := r.append hd
 have hl : (us ++ ds).length = ps.length := by rw [<- r2.length]; exact F.len _ _ _ _ h
 refine wpAny_call (codeAny_mono (F.run X.A X.stack s H ⟨us, []⟩ (us ++ ds) (vs ++ dvs) Q E hr I.env0 (hb s us I.kIn hl) r2 h) fun r s' hq => ?_)
 cases r with
 | error e => exact hx pins σ H s e s' I hq
 | ok fl =>
  cases fl with
  | ret u => exact I.after hq
  | next => exact False.elim hq
  | brk => exact False.elim hq
  | cont => exact False.elim hq
theorem Ai (F : FnOk X.prog X.w X.K X.mg X.base CX k f fd ps sp) (hr : Room k X.A) (hg : Gl X x) (hm : X.mg x = some (.ref f)) (hk : PySem.W.keepIn X.K (.ref f) = true) (hb : Binds X.K fd ps ds) (hd : Vals dvs ds) (hx : Jg CX X E)
  (ha : PA X (e :: es) t) (hdb : (x == ("__debug__" : Str)) = false := by decide) (he : starEach (e :: es) X.env = (false, eval e X.env) :: starEach es X.env := by rfl) (hpl : (backTo pos (starEach es X.env)).any (·.1) = false := by rfl) :
  PE X (.Call (.Name x p) (e :: es) [] pos) (abR sp dvs E t) := by
 intro pins s σ H Q I h
 refine wpAny_Call_Name_kw (Jf I hg hm ?_ hdb)
 refine PySem.W.callWith_K (h₀ := X.base) I.ok.mod.kin hk (thn (ha pos pins s σ H _ I h) fun us s1 ⟨vs, H1, I1, r, q⟩ => ⟨I1.kIn, ?_⟩) he hpl
 exact Vt F hr hb hd hx I1 r q
structure Mk (K : Fg_) (C f : Addr) : Prop where
 makes : PySem.W.makesIn K C = true
 init : PySem.W.findIn K (.ref C) "__init__" = some (some (.ref f))
 fn : PySem.W.isFn K (.ref f) = true
 kp : PySem.W.keepIn K (.ref C) = true
theorem VB {pins : List (Addr × Obj)} {σ : St} {H : Hp} {s : Shared} {Q : VK} {us : List Value} {vs : List V} (M : Mk X.K C f) (F : FnOk X.prog X.w X.K X.mg X.base CX k f fd ps sp) (hr : Room (k + 1) X.A) (hb : Binds X.K fd ps ds) (hd : Vals dvs ds)
  (hx : Jg CX X E) (I : Inv X pins σ H s) (r : Vals vs us)
  (h : ∀ x dx, H x = none -> H dx = none -> dx ≠ x -> sp (.ref x :: (vs ++ dvs)) (upd (upd H dx (.own x)) x (.ins C dx [])) (fun v H2 => v = .non /\ Q (.ref x) H2) E) :
  wpAny (model X.prog X.w) X.A (call (.ref C) us) (EP X pins σ Q) X.xe s := by
 have hq := h (s.heap.objs.size + 1) s.heap.objs.size (I.hok.fresh (Nat.le_succ _)) (I.hok.fresh (Nat.le_refl _)) (Nat.ne_of_lt (Nat.lt_succ_self _))
 have I2 := Inv.made (C := C) I
 have r2 : Vals (V.ref (s.heap.objs.size + 1) :: (vs ++ dvs)) (Value.ref (s.heap.objs.size + 1) :: (us ++ ds)) := .cons rfl (r.append hd)
 have hl : (Value.ref (s.heap.objs.size + 1) :: us ++ ds).length = ps.length := by
  have e := r2.length
  rw [F.len _ _ _ _ hq] at e
  exact e.symm
 refine wpAny_call (Zy (f := f) I.kIn M.makes M.init (beq_iff_eq.mp M.fn) (codeAny_mono (F.run _ X.stack _ _ ⟨Value.ref (s.heap.objs.size + 1) :: us, []⟩ (Value.ref (s.heap.objs.size + 1) :: (us ++ ds)) _ _ E (hr.make C us [])
  (I2.env0.make C us []) (hb _ (Value.ref (s.heap.objs.size + 1) :: us) I2.kIn hl) r2 hq) fun r s' hq' => ?_))
 cases r with
 | error e => exact hx pins σ _ _ e s' I2 hq'
 | ok fl =>
  cases fl with
  | ret u =>
   obtain ⟨v, H', I3, rv, ev, q3⟩ := I2.after hq'
   subst ev
   exact ⟨rv, ⟨V.ref (s.heap.objs.size + 1), H', I3, rfl, q3⟩⟩
  | next => exact False.elim hq'
  | brk => exact False.elim hq'
  | cont => exact False.elim hq'
theorem DN (M : Mk X.K C f) (F : FnOk X.prog X.w X.K X.mg X.base CX k f fd ps sp) (hr : Room (k + 1) X.A) (hg : Gl X x) (hm : X.mg x = some (.ref C)) (hb : Binds X.K fd ps ds) (hd : Vals dvs ds) (hx : Jg CX X E)
  (ha : PA X (e :: es) t) (hdb : (x == ("__debug__" : Str)) = false := by decide) (he : starEach (e :: es) X.env = (false, eval e X.env) :: starEach es X.env := by rfl) (hpl : (backTo pos (starEach es X.env)).any (·.1) = false := by rfl) :
  PE X (.Call (.Name x p) (e :: es) [] pos) (abY C sp dvs E t) := by
 intro pins s σ H Q I h
 refine wpAny_Call_Name_kw (Jf I hg hm ?_ hdb)
 refine PySem.W.callWith_K (h₀ := X.base) I.ok.mod.kin M.kp (thn (ha pos pins s σ H _ I h) fun us s1 ⟨vs, H1, I1, r, q⟩ => ⟨I1.kIn, ?_⟩) he hpl
 exact VB M F hr hb hd hx I1 r q
theorem aay (M : Mk X.K C f) (F : FnOk X.prog X.w X.K X.mg X.base CX k f fd ps sp) (hr : Room (k + 1) X.A) (hg : Gl X x) (hm : X.mg x = some (.ref C)) (hb : Binds X.K fd ps ds) (hd : Vals dvs ds) (hx : Jg CX X E)
  (hdb : (x == ("__debug__" : Str)) = false := by decide) : PE X (.Call (.Name x p) [] [] pos) (abY C sp dvs E Vf) := by
 intro pins s σ H Q I h
 refine wpAny_Call_Name_kw (Jf I hg hm ?_ hdb)
 exact PySem.W.callWith_K0 I.kIn M.kp (VB (us := []) M F hr hb hd hx I .nil h)
end
def PK (X : Cx) (kws : List Keyword) (t : TA) : Prop :=
 ∀ (pos : Pos) (pins : List (Addr × Obj)) (s : Shared) (σ : St) (H : Hp) (Q : List V -> Hp -> Prop), Inv X pins σ H s -> t σ H Q -> wpAny (model X.prog X.w) X.A (evalAll ((backToKw pos (keywordEach kws X.env)).map (·.2))) (AP X pins σ Q) X.xe s
section
variable {X : Cx} {CX : CXT} {k : Nat} {f C : Addr} {fd : FuncData} {ps ks : List Str} {sp : Sp} {E : XK} {x m : Str} {p pos apos kpos : Pos} {e o : Expr} {es : List Expr} {kws : List Keyword} {te ta : TE} {t tk : TA} {nm : Option Str}
theorem acU : PK X [] Vf := fun _ _ _ _ H Q I h => wpAny_evalAll_nil ⟨[], H, I, .nil, h⟩
theorem abA (ha : PE X e te) (hr : PK X kws t) : PK X (⟨nm, e, kpos⟩ :: kws) (Dt te t) := by
 intro pos pins s σ H Q I h
 show wpAny _ _ (evalAll ((do let v <- eval e X.env; standAt pos; pure v) :: (backToKw pos (keywordEach kws X.env)).map (·.2))) _ _ s
 refine wpAny_evalAll_cons (wpAny_bind (thn (ha pins s σ H _ I h) fun u s1 ⟨x, H1, I1, r1, q1⟩ => wpAny_bind (wpAny_standAt (wpAny_pure ?_))))
 exact thn (hr pos pins s1 σ H1 _ I1 q1) fun us s2 ⟨xs, H2, I2, r2, q2⟩ => ⟨x :: xs, H2, I2, .cons r1 r2, q2⟩
structure KBinds (K : Fg_) (fd : FuncData) (ps ks : List Str) (g : List Value -> List Value -> List Value) (gV : List V -> List V -> List V) : Prop where
 to : ∀ (s : Shared) (us ws : List Value), K.In s.heap -> (g us ws).length = ps.length -> BindsTo s fd ⟨us, ks.zip ws⟩ (ps.zip (g us ws))
 rel : ∀ {vs : List V} {us : List Value} {zs : List V} {ws : List Value}, Vals vs us -> Vals zs ws -> Vals (gV vs zs) (g us ws)
variable {g : List Value -> List Value -> List Value} {gV : List V -> List V -> List V}
end
structure FnScope (N P : List Str) (sc : Scope) : Prop where
 kind : sc.kind = .function
 co : sc.isCoroutine = false
 gen : sc.isGenerator = false
 nd : N.Nodup
 pre : N.take P.length = P
 par : ∀ x ∈ P, sc.names.lookup x = some .local \/ sc.names.lookup x = some .cell
 nofree : ∀ y ∈ sc.names, y.2 ≠ .free
theorem Tn {kindOf : Str -> Option NameKind} {x : Str} : ∀ {binds : List (Str × Value)} {m : Str -> Option Value}, (∀ v, (x, v) ∉ binds) -> bindL kindOf binds m x = m x
 | [], _, _ => rfl
 | (n, v) :: r, m, h => by
  unfold bindL
  rw [Tn fun w hw => h w (List.mem_cons_of_mem _ hw)]
  split
  ·have : x ≠ n := by rintro rfl; exact h v List.mem_cons_self
   simp [this]
  ·rfl
theorem SQ {kindOf : Str -> Option NameKind} {x : Str} : ∀ {binds : List (Str × Value)} {m : Str -> Option Value}, (∀ v, (x, v) ∉ binds) -> bindC kindOf binds m x = m x
 | [], _, _ => rfl
 | (n, v) :: r, m, h => by
  unfold bindC
  rw [SQ fun w hw => h w (List.mem_cons_of_mem _ hw)]
  split
  ·rfl
  ·have : x ≠ n := by rintro rfl; exact h v List.mem_cons_self
   simp [this]
theorem Tq {kindOf : Str -> Option NameKind} {x : Str} {v : Value} : ∀ {P : List Str} {vs : List Value} {i : Nat} {m : Str -> Option Value}, P.Nodup -> P[i]? = some x -> vs[i]? = some v -> kindOf x = some .local ->
  bindL kindOf (P.zip vs) m x = some v
 | [], _, _, _, _, h, _, _ => by simp at h
 | _ :: _, [], _, _, _, _, h, _ => by simp at h
 | p :: P, w :: vs, 0, m, nd, h1, h2, hk => by
  simp at h1 h2; subst h1; subst h2
  show bindL kindOf ((p, w) :: P.zip vs) m p = _
  unfold bindL
  rw [Tn fun v hv => (List.nodup_cons.mp nd).1 (List.of_mem_zip hv).1, if_pos hk]
  simp
 | p :: P, w :: vs, i + 1, m, nd, h1, h2, hk => by
  show bindL kindOf ((p, w) :: P.zip vs) m x = _
  unfold bindL
  exact Tq (i := i) (List.nodup_cons.mp nd).2 (by simpa using h1) (by simpa using h2) hk
theorem Su {kindOf : Str -> Option NameKind} {x : Str} {v : Value} : ∀ {P : List Str} {vs : List Value} {i : Nat} {m : Str -> Option Value}, P.Nodup -> P[i]? = some x -> vs[i]? = some v -> kindOf x ≠ some .local ->
  bindC kindOf (P.zip vs) m x = some v
 | [], _, _, _, _, h, _, _ => by simp at h
 | _ :: _, [], _, _, _, _, h, _ => by simp at h
 | p :: P, w :: vs, 0, m, nd, h1, h2, hk => by
  simp at h1 h2; subst h1; subst h2
  show bindC kindOf ((p, w) :: P.zip vs) m p = _
  unfold bindC
  rw [SQ fun v hv => (List.nodup_cons.mp nd).1 (List.of_mem_zip hv).1, if_neg hk]
  simp
 | p :: P, w :: vs, i + 1, m, nd, h1, h2, hk => by
  show bindC kindOf ((p, w) :: P.zip vs) m x = _
  unfold bindC
  exact Su (i := i) (List.nodup_cons.mp nd).2 (by simpa using h1) (by simpa using h2) hk
def start (N : List Str) (vs : List V) : St := vs.map some ++ List.replicate (N.length - vs.length) none
def Lk (CX : CXT) (P : Program) (w : World) (K : Fg_) (mg : Str -> Option Value) (base : Heap) (N : List Str) (qual : Str) (scope : Scope) (f : Addr) (cd : Value) (A : Around) (outer : List Env) (s : Shared) (H : Hp) (E : XK) : Cx where
 prog := P
 w := w
 K := K
 mg := mg
 base := base
 A := A.deeper (envOfC qual scope s.heap.objs.size f cd)
 N := N
 s₀ := s
 H₀ := H
 env := envOfC qual scope s.heap.objs.size f cd
 outer := outer
 stack := envOfC qual scope s.heap.objs.size f cd :: outer
 ex := []
 calm := true
 fn := fun _ => true
 pn := []
 xe := fun e s' => wpAny (model P w) (A.deeper (envOfC qual scope s.heap.objs.size f cd)) (leaving (envOfC qual scope s.heap.objs.size f cd) e) (fun _ s'' => CX outer H s E e s'') (fun e' s'' => CX outer H s E e' s'') s'
theorem Vp {sc : Scope} {n : Nat} {x : Str} (h : sc.names.lookup x = some .cell) : ∃ c, (cellsFrom n sc.names []).lookup x = some c := by
 have q := PySem.W.cellsFrom_some sc.names n [] (.inl h)
 exact Option.isSome_iff_exists.mp q
theorem YM {CX : CXT} {P : Program} {w : World} {K : Fg_} {mg : Str -> Option Value} {base : Heap} {N ps : List Str} {qual : Str} {scope : Scope} {f : Addr} {cd : Value} {A : Around} {outer : List Env} {s s1 : Shared} {H : Hp} {E : XK} {us : List Value} {vs : List V}
  (S : FnScope N ps scope) (hd : A.handled = none) (e0 : Env0 P w K mg base A outer s H) (hl : vs.length = ps.length) (r : Vals vs us)
  (x : InCallC s s.heap.objs.size (bindL (envOfC qual scope s.heap.objs.size f cd).kindOf (ps.zip us) fun _ => none) (cellsFrom (s.heap.objs.size + 1) scope.names []) (bindC (envOfC qual scope s.heap.objs.size f cd).kindOf (ps.zip us) fun _ => none) s1) :
  Inv (Lk CX P w K mg base N qual scope f cd A outer s H E) [] (start N vs) H s1 := by
 have hpl : ps.length <= N.length := by have := congrArg List.length S.pre; rw [List.length_take] at this; omega
 obtain ⟨h1, tk, rfl, hk⟩ := x.done
 have noA : ∀ b : Addr, b ∉ (Lk CX P w K mg base N qual scope f cd A outer s H E).ex := fun b z => absurd (show b ∈ ([] : List Addr) from z) (by simp)
 refine ⟨⟨e0.mod, S.kind, rfl, rfl, Nat.le_refl _, fun y z c h1 h2 => ?_, fun y hy => ?_, fun y c _ h => ?_, fun _ => hd, Around.frames_deeper e0.frames, .inr ⟨rfl, rfl⟩, fun b z => absurd z (noA b), e0.bs, e0.bsz, fun b _ _ => noA b, fun b z => absurd z (noA b), e0.funs, e0.frf⟩,
  rfl, e0.bare, Un.kept hk, ⟨_, x.toInCall.ns, fun i y v h1 h2 h3 => ?_⟩, fun y c h => ⟨_, x.cell y c h⟩, e0.hok.fresh (Nat.le_refl _), fun y c h => ?_, fun p hp => absurd (show p ∈ ([] : List (Addr × Obj)) from hp) (by simp), e0.hok.kept hk, ?_⟩
 ·exact name_of_addr x.apart (PySem.mem_of_lookup h1) (PySem.mem_of_lookup h2)
 ·have hy : scope.names.lookup y = some .cell \/ scope.names.lookup y = some .free := hy
  rcases hy with hy | hy
  ·exact Vp hy
  ·exact absurd rfl (S.nofree _ (PySem.mem_of_lookup hy))
 ·exact Nat.le_of_lt (x.above y c (PySem.mem_of_lookup h))
 ·have hi : i < vs.length := by
   unfold start at h2
   by_cases hi : i < vs.length
   ·exact hi
   ·rw [List.getElem?_append_right (by simpa using hi)] at h2
    rw [List.getElem?_replicate] at h2
    split at h2 <;> cases h2
  have ha : vs[i]? = some v := by
   unfold start at h2
   rw [List.getElem?_append_left (by simpa using hi), List.getElem?_map] at h2
   cases e : vs[i]? with
   | none => rw [e] at h2; cases h2
   | some a => rw [e] at h2; cases h2; rfl
  obtain ⟨u, hu, rv⟩ := r.get ha
  have hp : ps[i]? = some y := by
   rw [<- S.pre, List.getElem?_take_of_lt (by omega)]; exact h1
  have ndP : ps.Nodup := by rw [<- S.pre]; exact S.nd.sublist (List.take_sublist _ _)
  refine ⟨u, rv, ?_⟩
  rcases S.par y (List.mem_of_getElem? hp) with k | k
  ·exact .inl ⟨k, Tq ndP hp hu k⟩
  ·obtain ⟨c, e⟩ := Vp (n := s.heap.objs.size + 1) k
   refine .inr ⟨.inl k, c, e, ?_⟩
   have q := x.cell y c e
   rw [Su ndP hp hu (by show scope.names.lookup y ≠ _; rw [k]; decide)] at q
   exact q
 ·exact e0.hok.fresh (Nat.le_of_lt (x.above y c (PySem.mem_of_lookup h)))
 ·unfold start
  show _ = N.length
  rw [List.length_append, List.length_map, List.length_replicate]
  omega
theorem aaZ {CX : CXT} {P : Program} {w : World} {K : Fg_} {mg : Str -> Option Value} {base : Heap} {k : Nat} {f : Addr} {name qual : Str} {params : Arguments} {body : List Stmt} {scope : Scope} {dV kV doc pm cdv ct oc : Value} {an od : Option Addr}
  {osl : Array (Option Value)} {N ps : List Str} {sp : Sp} (lk : K.lookup f = some ⟨oc, od, .func (PySem.W.fnOf name qual params body scope dV kV doc pm an cdv ct), osl⟩) (hcd : PySem.W.codeIn K cdv qual = true) (S : FnScope N ps scope)
  (len : ∀ vs H Q E, sp vs H Q E -> vs.length = ps.length)
  (hbody : ∀ (A : Around) (outer : List Env) (s : Shared) (H : Hp) (vs : List V) (Q : VK) (E : XK), Room k (A.deeper (envOfC qual scope s.heap.objs.size f cdv)) -> sp vs H Q E ->
   ∃ t, PSs (Lk CX P w K mg base N qual scope f cdv A outer s H E) body t /\ t { nx := fun _ H' => Q .non H', rt := Q } (start N vs) H) :
  FnOk P w K mg base CX (k + 1) f (PySem.W.fnOf name qual params body scope dV kV doc pm an cdv ct) ps sp := by
 refine ⟨len, fun A outer s H args us vs Q E hr e0 hb r hsp => ?_⟩
 have hl := len _ _ _ _ hsp
 have KX : K.In s.heap := e0.mod.kin.keeps fun b o e => (e0.bs b o e).1
 have lim : s.heap.NoLimit := e0.mod.nolimit.keeps fun b o e => (e0.bs b o e).1
 have hkind : ∀ y ∈ ps.zip us, scope.names.lookup y.1 = some .local \/ (scope.names.lookup y.1 = some .cell /\ ((cellsFrom (s.heap.objs.size + 1) scope.names []).lookup y.1).isSome = true) := fun ⟨n, v⟩ hy => by
  rcases S.par n (List.of_mem_zip hy).1 with q | q
  ·exact .inl q
  ·exact .inr ⟨q, PySem.W.cellsFrom_some _ _ _ (.inl q)⟩
 refine codeAny_call_function hr.depth (KX _ _ lk) rfl S.co S.gen rfl (PySem.W.codeRec_of KX hcd) (hb _ _ _ _ ?_)
 refine wpAny_newFunctionEnv_cells S.kind hkind fun env he s1 x => ?_
 subst he
 refine ⟨lim.keeps x.toInCall.keep, codeAny_func ?_⟩
 obtain ⟨t, ht, hq⟩ := hbody A outer s H vs Q E (hr.deeper _) hsp
 have I : Inv (Lk CX P w K mg base N qual scope f cdv A outer s H E) [] (start N vs) H s1 := YM S hr.hd e0 hl r x
 refine wpAny_mono (ht [] s1 (start N vs) H _ I hq) (fun fl s' hs => ?_) fun e s' hs => hs
 have fin : ∀ {σ' : St} {H' : Hp} {v : V} {u : Value}, Inv (Lk CX P w K mg base N qual scope f cdv A outer s H E) [] σ' H' s' -> RelV v u -> Q v H' -> CE outer P w H s Q u s' :=
  fun {σ' H' v u} J rv q => ⟨v, H', J.os, J.bare, J.base, J.hok, rv, q⟩
 cases fl with
 | ret u =>
  obtain ⟨v, σ', H', J, rv, q⟩ := hs
  exact fin J rv q
 | next =>
  obtain ⟨σ', H', J, q⟩ := hs
  exact fin (v := V.non) (u := Value.none) J rfl q
 | brk =>
  obtain ⟨_, _, _, q⟩ := hs
  exact False.elim q
 | cont =>
  obtain ⟨_, _, _, q⟩ := hs
  exact False.elim q
end L2
namespace L2
open PySem PySem.Spec PyProof.Rows
section
variable {X : Cx} {x : Str} {p pos : Pos} {e : Expr} {es : List Expr} {t : TA} {id T : String} {r : List V -> Hp -> VK -> Prop}
def tCB (r : List V -> Hp -> VK -> Prop) (t : TA) : TE := fun σ H Q => t σ H fun vs H1 => r vs H1 Q
theorem Bf (hc : DQ X (.builtin id) r) (hg : Gl X x) (hm : X.mg x = none) (hv : bootBuiltins x = some (.builtin id)) (ha : PA X (e :: es) t) (hn : x ≠ "__name__" := by decide) (hdb : (x == ("__debug__" : Str)) = false := by decide)
  (he : starEach (e :: es) X.env = (false, eval e X.env) :: starEach es X.env := by rfl) (hpl : (backTo pos (starEach es X.env)).any (·.1) = false := by rfl) : PE X (.Call (.Name x p) (e :: es) [] pos) (tCB r t) := by
 intro pins s σ H Q I h
 refine wpAny_Call_Name_kw (Qq I hg hm hv ?_ hn hdb)
 exact PyProof.Rows.callWith_builtin1 (thn (ha pos pins s σ H _ I h) fun us s1 ⟨vs, H1, I1, r1, q1⟩ => hc pins s1 σ H1 vs us Q I1 r1 q1) he hpl
theorem Jc (hc : DQ X (.type T) r) (hg : Gl X x) (hm : X.mg x = none) (hv : bootBuiltins x = some (.type T)) (ha : PA X (e :: es) t) (hn : x ≠ "__name__" := by decide) (hdb : (x == ("__debug__" : Str)) = false := by decide)
  (he : starEach (e :: es) X.env = (false, eval e X.env) :: starEach es X.env := by rfl) (hpl : (backTo pos (starEach es X.env)).any (·.1) = false := by rfl) : PE X (.Call (.Name x p) (e :: es) [] pos) (tCB r t) := by
 intro pins s σ H Q I h
 refine wpAny_Call_Name_kw (Qq I hg hm hv ?_ hn hdb)
 exact PyProof.Rows.callWith_type1 (thn (ha pos pins s σ H _ I h) fun us s1 ⟨vs, H1, I1, r1, q1⟩ => hc pins s1 σ H1 vs us Q I1 r1 q1) he hpl
end
end L2
namespace HT
open PySem PyProof.Rows
section
open PySem.SeqAt
open PySem.AutoSeq1 (wpAny_loadPart')
open PySem.MeetsSeq PySem.MeetsSeq2 PySem.MeetsSeq3
end
section
variable {prog : Program} {w : World} {A : Around} {E : Value -> Shared -> Prop} {s : Shared}
def sIx (n d : Nat) : Option Int -> Nat
 | none => d
 | some v => if v < 0 then (v + (n : Int)).toNat else min v.toNat n
theorem sIx_none (n d : Nat) : sIx n d none = d := rfl
theorem sIx_nat (n d k : Nat) : sIx n d (some (k : Int)) = min k n := by
 show (if (k : Int) < 0 then ((k : Int) + (n : Int)).toNat else min (k : Int).toNat n) = min k n
 rw [if_neg (by omega), Int.toNat_natCast]
end
end HT
namespace L2
open PySem PySem.Spec PyProof.Rows
abbrev TO := St -> Hp -> (Option Int -> Hp -> Prop) -> Prop
def PO (X : Cx) (e : Option Expr) (t : TO) : Prop :=
 ∀ (pins : List (Addr × Obj)) (s : Shared) (σ : St) (H : Hp) (Q : Option Int -> Hp -> Prop), Inv X pins σ H s -> t σ H Q ->
  wpAny (model X.prog X.w) X.A (evalPart e X.env) (fun u s' => ∃ o H', Inv X pins σ H' s' /\ IsPart u o /\ Q o H') X.xe s
def Yx : TO := fun _ H Q => Q none H
def acr (t : TE) : TO := fun σ H Q => t σ H fun x H1 => ∃ i, x = .int i /\ Q (some i) H1
theorem intsAre_of {ns : List Int} : ∀ {us : List Value}, Vals (ns.map V.int) us -> IntsAre us ns := by
 induction ns with
 | nil => intro us r; rw [List.map_nil] at r; cases r; exact .nil
 | cons n ns ih =>
  intro us r
  rw [List.map_cons] at r
  cases r with
  | cons r1 r2 =>
   obtain ⟨t, e⟩ := r1
   subst e
   exact .cons n t (ih r2)
section
variable {X : Cx} {e : Expr} {te : TE} {lo hi : Option Expr} {tl th : TO} {pos p2 : Pos}
theorem YZ : PO X none Yx := by
 intro pins s σ H Q I h
 rw [evalPart_none]
 exact wpAny_pure ⟨none, H, I, .none, h⟩
theorem Rc (h : PE X e te) : PO X (some e) (acr te) := by
 intro pins s σ H Q I hw
 rw [evalPart_some]
 refine thn (h pins s σ H _ I hw) fun u s1 ⟨x, H1, I1, r1, q1⟩ => ?_
 obtain ⟨i, rfl, q⟩ := q1
 obtain ⟨t, rfl⟩ := r1
 exact ⟨some i, H1, I1, .int i t, q⟩
def SlR (X : Cx) (r : V -> Option Int -> Option Int -> Hp -> VK -> Prop) : Prop :=
 ∀ (pins : List (Addr × Obj)) (s : Shared) (σ : St) (H : Hp) (x : V) (v vl vu : Value) (lo hi : Option Int) (sl : Addr) (Q : VK), Inv X pins σ H s -> RelV x v -> s.heap.IsSliceOf sl vl vu .none -> IsPart vl lo -> IsPart vu hi -> r x lo hi H Q ->
  ∃ T id, typeLookup (.type T) "__getitem__" = pure (some (.builtin id)) /\ s.TypeIs v T /\ wpAny (model X.prog X.w) X.A (getItem v (.ref sl)) (EP X pins σ Q) X.xe s
def tSl (r : V -> Option Int -> Option Int -> Hp -> VK -> Prop) (te : TE) (tl th : TO) : TE := fun σ H Q => te σ H fun x H1 => tl σ H1 fun l H2 => th σ H2 fun u H3 => r x l u H3 Q
theorem QJ {r : V -> Option Int -> Option Int -> Hp -> VK -> Prop} (hr : SlR X r) (he : PE X e te) (hl : PO X lo tl) (hu : PO X hi th) : PE X (.Subscript e (.Slice lo hi none p2) pos) (tSl r te tl th) := by
 intro pins s σ H Q I h
 refine Subscript_ (thn (he pins s σ H _ I h) fun v s1 ⟨x, H1, I1, r1, q1⟩ => ?_)
 refine wpAny_Slice (thn (hl pins s1 σ H1 _ I1 q1) fun vl s2 ⟨l, H2, I2, pl, q2⟩ => thn (hu pins s2 σ H2 _ I2 q2) fun vu s3 ⟨u, H3, I3, pu, q3⟩ => ?_)
 rw [evalPart_none]
 refine wpAny_pure ?_
 have I4 : Inv X pins σ H3 { s3 with heap := s3.heap.push { cls := .type "slice", data := .fields #[vl, vu, .none] } } := I3.kept (t' := s3.toks) fun b ob q => Heap.get?_push_of_some _ q
 obtain ⟨T, id, hT, ht, hg⟩ := hr pins { s3 with heap := s3.heap.push { cls := .type "slice", data := .fields #[vl, vu, .none] } } σ H3 x v vl vu l u s3.heap.objs.size Q I4 r1 (Heap.IsSliceOf.new ..) pl pu q3
 show wpAny (model X.prog X.w) X.A (subscriptTail e (.Slice lo hi none p2) v (.ref s3.heap.objs.size)) (EP X pins σ Q) X.xe { s3 with heap := s3.heap.push { cls := .type "slice", data := .fields #[vl, vu, .none] } }
 exact tail_any (ops := [.ref s3.heap.objs.size, v]) ht hT hg (by with_unfolding_all rfl)
def Xf (xs : List V) (lo hi : Option Int) : List V := (xs.drop (HT.sIx xs.length 0 lo)).take (HT.sIx xs.length xs.length hi - HT.sIx xs.length 0 lo)
theorem UW (xs : List V) (lo hi : Option Int) : (Xf xs lo hi).length <= xs.length := by
 unfold Xf
 rw [List.length_take, List.length_drop]
 omega
end
end L2
namespace L2
open PySem PySem.Spec PyProof.Rows
def ixN (n : Nat) (i : Int) : Option Nat := if 0 <= i then (if i < n then some i.toNat else none) else if -(n : Int) <= i then some (i + n).toNat else none
def atI {α : Type} (xs : List α) (i : Int) : Option α := (ixN xs.length i).bind fun j => xs[j]?
theorem Zm {n : Nat} {i : Int} {j : Nat} (h : ixN n i = some j) : seqIndex? i n = some j /\ j < n /\ -(n : Int) <= i /\ i < n := by
 unfold ixN at h
 by_cases h0 : 0 <= i
 ·rw [if_pos h0] at h
  by_cases h1 : i < n
  ·rw [if_pos h1] at h
   have e : i.toNat = j := Option.some.inj h
   exact ⟨by rw [seqIndex_of h0 h1, e], by omega, by omega, h1⟩
  ·rw [if_neg h1] at h; cases h
 ·rw [if_neg h0] at h
  by_cases h1 : -(n : Int) <= i
  ·rw [if_pos h1] at h
   have e : (i + n).toNat = j := Option.some.inj h
   exact ⟨by rw [seqIndex_neg (by omega) h1, e], by omega, h1, by omega⟩
  ·rw [if_neg h1] at h; cases h
theorem Yd {α : Type} {xs : List α} {i : Int} {v : α} (h : atI xs i = some v) : ∃ j, seqIndex? i xs.length = some j /\ xs[j]? = some v /\ j < xs.length /\ -(xs.length : Int) <= i /\ i < xs.length := by
 unfold atI at h
 cases e : ixN xs.length i with
 | none => rw [e] at h; cases h
 | some j =>
  rw [e] at h
  obtain ⟨h1, h2, h3, h4⟩ := Zm e
  exact ⟨j, h1, h, h2, h3, h4⟩
theorem JG {α : Type} {xs : List α} {j : Nat} {v : α} (h : xs[j]? = some v) : atI xs (j : Int) = some v := by
 have hj : j < xs.length := (List.getElem?_eq_some_iff.mp h).1
 have e : ixN xs.length (j : Int) = some j := by
  unfold ixN
  rw [if_pos (by omega), if_pos (by omega)]; simp
 unfold atI; rw [e]; exact h
def abf (b : Expr) : Prop := ∀ o i, subscripted b false o i = operate [o, i] (getItem o i)
def IxR (X : Cx) (r : R2) : Prop :=
 ∀ (value slice : Expr) (pins : List (Addr × Obj)) (s : Shared) (σ : St) (H : Hp) (x y : V) (v u : Value) (Q : VK), Inv X pins σ H s -> RelV x v -> RelV y u -> r x y H Q ->
  subscripted slice false v u = operate [v, u] (getItem v u) -> wpAny (model X.prog X.w) X.A (subscriptTail value slice v u) (EP X pins σ Q) X.xe s
def MtR (X : Cx) (id : String) (r : V -> List V -> Hp -> VK -> Prop) : Prop :=
 ∀ (pins : List (Addr × Obj)) (s : Shared) (σ : St) (H : Hp) (x : V) (xs : List V) (v : Value) (us : List Value) (Q : VK), Inv X pins σ H s -> RelV x v -> Vals xs us -> r x xs H Q ->
  wpAny (model X.prog X.w) X.A (call (.builtin id) (v :: us)) (EP X pins σ Q) X.xe s
section
variable {X : Cx} {a b : Expr} {ta tb : TE} {pos : Pos}
theorem Ao {r : R2} (hr : IxR X r) (ha : PE X a ta) (hb : PE X b tb) (hs : abf b) : PE X (.Subscript a b pos) (tOp r ta tb) := by
 intro pins s σ H Q I h
 exact Subscript_ (aei ha hb I h fun v u s2 x y H2 I2 rx ry q => hr a b pins s2 σ H2 x y v u Q I2 rx ry q (hs _ _))
def adV (K : Fg_) : R2 := fun x y H Q => ∃ p xs i v, x = .ref p /\ y = .int i /\ SqL K H p xs /\ atI xs i = some v /\ Q v H
def adB (K : Fg_) : R2 := fun x y H Q => ∃ p xs i v, x = .ref p /\ y = .int i /\ SqT K H p xs /\ atI xs i = some v /\ Q v H
theorem abm : IxR X (adV X.K) := by
 intro value slice pins s σ H x y v u Q I rx ry h hs
 obtain ⟨p, xs, i, z, rfl, rfl, hq, he, q⟩ := h
 cases rx
 obtain ⟨t, rfl⟩ := ry
 obtain ⟨its, r, pl, hz⟩ := I.list hq
 obtain ⟨j, h1, h2, h3, h4, h5⟩ := Yd he
 obtain ⟨w, ew, rw'⟩ := r.get h2
 have hl := r.length
 have hn := Ti
 have fin : EP X pins σ Q w s := ⟨z, H, I, rw', q⟩
 by_cases h0 : 0 <= i
 ·have hj : i.toNat = j := by
   rw [seqIndex_of h0 h5] at h1
   exact Option.some.inj h1
  exact item_listR pl.isList h0 (by omega) (by rw [hj]; simpa using ew) fin hs
 ·have hj : (i + (its.toArray.size : Int)).toNat = j := by
   rw [seqIndex_neg (by omega) h4] at h1
   rw [List.size_toArray, <- hl]
   exact Option.some.inj h1
  exact subscriptTail_builtinR (x := w) pl.isList.typeIs slot_list_getitem.lookup
   (wpAny_getItem_list_neg (Q := fun r s' => r = w /\ EP X pins σ Q r s') pl.isList (by omega) (by rw [List.size_toArray] <;> omega) (by omega) (by rw [hj]; simpa using ew) ⟨rfl, fin⟩) hs
theorem acy : IxR X (adB X.K) := by
 intro value slice pins s σ H x y v u Q I rx ry h hs
 obtain ⟨p, xs, i, z, rfl, rfl, hq, he, q⟩ := h
 cases rx
 obtain ⟨t, rfl⟩ := ry
 obtain ⟨its, r, pl, hz⟩ := I.tuple hq
 obtain ⟨j, h1, h2, h3, h4, h5⟩ := Yd he
 obtain ⟨w, ew, rw'⟩ := r.get h2
 have hl := r.length
 have hn := Ti
 have fin : EP X pins σ Q w s := ⟨z, H, I, rw', q⟩
 exact subscriptTail_builtinR (x := w) pl.typeIs slot_tuple_getitem.lookup
  (getItem_tuple (j := j) (Q := fun r s' => r = w /\ EP X pins σ Q r s') pl (by omega) (by omega) (by rw [List.size_toArray, <- hl]; exact h1) (by simpa using ew) ⟨rfl, fin⟩) hs
theorem Wx (its : List Value) (n j : Nat) (u : Value) : Obj.mapSeq (·.setIfInBounds j u) { cls := .type "list", data := .seq its.toArray n } = { cls := .type "list", data := .seq (its.set j u).toArray n } := by
 simp [Obj.mapSeq]
theorem Inv.lst {pins : List (Addr × Obj)} {σ : St} {H : Hp} {s : Shared} {p : Addr} {xs : List V} (I : Inv X pins σ H s) (h : H p = some (.lst xs)) :
  ∃ (its : List Value) (n : Nat), Vals xs its /\ s.heap.get? p = some { cls := .type "list", data := .seq its.toArray n } /\ xs.length <= sizeLine := by
 obtain ⟨z, its, n, r, e⟩ := I.hok p _ h
 exact ⟨its, n, r, e, z⟩
theorem Inv.lstUpd {pins : List (Addr × Obj)} {σ : St} {H : Hp} {s : Shared} {p : Addr} {xs ys : List V} {its its' : List Value} {n n' : Nat} {f : Obj -> Obj} (I : Inv X pins σ H s) (h : H p = some (.lst xs))
  (ho : s.heap.get? p = some { cls := .type "list", data := .seq its.toArray n }) (hf : f { cls := .type "list", data := .seq its.toArray n } = { cls := .type "list", data := .seq its'.toArray n' }) (r : Vals ys its') (hz : ys.length <= sizeLine) (t : Nat) :
  Inv X pins σ (upd H p (.lst ys)) { s with heap := s.heap.update p f, toks := t } := by
 have e : (s.heap.update p f).get? p = some { cls := .type "list", data := .seq its'.toArray n' } := by
  rw [Heap.get?_update_self f ho (by rw [hf] <;> rfl), hf]
 refine I.write (x := p) (e := p) (by rw [h]; trivial) (.inl rfl) (fun b u hb q => (Heap.get?_update_other _ _ (Ne.symm hb)).trans q) ⟨_, e⟩ ?_
 exact ⟨hz, its', n', r, e⟩
def aeb : V -> V -> V -> Hp -> (Hp -> Prop) -> Prop := fun o i v H Q => ∃ p xs k j, o = .ref p /\ i = .int k /\ H p = some (.lst xs) /\ ixN xs.length k = some j /\ Q (upd H p (.lst (xs.set j v)))
theorem set_list : aeA X aeb := by
 intro pins s σ H o i v ov iv u Q I ro ri rv h
 obtain ⟨p, xs, k, j, rfl, rfl, hp, hj, q⟩ := h
 cases ro
 obtain ⟨t, rfl⟩ := ri
 obtain ⟨its, n, r, ho, hz⟩ := I.lst hp
 obtain ⟨h1, h2, h3, h4⟩ := Zm hj
 have hl := r.length
 have hn := Ti
 have I' : Inv X pins σ (upd H p (.lst (xs.set j v))) { s with heap := s.heap.update p (Obj.mapSeq (·.setIfInBounds j u)) } :=
  I.lstUpd hp ho (Wx its n j u) (r.set rv j) (by rw [List.length_set]; exact hz) s.toks
 by_cases h0 : 0 <= k
 ·have hk : k.toNat = j := by
   rw [seqIndex_of h0 h4] at h1
   exact Option.some.inj h1
  exact PySem.W.ki_setAt ho h0 (by omega) (by rw [List.size_toArray, <- hl]; exact h4) (by rw [hk]; exact ⟨_, I', q⟩)
 ·have hk : (k + (its.toArray.size : Int)).toNat = j := by
   rw [seqIndex_neg (by omega) h3] at h1
   rw [List.size_toArray, <- hl]
   exact Option.some.inj h1
  exact PySem.W.ki_setBack ho (by omega) (by rw [List.size_toArray, <- hl]; exact h3) (by omega) (by rw [hk]; exact ⟨_, I', q⟩)
theorem RJ (lo hi : Option Int) (n : Nat) : (sliceBounds lo hi none n).1 = ((HT.sIx n 0 lo : Nat) : Int) /\ (sliceBounds lo hi none n).2.1 = ((HT.sIx n n hi : Nat) : Int) /\ (sliceBounds lo hi none n).2.2 = 1 := by
 refine ⟨?_, ?_, rfl⟩
 ·cases lo with
  | none => simp [sliceBounds, HT.sIx]
  | some i =>
   simp only [sliceBounds, HT.sIx, Option.getD_none, show (1 : Int) > 0 by decide, if_true]
   by_cases h : i < 0
   ·simp only [h, if_true] <;> omega
   ·simp only [h, if_false] <;> omega
 ·cases hi with
  | none => simp [sliceBounds, HT.sIx]
  | some i =>
   simp only [sliceBounds, HT.sIx, Option.getD_none, show (1 : Int) > 0 by decide, if_true]
   by_cases h : i < 0
   ·simp only [h, if_true] <;> omega
   ·simp only [h, if_false] <;> omega
theorem Ru (its : List Value) (lo hi : Option Int) : slicePick its.toArray lo hi none = ((its.drop (HT.sIx its.length 0 lo)).take (HT.sIx its.length its.length hi - HT.sIx its.length 0 lo)).toArray := by
 obtain ⟨h1, h2, h3⟩ := RJ lo hi its.toArray.size
 unfold slicePick
 rw [h1, h2, h3]
 simp only [sliceRange_one, pick_run, List.size_toArray] <;> rfl
def adX (K : Fg_) : V -> Option Int -> Option Int -> Hp -> VK -> Prop := fun x lo hi H Q => ∃ a xs, x = .ref a /\ SqL K H a xs /\ ∀ p, H p = none -> Q (.ref p) (upd H p (.lst (Xf xs lo hi)))
theorem abP : SlR X (adX X.K) := by
 intro pins s σ H x v vl vu lo hi sl Q I rx hs pl pu h
 obtain ⟨a, xs, rfl, hx, q⟩ := h
 cases rx
 obtain ⟨its, r, ht, hz⟩ := I.list hx
 have hlen := r.length
 refine ⟨"list", _, slot_list_getitem.lookup, ht.isList.typeIs, ?_⟩
 refine wpAny_getItem_list_slice ht.isList hs pl pu .none (by simp) ?_ (by rw [List.size_toArray] <;> omega)
 rw [Ru, <- hlen]
 refine ⟨.ref s.heap.objs.size, _, I.laid (t' := s.toks) (o := .lst (Xf xs lo hi)) (fun b ob q => Heap.get?_push_of_some _ q) (Nat.le_refl _) ?_, rfl, q _ (I.hok.fresh (Nat.le_refl _))⟩
 exact ⟨Nat.le_trans (UW xs lo hi) hz, _, 0, (r.drop (HT.sIx xs.length 0 lo)).take (HT.sIx xs.length xs.length hi - HT.sIx xs.length 0 lo), Heap.get?_push_size _ rfl⟩
def Qd : V -> Bool
 | .non => true
 | .bl _ => true
 | .int _ => true
 | .str _ => true
 | _ => false
def eqV : V -> V -> Bool
 | .non, .non => true
 | .bl a, .bl b => a == b
 | .bl a, .int b => (if a then 1 else 0) == b
 | .int a, .bl b => a == (if b then 1 else 0)
 | .int a, .int b => a == b
 | .str a, .str b => a == b
 | _, _ => false
theorem acT {A : Around} {s : Shared} {y x : V} {u v : Value} (ry : RelV y u) (rx : RelV x v) (fy : Qd y = true) (fx : Qd x = true) : SeqAt.EqAt A s u v (eqV y x) := by
 cases y with
 | non =>
  cases ry
  cases x with
  | non => cases rx; exact SeqAt.EqAt.same _
  | bl b => cases rx; exact SeqAt.EqAt.none_bool b
  | int b => obtain ⟨t, rfl⟩ := rx; exact SeqAt.EqAt.none_int b t
  | str b => obtain ⟨t, rfl⟩ := rx; exact SeqAt.EqAt.none_str b t
  | _ => exact absurd (show false = true from fx) Bool.false_ne_true
 | bl a =>
  cases ry
  cases x with
  | non => cases rx; exact SeqAt.EqAt.bool_none a
  | bl b => cases rx; exact SeqAt.EqAt.bool_bool a b
  | int b => obtain ⟨t, rfl⟩ := rx; exact SeqAt.EqAt.bool_int a b t
  | str b => obtain ⟨t, rfl⟩ := rx; exact SeqAt.EqAt.bool_str a b t
  | _ => exact absurd (show false = true from fx) Bool.false_ne_true
 | int a =>
  obtain ⟨t', rfl⟩ := ry
  cases x with
  | non => cases rx; exact SeqAt.EqAt.int_none a t'
  | bl b => cases rx; exact SeqAt.EqAt.int_bool a t' b
  | int b => obtain ⟨t, rfl⟩ := rx; exact SeqAt.EqAt.int_int a t' b t
  | str b => obtain ⟨t, rfl⟩ := rx; exact SeqAt.EqAt.int_str a t' b t
  | _ => exact absurd (show false = true from fx) Bool.false_ne_true
 | str a =>
  obtain ⟨t', rfl⟩ := ry
  cases x with
  | non => cases rx; exact SeqAt.EqAt.str_none a t'
  | bl b => cases rx; exact SeqAt.EqAt.str_bool a t' b
  | int b => obtain ⟨t, rfl⟩ := rx; exact SeqAt.EqAt.str_int a t' b t
  | str b => obtain ⟨t, rfl⟩ := rx; exact SeqAt.EqAt.str_str a t' b t
  | _ => exact absurd (show false = true from fx) Bool.false_ne_true
 | _ => exact absurd (show false = true from fy) Bool.false_ne_true
def eqU (x : V) (u : Value) : Bool := match u with
 | .none => eqV .non x
 | .bool b => eqV (.bl b) x
 | .int i _ => eqV (.int i) x
 | .str z _ => eqV (.str z) x
 | _ => false
theorem aaL {x y : V} {u : Value} (r : RelV y u) (f : Qd y = true) : eqU x u = eqV y x := by
 cases y with
 | non => cases r; rfl
 | bl b => cases r; rfl
 | int i => obtain ⟨t, rfl⟩ := r; rfl
 | str z => obtain ⟨t, rfl⟩ := r; rfl
 | _ => exact absurd (show false = true from f) Bool.false_ne_true
theorem Uv {x : V} : ∀ {xs : List V} {us : List Value}, Vals xs us -> xs.all Qd = true -> us.any (eqU x) = xs.any fun y => eqV y x
 | _, _, .nil, _ => rfl
 | y :: xs, u :: us, .cons r t, f => by
  rw [List.all_cons, Bool.and_eq_true] at f
  rw [List.any_cons, List.any_cons, aaL r f.1, Uv t f.2]
theorem Rv {A : Around} {s : Shared} {x : V} {v : Value} (rx : RelV x v) (fx : Qd x = true) : ∀ {xs : List V} {us : List Value}, Vals xs us -> xs.all Qd = true -> ∀ u ∈ us, SeqAt.EqAt A s u v (eqU x u)
 | _, _, .nil, _ => fun u hu => by cases hu
 | y :: xs, u :: us, .cons r t, f => fun u' hu => by
  rw [List.all_cons, Bool.and_eq_true] at f
  rcases List.mem_cons.mp hu with rfl | hu
  ·rw [aaL r f.1]; exact acT r rx f.1 fx
  ·exact Rv rx fx t f.2 u' hu
def inV (x : V) (xs : List V) : Bool := xs.any fun y => eqV y x
def rIn (K : Fg_) (neg : Bool) : R2 := fun x y H Q => ∃ p xs, y = .ref p /\ (SqL K H p xs \/ SqT K H p xs) /\ Qd x = true /\ xs.all Qd = true /\ Q (.bl (if neg then !inV x xs else inV x xs)) H
theorem Xo : OpR X (compareOp .In) (rIn X.K false) := by
 intro pins s σ H x y v u Q I rx ry h
 obtain ⟨p, xs, rfl, hq, fx, fs, q⟩ := h
 cases ry
 rcases hq with hq | hq
 ·obtain ⟨its, r, pl, hz⟩ := I.list hq
  refine SeqAt.in_listAt (eqU x) pl.isList (fun w hw => Rv rx fx r fs w (by simpa using hw)) ⟨.bl _, H, I, rfl, ?_⟩
  rw [show its.toArray.any (eqU x) = its.any (eqU x) by simp, Uv r fs]
  exact q
 ·obtain ⟨its, r, pl, hz⟩ := I.tuple hq
  refine SeqAt.in_tupleAt (eqU x) pl (fun w hw => Rv rx fx r fs w (by simpa using hw)) ⟨.bl _, H, I, rfl, ?_⟩
  rw [show its.toArray.any (eqU x) = its.any (eqU x) by simp, Uv r fs]
  exact q
theorem Tc : DQ X (.builtin "len") (fun xs H Q => ∃ p ys, xs = [.ref p] /\ (SqL X.K H p ys \/ SqT X.K H p ys) /\ Q (.int ys.length) H) := by
 intro pins s σ H xs us Q I r h
 obtain ⟨p, ys, rfl, hq, q⟩ := h
 obtain ⟨u, rfl, rx⟩ := vals1 r
 cases rx
 have hn := Ti
 rcases hq with hq | hq
 ·obtain ⟨its, r', pl, hz⟩ := I.list hq
  have hlen := r'.length
  exact Calls.call_len_list pl.isList (by simp only [List.size_toArray] <;> omega) ⟨.int ys.length, H, I.tok _, ⟨s.toks + 1, by rw [List.size_toArray, hlen]⟩, q⟩
 ·obtain ⟨its, r', pl, hz⟩ := I.tuple hq
  have hlen := r'.length
  exact len_tuple pl (by simp only [List.size_toArray] <;> omega) ⟨.int ys.length, H, I.tok _, ⟨s.toks + 1, by rw [List.size_toArray, hlen]⟩, q⟩
theorem Mf : DQ X (.builtin "len") (fun xs H Q => ∃ z, xs = [.str z] /\ z.length <= sizeLine /\ Q (.int z.length) H) := by
 intro pins s σ H xs us Q I r h
 obtain ⟨z, rfl, hz, q⟩ := h
 obtain ⟨u, rfl, t, rfl⟩ := vals1 r
 have hn := Ti
 exact len_str (by omega) ⟨.int z.length, H, I.tok _, ⟨_, rfl⟩, q⟩
theorem SN : DQ X (.type "list") (fun xs H Q => ∃ p ys, xs = [.ref p] /\ (SqL X.K H p ys \/ SqT X.K H p ys) /\ ∀ l, H l = none -> Q (.ref l) (upd H l (.lst ys))) := by
 intro pins s σ H xs us Q I r h
 obtain ⟨p, ys, rfl, hq, q⟩ := h
 obtain ⟨u, rfl, rx⟩ := vals1 r
 cases rx
 have fin : ∀ (its : List Value), Vals ys its -> ys.length <= sizeLine -> ∀ (h' : Heap) (c' : Nat), (∀ b o', s.heap.get? b = some o' -> h'.get? b = some o') ->
   h'.get? s.heap.objs.size = some { cls := .type "list", dict := none, data := .seq its.toArray c', slots := #[] } -> EP X pins σ Q (.ref s.heap.objs.size) { s with heap := h' } := fun its r' hz h' c' kp e =>
  ⟨.ref s.heap.objs.size, _, I.laid (t' := s.toks) kp (Nat.le_refl _) (show ObjOk X.prog X.w _ h' _ (.lst ys) from ⟨hz, its, c', r', e⟩), rfl, q _ (I.hok.fresh (Nat.le_refl _))⟩
 rcases hq with hq | hq
 ·obtain ⟨its, r', pl, hz⟩ := I.list hq
  have hlen := r'.length
  obtain ⟨o, ho, hc, n, hd⟩ := pl.isList
  exact call_list_seq p (.inl rfl) ho hc hd (fun h' c' kp e => fin its r' hz h' c' kp e) (by simp only [List.size_toArray] <;> omega)
 ·obtain ⟨its, r', pl, hz⟩ := I.tuple hq
  have hlen := r'.length
  obtain ⟨o, ho, hc, n, hd⟩ := pl
  exact call_list_seq p (.inr rfl) ho hc hd (fun h' c' kp e => fin its r' hz h' c' kp e) (by simp only [List.size_toArray] <;> omega)
theorem RB : DQ X (.type "tuple") (fun xs H Q => ∃ p ys, xs = [.ref p] /\ ((SqL X.K H p ys /\ ∀ l, H l = none -> Q (.ref l) (upd H l (.tup ys))) \/ (SqT X.K H p ys /\ Q (.ref p) H))) := by
 intro pins s σ H xs us Q I r h
 obtain ⟨p, ys, rfl, h⟩ := h
 obtain ⟨u, rfl, rx⟩ := vals1 r
 cases rx
 rcases h with ⟨hq, q⟩ | ⟨hq, q⟩
 ·obtain ⟨its, r', pl, hz⟩ := I.list hq
  have hlen := r'.length
  refine call_tuple_list pl.isList (fun h' kp => ?_) (by simp only [List.size_toArray] <;> omega)
  have I1 : Inv X pins σ H { s with heap := h' } := I.kept (t' := s.toks) kp
  have I2 : Inv X pins σ (upd H h'.objs.size (.tup ys)) { s with heap := h'.push { cls := .type "tuple", data := .seq its.toArray } } :=
   I1.laid (t' := s.toks) (fun b o e => Heap.get?_push_of_some _ e) (Nat.le_refl _) (show ObjOk X.prog X.w _ _ _ (.tup ys) from ⟨hz, its, r', IsTup.new _ _⟩)
  exact ⟨.ref h'.objs.size, _, I2, rfl, q _ (I1.hok.fresh (Nat.le_refl _))⟩
 ·obtain ⟨its, r', pl, hz⟩ := I.tuple hq
  exact call_tuple_same pl ⟨.ref p, H, I, rfl, q⟩
def tyV (K : Fg_) (T : String) (x : V) (H : Hp) : Prop := match x with
 | .str _ => T = "str"
 | .int _ => T = "int"
 | .ref p => (T = "list" /\ ∃ xs, SqL K H p xs) \/ (T = "tuple" /\ ∃ o, K.lookup p = some o /\ o.cls = .type "tuple" /\ o.dict = none) \/
   (T = "dict" /\ ((∃ kvs, H p = some (.dK kvs)) \/ ∃ kvs, H p = some (.dT kvs))) \/ (T = "set" /\ ∃ S n, H p = some (.set S n))
 | _ => False
theorem aaO {pins : List (Addr × Obj)} {σ : St} {H : Hp} {s : Shared} {T : String} {x : V} {v : Value} (I : Inv X pins σ H s) (r : RelV x v) (ty : tyV X.K T x H) :
  s.TypeIs v T /\ ∀ a, v = .ref a -> ∃ ob, s.heap.get? a = some ob /\ ob.dict = none := by
 cases x with
 | str z =>
  obtain ⟨t, rfl⟩ := r
  cases (show T = "str" from ty)
  exact ⟨typeIs_str s z t, fun _ e => nomatch e⟩
 | int i =>
  obtain ⟨t, rfl⟩ := r
  cases (show T = "int" from ty)
  exact ⟨typeIs_int s i t, fun _ e => nomatch e⟩
 | ref p =>
  cases r
  rcases ty with ⟨rfl, xs, hq⟩ | ⟨rfl, o, hk, hc, hd⟩ | ⟨rfl, hk⟩ | ⟨rfl, S, n, hk⟩
  ·obtain ⟨its, _, pl, _⟩ := I.list hq
   refine ⟨pl.isList.typeIs, fun a e => ?_⟩
   cases e
   obtain ⟨o, n, e, c, hd, _⟩ := pl
   exact ⟨o, e, hd⟩
  ·refine ⟨⟨o, I.kIn p o hk, hc⟩, fun a e => ?_⟩
   cases e
   exact ⟨o, I.kIn _ o hk, hd⟩
  ·have z : ∃ o, s.heap.get? p = some o /\ o.ExactDict := by
    rcases hk with ⟨kvs, hk⟩ | ⟨kvs, hk⟩
    ·obtain ⟨_, _, _, _, o, _, _, e, ex, _⟩ := I.hok p _ hk
     exact ⟨o, e, ex⟩
    ·obtain ⟨_, _, _, _, o, _, _, e, ex, _⟩ := I.hok p _ hk
     exact ⟨o, e, ex⟩
   obtain ⟨o, e, ex⟩ := z
   refine ⟨⟨o, e, ex.1⟩, fun a e2 => ?_⟩
   cases e2
   exact ⟨o, e, ex.2.1⟩
  ·obtain ⟨o, _, _, _, e, ex, _⟩ := I.hok p _ hk
   refine ⟨⟨o, e, ex.1⟩, fun a e2 => ?_⟩
   cases e2
   exact ⟨o, e, ex.2.1⟩
 | _ => exact False.elim ty
def aea (K : Fg_) (T : String) (r : V -> List V -> Hp -> VK -> Prop) (to : TE) : TE := fun σ H Q => to σ H fun x H1 => tyV K T x H1 /\ r x [] H1 Q
def tBM (K : Fg_) (T : String) (r : V -> List V -> Hp -> VK -> Prop) (to : TE) (t : TA) : TE := fun σ H Q => to σ H fun x H1 => tyV K T x H1 /\ t σ H1 fun xs H2 => r x xs H2 Q
variable {o e : Expr} {es : List Expr} {to : TE} {t : TA} {name : Str} {apos cpos : Pos} {T id : String} {r : V -> List V -> Hp -> VK -> Prop}
theorem acn (pa : PlainAttrs T) (slot : Slot T name id) (hty : typeOf (.builtin id) = pure (.type "method_descriptor")) (hm : MtR X id r) (ho : PE X o to)
  (hbase : attributeBase o name X.env (eval o X.env) = eval o X.env := by rfl) (hline : (apos.endLine == cpos.line) = true := by rfl) : PE X (.Call (.Attribute o name apos) [] [] cpos) (aea X.K T r to) := by
 intro pins s σ H Q I h
 refine wpAny_Call_method0_late hbase hline (thn (ho pins s σ H _ I h) fun v s1 ⟨x, H1, I1, r1, ty, q1⟩ => ?_)
 obtain ⟨h1, h2⟩ := aaO I1 r1 ty
 exact ⟨T, id, pa, slot, hty, h1, h2, Calls.callWith_builtin rfl (PySem.evalArgs_none (hm pins s1 σ H1 x [] v [] Q I1 r1 .nil q1))⟩
theorem aed (pa : PlainAttrs T) (slot : Slot T name id) (hty : typeOf (.builtin id) = pure (.type "method_descriptor")) (hm : MtR X id r) (ho : PE X o to) (ha : PA X (e :: es) t)
  (hbase : attributeBase o name X.env (eval o X.env) = eval o X.env := by rfl)
  (hfew : ((backTo cpos (starEach (e :: es) X.env)).all (fun x => !x.1) && (backToKw cpos (keywordEach [] X.env)).all (fun x => x.1.isSome)
   && decide ((e :: es).length + ([] : List Keyword).length + (if ([] : List Keyword).isEmpty then 0 else 1) < 30)) = true := by rfl)
  (hline : (apos.endLine == cpos.line) = true := by rfl) (hs : starEach (e :: es) X.env = (false, eval e X.env) :: starEach es X.env := by rfl) (hplain : (backTo cpos (starEach es X.env)).any (·.1) = false := by rfl) :
  PE X (.Call (.Attribute o name apos) (e :: es) [] cpos) (tBM X.K T r to t) := by
 intro pins s σ H Q I h
 refine wpAny_Call_method_late hbase hfew hline rfl (thn (ho pins s σ H _ I h) fun v s1 ⟨x, H1, I1, r1, ty, q1⟩ => ?_)
 obtain ⟨h1, h2⟩ := aaO I1 r1 ty
 refine ⟨T, id, pa, slot, hty, h1, h2, ?_⟩
 have hA := ha cpos pins s1 σ H1 _ I1 q1
 rw [hs] at hA ⊢
 refine Calls.callWith_builtin (by show (false || (backTo cpos (starEach es X.env)).any (·.1)) = false; rw [hplain] <;> rfl) (Calls.evalArgs_plain ?_)
 exact thn hA fun us s2 ⟨vs, H2, I2, r2, q2⟩ => hm pins s2 σ H2 x vs v us Q I2 r1 r2 q2
end
end L2
namespace L2
open PySem PySem.Spec PyProof.Rows
def MtM (X : Cx) (id : String) (r : V -> List V -> Hp -> VK -> Prop) : Prop :=
 ∀ (pins : List (Addr × Obj)) (s : Shared) (σ : St) (H : Hp) (x : V) (xs : List V) (v : Value) (us : List Value) (Q : VK), Inv X pins σ H s -> RelV x v -> Vals xs us -> r x xs H Q ->
  wpAny (model X.prog X.w) X.A (call (.builtin id) (v :: us)) (EP X pins σ Q) X.xe s
theorem Vals.one : ∀ {x : V} {us : List Value}, Vals [x] us -> ∃ u, us = [u] /\ RelV x u
 | _, _, .cons r .nil => ⟨_, rfl, r⟩
theorem Vals.two : ∀ {x y : V} {us : List Value}, Vals [x, y] us -> ∃ u v, us = [u, v] /\ RelV x u /\ RelV y v
 | _, _, _, .cons r (.cons q .nil) => ⟨_, _, rfl, r, q⟩
theorem Vals.zero : ∀ {us : List Value}, Vals [] us -> us = []
 | _, .nil => rfl
theorem Vals.eraseIdx : ∀ {xs : List V} {us : List Value} (i : Nat), Vals xs us -> Vals (xs.eraseIdx i) (us.eraseIdx i)
 | _, _, _, .nil => .nil
 | _, _, 0, .cons _ t => t
 | _, _, i + 1, .cons r t => .cons r (Vals.eraseIdx i t)
theorem Tr {α : Type} : ∀ (l : List α) (i : Nat), (l.eraseIdx i).length <= l.length
 | [], _ => Nat.le_refl _
 | _ :: _, 0 => Nat.le_succ _
 | _ :: r, i + 1 => Nat.succ_le_succ (Tr r i)
section
variable {X : Cx} {pins : List (Addr × Obj)} {σ : St} {H : Hp} {s : Shared} {l b : Addr} {xs ys zs : List V}
theorem Inv.lset {its its' : List Value} {n : Nat} {f : Array Value -> Array Value} {t' : Nat} (I : Inv X pins σ H s) (hH : H l = some (.lst xs))
  (e : s.heap.get? l = some { cls := .type "list", data := .seq its.toArray n }) (hf : f its.toArray = its'.toArray) (hv : Vals ys its') (hz : ys.length <= sizeLine) :
  Inv X pins σ (upd H l (.lst ys)) { s with heap := s.heap.update l (Obj.mapSeq f), toks := t' } := by
 have q := PySem.IsL.update e f
 rw [hf] at q
 refine I.write (x := l) (e := l) (by rw [hH]; exact trivial) (.inl rfl) (fun b' u hb hu => (Heap.get?_update_other s.heap (Obj.mapSeq f) (Ne.symm hb)).trans hu) ⟨_, q⟩ ?_
 exact ⟨hz, its', _, hv, q⟩
theorem Inv.lnew {its : List Value} {t' : Nat} (I : Inv X pins σ H s) (hv : Vals ys its) (hz : ys.length <= sizeLine) :
  Inv X pins σ (upd H s.heap.objs.size (.lst ys)) { s with heap := s.heap.push { cls := .type "list", data := .seq its.toArray }, toks := t' } :=
 I.laid (fun _ _ q => Heap.get?_push_of_some _ q) (Nat.le_refl _) ⟨hz, its, 0, hv, Heap.get?_push_size _ rfl⟩
theorem Inv.fresh (I : Inv X pins σ H s) : H s.heap.objs.size = none := I.hok.fresh (Nat.le_refl _)
theorem Inv.lstM (I : Inv X pins σ H s) (hH : H l = some (.lst xs)) : xs.length <= sizeLine /\ ∃ (its : List Value) (n : Nat), Vals xs its /\ xs.length = its.length /\ s.heap.get? l = some { cls := .type "list", data := .seq its.toArray n } := by
 obtain ⟨z, its, n, r, e⟩ := I.hok l _ hH
 exact ⟨z, its, n, r, r.length, e⟩
end
section
variable {X : Cx}
def Ry : V -> List V -> Hp -> VK -> Prop := fun x vs H Q => ∃ l xs y, x = .ref l /\ vs = [y] /\ H l = some (.lst xs) /\ xs.length < sizeLine /\ Q .non (upd H l (.lst (xs ++ [y])))
theorem Ja : MtM X "list.append" Ry := by
 intro pins s σ H x vs v us Q I rx rv h
 obtain ⟨l, xs, y, rfl, rfl, hH, hz, q⟩ := h
 cases rx
 obtain ⟨u, rfl, ru⟩ := rv.one
 obtain ⟨z, its, n, r, hl, e⟩ := I.lstM hH
 refine call_meets F.slot_list_append ⟨_, e, rfl⟩ F.entry_list_append (F.args_list_append_2 _ _) (PySem.list_append l its.toArray n u (by rw [List.size_toArray]; omega)) ⟨e, ?_⟩
 refine ⟨.non, _, I.lset (its' := its ++ [u]) hH e (by simp) (r.append (.cons ru .nil)) ?_, rfl, q⟩
 rw [List.length_append, List.length_singleton]
 omega
def ado : V -> List V -> Hp -> VK -> Prop := fun x vs H Q => ∃ l xs i k y, x = .ref l /\ vs = [.int i] /\ H l = some (.lst xs) /\ -(2 ^ 63) <= i /\ i < 2 ^ 63 /\ seqIndex? i xs.length = some k /\ xs[k]? = some y /\ Q y (upd H l (.lst (xs.eraseIdx k)))
theorem ZX : MtM X "list.pop" ado := by
 intro pins s σ H x vs v us Q I rx rv h
 obtain ⟨l, xs, i, k, y, rfl, rfl, hH, h1, h2, hk, hy, q⟩ := h
 cases rx
 obtain ⟨u, rfl, ru⟩ := rv.one
 obtain ⟨t, rfl⟩ := ru
 obtain ⟨z, its, n, r, hl, e⟩ := I.lstM hH
 obtain ⟨w, hw, rw'⟩ := r.get hy
 refine call_meets F.slot_list_pop ⟨_, e, rfl⟩ F.entry_list_pop (F.args_list_pop_2 _ _)
  (MeetsSeq.list_pop_at l its.toArray n i t k w (fitsIndex_both h1 h2) (by rw [List.size_toArray, <- hl]; exact hk) (by rw [<- Array.getElem?_toList]; exact hw) (by rw [List.size_toArray]; omega)) ⟨e, ?_⟩
 refine ⟨y, _, I.lset (its' := its.eraseIdx k) hH e ?_ (r.eraseIdx k) ?_, rw', q⟩
 ·show its.toArray.eraseIdxIfInBounds k = (its.eraseIdx k).toArray
  rw [List.eraseIdxIfInBounds_toArray]
 ·have := Tr xs k
  omega
def acs : V -> List V -> Hp -> VK -> Prop := fun x vs H Q => ∃ l xs, x = .ref l /\ vs = [] /\ H l = some (.lst xs) /\ Q .non (upd H l (.lst []))
theorem aas : MtM X "list.clear" acs := by
 intro pins s σ H x vs v us Q I rx rv h
 obtain ⟨l, xs, rfl, rfl, hH, q⟩ := h
 cases rx
 have hus := rv.zero
 subst hus
 obtain ⟨z, its, n, r, hl, e⟩ := I.lstM hH
 refine call_meets F.slot_list_clear ⟨_, e, rfl⟩ F.entry_list_clear (F.args_list_clear_1 _) (AutoSeq1.list_clear_list_0 l its.toArray n (by rw [List.size_toArray]; omega)) ⟨e, ?_⟩
 exact ⟨.non, _, I.lset (its' := []) (ys := []) hH e rfl .nil (Nat.zero_le _), rfl, q⟩
def aef : R2 := fun x y H Q => ∃ l b xs zs, x = .ref l /\ y = .ref b /\ H l = some (.lst xs) /\ H b = some (.lst zs) /\ xs.length + zs.length <= sizeLine /\ ∀ p, H p = none -> Q (.ref p) (upd H p (.lst (xs ++ zs)))
theorem Yu : OpR X (binaryOp .Add) aef := by
 intro pins s σ H x y v u Q I rx ry h
 obtain ⟨l, b, xs, zs, rfl, rfl, hH, hB, hz, q⟩ := h
 cases rx
 cases ry
 obtain ⟨z, its, n, r, hl, e⟩ := I.lstM hH
 obtain ⟨z2, its2, n2, r2, hl2, e2⟩ := I.lstM hB
 refine PySem.P.add_list e e2 ?_ (by rw [List.size_toArray, List.size_toArray]; omega)
 have ea : its.toArray ++ its2.toArray = (its ++ its2).toArray := by simp
 rw [ea]
 exact ⟨.ref _, _, I.lnew (t' := s.toks) (r.append r2) (by rw [List.length_append]; omega), rfl, q _ I.fresh⟩
end
section
variable {prog : Program} {w : World} {A : Around} {E : Value -> Shared -> Prop} {s : Shared}
set_option maxRecDepth 100000 in
end
end L2
namespace Att
open PySem PySem.W PySem.Calls PyProof.Rows
theorem Pu {P : Params} {h : Heap} : ∀ (ns : List Int) (vs : List Value), WellAll P h vs (ns.map WData.int) -> IntsAre vs ns := by
 intro ns
 induction ns with
 | nil =>
  intro vs w
  rw [List.map_nil] at w
  cases w
  exact .nil
 | cons n ns ih =>
  intro vs w
  rw [List.map_cons] at w
  cases w with
  | cons a b =>
   cases a
   exact .cons _ _ (ih _ b)
theorem Zi {l : OpenLaw} {n : Nat} (hn : l.most = some n) {P : Params} {h : Heap} {args : List WData} {vals : List Value}
  (hpre : l.row.toRowW.claim.pre args = true) (hwl : WellAll P h vals args) :
  ∃ a vs ns, vals = [Value.ref a] /\ args = [WData.list (ns.map WData.int)] /\ h.get? a = some { cls := .type "list", data := .seq vs.toArray } /\ IntsAre vs ns /\ ns.length <= n := by
 have hsh : WShape.hasAll [] args [.list .int] = true := (pre_splitW hpre).1
 have hc : l.pre.holds [] { args := args } = true := (pre_splitW hpre).2
 obtain ⟨d, r, rfl, h1, h2⟩ := hasAllW_cons hsh
 obtain rfl := hasAllW_nil h2
 obtain ⟨xs, rfl, h3⟩ := hasW_list h1
 obtain ⟨ns, rfl⟩ := items_int h3
 have hlen : ns.length <= n := by
  unfold OpenLaw.pre at hc
  have h4 : (WTm.not (.lt (.lit (.int (n : Int))) (.len (.arg 0)))).holds [] { args := [.list (ns.map .int)] } = true := by
   have h4 := (holds_andW hc).1
   rw [hn] at h4
   exact h4
  have h5 := condW_of h4 (w_not (w_lt w_lit (w_len_list (w_arg rfl))))
  rw [List.length_map] at h5
  refine Nat.le_of_not_lt fun q => ?_
  have q' : (n : Int) < ((ns.length : Nat) : Int) := by omega
  first
   | (rw [decide_eq_true q'] at h5; exact absurd h5 (by decide))
   | (simp at h5; omega)
 cases hwl with
 | cons w1 w2 =>
  cases w2
  cases w1 with
  | list ho hall => exact ⟨_, _, ns, rfl, rfl, ho, Pu ns _ hall, hlen⟩
theorem Xk (l : OpenLaw) (args : List WData) : l.row.toRowW.claim.post args (.bool true) args = true :=
 postW_of (r := l.row.toRowW) (X := (true == true))
  (show WShape.has [] (.bool true) .bool = true by first | rfl | decide | simp [WShape.has, WShape.arms, WShape.armsAll])
  (show (WTm.eq .res (.lit (.bool true))).value [] { args := args, res := some (.bool true), after := args } = some (.bool (true == true)) from w_eq_bool (w_res rfl) w_lit) rfl
theorem attach_call {l : OpenLaw} {n : Nat} {q : Program} {loose : List Str} {XP : (Str -> Option Value) -> Heap -> Prop} {YP : World -> Heap -> Prop} {d : DefRec}
  (hn : l.most = some n) (hdf : d.params.defaults = [])
  (call : ∀ (w : World) (s₀ s₁ : Shared) (mg mb : Str -> Option Value) (fa : Addr) (o : Obj) (pm cd doc : Value) (a : Addr) (vs : List Value) (ns : List Int),
   Ground q loose [] XP w s₀ mg mb s₁.heap -> YP w s₁.heap ->
   s₁.heap.get? fa = some o -> o.data = .func (docDef d.name d.params d.body d.scope pm cd doc) -> s₁.heap.CodeRec cd d.name -> mg d.name = some (.ref fa) ->
   s₁.heap.get? a = some { cls := .type "list", data := .seq vs.toArray } -> IntsAre vs ns -> ns.length <= n -> s₁.gens = #[] ->
   codeAny (model l.prog w) callerA (.call (.ref fa) ⟨[.ref a], []⟩) (fun r s' => r = .ok (.ret (.bool true)) /\ OldK s₁.heap s'.heap /\ s'.os = s₁.os /\ AllBare s'.gens) s₁) :
  WalkO q loose XP YP l.row.toRowW d [] (fun f vs => PySem.call f vs) := by
 intro w s₀ s₁ mg mb G Y fa o pm cd doc dV kV ho hd hcd hD hmg hg args vals as hpre hlay hrd hwl hlo
 obtain rfl : dV = .none := Dflts.none hD hdf
 obtain rfl : kV = .none := Dflts.noKw hD
 obtain ⟨a, vs, ns, rfl, rfl, hobj, hints, hlen⟩ := Zi hn hpre hwl
 refine enter_call (codeAny_mono (call w s₀ s₁ mg mb fa o pm cd doc a vs ns G Y ho (fd_plain hd) hcd hmg hobj hints hlen hg) fun r s' hq => ?_)
 obtain ⟨rfl, h2, h3, h4⟩ := hq
 exact ⟨.inl ⟨.bool true, .bool true, [], rfl, fun _ => rfl, .bool true, Xk l _, fun _ => ⟨List.Pairwise.nil, fun _ hm => (nomatch hm)⟩⟩, h2, h3, h4⟩
end Att
namespace L2
open PySem PySem.Spec PyProof.Rows
theorem Kh : ∀ {vs : List Value} {ns : List Int}, IntsAre vs ns -> Vals (ns.map V.int) vs
 | _, _, .nil => .nil
 | _, _, .cons n t h => .cons ⟨t, rfl⟩ (Kh h)
def Only (H : Hp) : Prop := ∀ b, H b = none \/ ∃ o xs, H b = some (.frz o (.lst xs))
theorem ZJ {P : Program} {w : World} {K : Fg_} {mg mb : Str -> Option Value} {CX : CXT} {k : Nat} {fa a : Addr} {fd : FuncData} {x : Str} {sp : Sp} {s₁ : Shared} {vs : List Value} {ns : List Int}
  (KX : K.In s₁.heap) (hns : s₁.heap.Ns mainGlobals mg) (hb : s₁.heap.Ns builtinsNs mb) (hbb : ∀ x : Str, x ≠ "__name__" -> mb x = bootBuiltins x) (hlim : s₁.heap.NoLimit) (hg : s₁.gens = #[])
  (ha : s₁.heap.get? a = some { cls := .type "list", data := .seq vs.toArray }) (hi : IntsAre vs ns) (hl : ns.length <= sizeLine) (hr : Room k callerA)
  (F : ∀ base : Heap, K.In base -> base.Ns mainGlobals mg -> FnOk P w K mg base CX k fa fd [x] sp) (hbind : ∀ (s : Shared) (u : Value), BindsTo s fd ⟨[u], []⟩ [(x, u)])
  (hsp : ∀ H : Hp, Only H -> SqL K H a (ns.map V.int) -> sp [.ref a] H (fun v _ => v = .bl true) fun _ _ _ => False)
  (hCX : ∀ H e s', CX [] H s₁ (fun _ _ _ => False) e s' -> False) :
  codeAny (model P w) callerA (.call (.ref fa) ⟨[.ref a], []⟩) (fun r s' => r = .ok (.ret (.bool true)) /\ OldK s₁.heap s'.heap /\ s'.os = s₁.os /\ AllBare s'.gens) s₁ := by
 have rv := Kh hi
 have lenV := hi.length
 have core : ∀ H : Hp, Only H -> SqL K H a (ns.map V.int) -> HOk P w H s₁.heap -> (∀ b, H b ≠ none -> b = a) -> (H a ≠ none -> K.lookup a = none) ->
   codeAny (model P w) callerA (.call (.ref fa) ⟨[.ref a], []⟩) (fun r s' => r = .ok (.ret (.bool true)) /\ OldK s₁.heap s'.heap /\ s'.os = s₁.os /\ AllBare s'.gens) s₁ := by
  intro H hO hS hok hA hK
  have base_of : ∀ {b : Addr} {o : Obj}, s₁.heap.get? b = some o -> H b = none -> (aav s₁.heap H).get? b = some o := fun e n => ZP e n
  have noA : ∀ {b : Addr} {o : Obj} {es : Array DictEntry} {ep : Nat}, s₁.heap.get? b = some o -> o.data = .dict es ep -> H b = none := fun {b o es ep} e d => by
   cases q : H b with
   | none => rfl
   | some u =>
    have e' : b = a := hA b (by rw [q]; simp)
    subst e'
    rw [ha] at e; cases e
    have d' : Data.seq vs.toArray _ = Data.dict es ep := d
    cases d'
  have nsK : ∀ {b : Addr} {m : Str -> Option Value}, s₁.heap.Ns b m -> (aav s₁.heap H).Ns b m := fun {b m} ⟨o, es, ep, e, d, r⟩ => ⟨o, es, ep, base_of e (noA e d), d, r⟩
  have hKb : K.In (aav s₁.heap H) := fun b o e => base_of (KX b o e) (by
   cases q : H b with
   | none => rfl
   | some u =>
    have e' : b = a := hA b (by rw [q]; simp)
    subst e'
    rw [hK (by rw [q]; simp)] at e; cases e)
  have hM : Mod K mg (aav s₁.heap H) := ⟨hKb, nsK hns, ⟨mb, nsK hb, hbb⟩, let ⟨mc, h1, h2⟩ := hlim; ⟨mc, nsK h1, h2⟩⟩
  have e0 : Env0 P w K mg (aav s₁.heap H) callerA [] s₁ H := ⟨rfl, hM, fun b o e => abM e, Nat.le_of_eq (Xl _ _), trivial, fun b hb => absurd (show b ∈ ([] : List Addr) from hb) (by simp), hok, .of_eq hg⟩
  refine codeAny_mono ((F _ hKb (nsK hns)).run callerA [] s₁ H ⟨[.ref a], []⟩ [.ref a] [.ref a] _ _ hr e0 (hbind s₁ (.ref a)) (.cons rfl .nil) (hsp H hO hS)) fun r s' h => ?_
  cases r with
  | error e => exact (hCX H e s' h).elim
  | ok fl =>
   cases fl with
   | next => exact False.elim h
   | brk => exact False.elim h
   | cont => exact False.elim h
   | ret u =>
    obtain ⟨v, H', os, bare, un, hok', r', q⟩ := h
    have q' : v = .bl true := q
    subst q'
    obtain rfl : u = Value.bool true := r'
    refine ⟨rfl, OldK.of_keep fun b o e => ?_, os, bare⟩
    cases q : H b with
    | none => exact un.keep b o e q (by intro z; exact absurd (show b ∈ ([] : List Addr) from z) (by simp)) (by simp)
    | some u =>
     rcases hO b with z | ⟨ob, xs, z⟩
     ·rw [q] at z; cases z
     ·have z2 := un.frzs b ob _ z
      obtain ⟨e1, _⟩ := hok b _ z
      obtain ⟨e2, _⟩ := hok' b _ z2
      rw [e] at e1; cases e1
      exact e2
 cases hk : K.lookup a with
 | some o =>
  have e := KX a o hk
  rw [ha] at e
  cases e
  refine core (fun _ => none) (fun _ => .inl rfl) (.inr ⟨_, vs.toArray, _, hk, rfl, rfl, rfl, by rw [List.size_toArray, lenV]; exact hl, by simpa using rv⟩) (fun b u z => by have z' : (none : Option HO) = some u := z; cases z') (fun b z => absurd rfl z) fun z => absurd rfl z
 | none =>
  refine core (fun b => if b = a then some (.frz { cls := .type "list", data := .seq vs.toArray } (.lst (ns.map V.int))) else none) (fun b => ?_) (.inl (.inr ⟨{ cls := .type "list", data := .seq vs.toArray }, if_pos rfl⟩)) (fun b u z => ?_) (fun b z => ?_) fun _ => hk
  ·by_cases hb : b = a
   ·exact .inr ⟨_, _, if_pos hb⟩
   ·exact .inl (if_neg hb)
  ·by_cases hb : b = a
   ·have z' := (if_pos hb).symm.trans z
    cases z'
    subst hb
    exact ⟨ha, by rw [List.length_map]; exact hl, vs, _, rv, ha⟩
   ·have z' := (if_neg hb).symm.trans z
    cases z'
  ·by_cases hb : b = a
   ·exact hb
   ·exact absurd (if_neg hb) z
end L2
namespace L2
open PySem PySem.Spec PyProof.Rows
theorem walk_of {l : PySem.W.OpenLaw} {n k : Nat} {q : Program} {loose : List Str} {XP : (Str -> Option Value) -> Heap -> Prop} {YP : World -> Heap -> Prop} {d : DefRec} {K : Params -> Fg_} {CX : World -> CXT} {sp : World -> Sp} {x : Str}
  (hn : l.most = some n) (hn2 : n <= sizeLine) (hdf : d.params.defaults = []) (hr : Room k callerA)
  (hY : ∀ (w : World) (h : Heap), YP w h -> (K w.params).In h)
  (F : ∀ (w : World) (mg : Str -> Option Value) (fa : Addr) (h : Heap), (K w.params).In h -> h.Ns mainGlobals mg -> mg d.name = some (.ref fa) ->
   ∃ fd : FuncData, (∀ (s : Shared) (u : Value), BindsTo s fd ⟨[u], []⟩ [(x, u)]) /\
    ∀ base : Heap, (K w.params).In base -> base.Ns mainGlobals mg -> FnOk l.prog w (K w.params) mg base (CX w) k fa fd [x] (sp w))
  (hsp : ∀ (w : World) (H : Hp) (a : Addr) (ns : List Int), ns.length <= n -> Only H -> SqL (K w.params) H a (ns.map V.int) -> sp w [.ref a] H (fun v _ => v = .bl true) fun _ _ _ => False)
  (hCX : ∀ (w : World) (H : Hp) (s : Shared) (e : Value) (s' : Shared), CX w [] H s (fun _ _ _ => False) e s' -> False) :
  PySem.W.WalkO q loose XP YP l.row.toRowW d [] (fun f vs => PySem.call f vs) := by
 refine Att.attach_call hn hdf fun w s₀ s₁ mg mb fa o pm cd doc a vs ns G Y ho hd hcd hmg hobj hints hlen hg => ?_
 have KX := hY w _ Y
 obtain ⟨fd, hb, hF⟩ := F w mg fa _ KX G.T.g hmg
 exact ZJ KX G.T.g G.T.b G.T.builtins G.T.nolimit hg hobj hints (Nat.le_trans hlen hn2) hr hF hb (fun H hO hS => hsp w H a ns hlen hO hS) fun H e s' => hCX w H s₁ e s'
end L2
namespace L2
open PySem PySem.Spec PyProof.Rows
def inClass (s : Stmt) (j : Nat) : Stmt := match s with
 | .ClassDef _ _ _ body _ _ _ _ _ _ _ => body.getD j (.Pass ⟨0, 0, 0, 0⟩)
 | _ => .Pass ⟨0, 0, 0, 0⟩
def Eg (s : Stmt) : Arguments := match s with
 | .FunctionDef _ a _ _ _ _ _ _ _ _ => a
 | _ => { posonlyargs := [], args := [], vararg := none, kwonlyargs := [], kw_defaults := [], kwarg := none, defaults := [] }
def CJ (s : Stmt) : List Stmt := match s with
 | .FunctionDef _ _ b _ _ _ _ _ _ _ => b
 | _ => []
def Ag (s : Stmt) : Scope := match s with
 | .FunctionDef _ _ _ _ _ _ sc _ _ _ => sc
 | _ => { kind := .function, names := [], isGenerator := false, isCoroutine := false }
abbrev CX0 : CXT := fun _ _ _ _ _ _ => False
abbrev E0 : XK := fun _ _ _ => False
theorem Ak {X : Cx} : Jg CX0 X E0 := fun _ _ _ _ _ _ _ h => h.elim
structure Fun (K : Fg_) (x qual : Str) (st : Stmt) (f : Addr) (fd : FuncData) : Prop where
 ex : ∃ (oc : Value) (od : Option Addr) (kV doc pm : Value) (an : Option Addr) (cdv ct : Value) (osl : Array (Option Value)),
  fd = PySem.W.fnOf x qual (Eg st) (CJ st) (Ag st) .none kV doc pm an cdv ct /\ K.lookup f = some ⟨oc, od, .func fd, osl⟩ /\ PySem.W.codeIn K cdv qual = true
 kp : PySem.W.keepIn K (.ref f) = true
section
variable {P : Program} {w : World} {K : Fg_} {mg : Str -> Option Value} {base : Heap}
theorem Fun.ok {x qual : Str} {st : Stmt} {f : Addr} {fd : FuncData} {N ps : List Str} {k : Nat} {sp : Sp} (F : Fun K x qual st f fd) (S : FnScope N ps (Ag st)) (len : ∀ vs H Q E, sp vs H Q E -> vs.length = ps.length)
  (hbody : ∀ (cdv : Value) (A : Around) (outer : List Env) (s : Shared) (H : Hp) (vs : List V) (Q : VK) (E : XK), Room k (A.deeper (envOfC qual (Ag st) s.heap.objs.size f cdv)) -> sp vs H Q E ->
   ∃ t, PSs (Lk CX0 P w K mg base N qual (Ag st) f cdv A outer s H E).nox (CJ st) t /\ t { nx := fun _ H' => Q .non H', rt := Q } (start N vs) H) : FnOk P w K mg base CX0 (k + 1) f fd ps sp := by
 obtain ⟨oc, od, kV, doc, pm, an, cdv, ct, osl, rfl, lk, hcd⟩ := F.ex
 refine aaZ lk hcd S len fun A outer s H vs Q E hr hsp => ?_
 obtain ⟨t, h, q⟩ := hbody cdv A outer s H vs Q E hr hsp
 exact ⟨t, h.nox, q⟩
theorem Fun.binds {x qual : Str} {st : Stmt} {f : Addr} {fd : FuncData} {ps : List Str} (F : Fun K x qual st f fd)
  (h : ∀ (kV doc pm : Value) (an : Option Addr) (cdv ct : Value) (us : List Value), us.length = ps.length -> bindArgs (PySem.W.fnOf x qual (Eg st) (CJ st) (Ag st) .none kV doc pm an cdv ct) ⟨us, []⟩ = pure (ps.zip us)) : Binds K fd ps [] := by
 obtain ⟨oc, od, kV, doc, pm, an, cdv, ct, osl, rfl, lk, hcd⟩ := F.ex
 exact .all (h kV doc pm an cdv ct)
theorem Bb {x qual : Str} {st : Stmt} {f : Addr} {oc : Value} {od an : Option Addr} {osl : Array (Option Value)} {kV doc pm cdv ct : Value} (l : K.lookup f = some ⟨oc, od, .func (PySem.W.fnOf x qual (Eg st) (CJ st) (Ag st) .none kV doc pm an cdv ct), osl⟩)
  (c : PySem.W.codeIn K cdv qual = true) (k : PySem.W.keepIn K (.ref f) = true) : Fun K x qual st f (PySem.W.fnOf x qual (Eg st) (CJ st) (Ag st) .none kV doc pm an cdv ct) := ⟨⟨oc, od, kV, doc, pm, an, cdv, ct, osl, rfl, l, c⟩, k⟩
end
theorem Ff {A : Around} {k : Nat} (hr : Room k A) : A.units + 1 < cLine := Nat.lt_of_le_of_lt (Nat.add_le_add_left (by decide : 1 <= 64) _) hr.units
section
variable {X : Cx}
theorem pv (i : Nat) {x : Str} {pos : Pos} (hN : X.N[i]? = some x := by rfl) (hv : Vis X.env.scope x := by first | exact Or.inl rfl | exact Or.inr (Or.inl rfl) | exact Or.inr (Or.inr rfl)) (hd : (x == ("__debug__" : Str)) = false := by decide)
  (hcd : (x == ("__classdict__" : Str)) = false := by decide) : PE X (.Name x pos) (acj i) := adt hN hv hd hcd
end
def Same (H H' : Hp) : Prop := ∀ b o, H b = some o -> H' b = some o
theorem Same.refl (H : Hp) : Same H H := fun _ _ h => h
theorem Same.trans {H H1 H2 : Hp} (a : Same H H1) (b : Same H1 H2) : Same H H2 := fun c o h => b c o (a c o h)
theorem Same.free {H H' : Hp} (e : Same H H') {l : Addr} (h : H' l = Option.none) : H l = Option.none := by
 cases q : H l with
 | none => rfl
 | some o =>
  rw [e l o q] at h
  cases h
theorem Same.seq {K : Fg_} {H H' : Hp} {a : Addr} {xs : List V} (e : Same H H') (h : SqL K H a xs) : SqL K H' a xs := by
 rcases h with (h | ⟨o, h⟩) | h
 ·exact .inl (.inl (e _ _ h))
 ·exact .inl (.inr ⟨o, e _ _ h⟩)
 ·exact .inr h
end L2
namespace L2
open PySem PySem.Spec PyProof.Rows
def AllIn : List (Str × Addr) -> List (Str × Addr) -> Prop
 | [], _ => True
 | (x, c) :: r, cells => cells.lookup x = some c /\ AllIn r cells
theorem AllIn.look {cells : List (Str × Addr)} : ∀ {cl : List (Str × Addr)}, AllIn cl cells -> ∀ {x : Str} {c : Addr}, cl.lookup x = some c -> cells.lookup x = some c
 | [], _, x, c, e => by simp at e
 | (y, d) :: r, h, x, c, e => by
  rw [List.lookup_cons] at e
  cases q : x == y with
  | true =>
   rw [q] at e
   have z : d = c := Option.some.inj e
   have z2 : x = y := beq_iff_eq.mp q
   subst z z2
   exact h.1
  | false =>
   rw [q] at e
   exact AllIn.look h.2 e
def Ng (cells : List (Str × Addr)) : List (Str × NameKind) -> List (Str × Addr) -> List (Str × Addr)
 | [], cs => cs
 | (n, k) :: r, cs => Ng cells r (match k with
  | .free => match cells.lookup n with
   | some c => (n, c) :: cs
   | Option.none => cs
  | _ => cs)
abbrev Mj (scope : Scope) (env : Env) : List (Str × Addr) := Ng env.cells scope.names []
theorem Oo (cells : List (Str × Addr)) : ∀ (names : List (Str × NameKind)) (cs : List (Str × Addr)), AllIn cs cells -> AllIn (Ng cells names cs) cells
 | [], _, h => h
 | (n, k) :: r, cs, h => by
  unfold Ng
  refine Oo cells r _ ?_
  cases k with
  | free =>
   cases q : cells.lookup n with
   | none => exact h
   | some c => exact ⟨q, h⟩
  | _ => exact h
theorem GP (scope : Scope) (env : Env) : AllIn (Mj scope env) env.cells := Oo _ _ _ trivial
def CapOk (X : Cx) (sc : Scope) (cl : List (Str × Addr)) : List Str -> List (Option Nat) -> Prop
 | [], [] => True
 | _ :: N, Option.none :: r => CapOk X sc cl N r
 | x :: N, some j :: r => X.N[j]? = some x /\ (X.env.kindOf x = some .cell \/ X.env.kindOf x = some .free) /\ (sc.names.lookup x = some .cell \/ sc.names.lookup x = some .free) /\ (∃ c, cl.lookup x = some c) /\ CapOk X sc cl N r
 | _, _ => False
def Im (σ : St) (cap : List (Option Nat)) : St := cap.map fun o => match o with
 | Option.none => Option.none
 | some j => match σ[j]? with
  | some v => v
  | Option.none => Option.none
theorem CapOk.nil {X : Cx} {sc : Scope} {cl : List (Str × Addr)} : CapOk X sc cl [] [] := trivial
theorem CapOk.own {X : Cx} {sc : Scope} {cl : List (Str × Addr)} {x : Str} {N : List Str} {r : List (Option Nat)} (h : CapOk X sc cl N r) : CapOk X sc cl (x :: N) (Option.none :: r) := h
theorem CapOk.take {X : Cx} {sc : Scope} {cl : List (Str × Addr)} {x : Str} {N : List Str} {j : Nat} {r : List (Option Nat)} (h1 : X.N[j]? = some x) (h2 : X.env.kindOf x = some .cell \/ X.env.kindOf x = some .free)
  (h3 : sc.names.lookup x = some .cell \/ sc.names.lookup x = some .free) (h4 : (cl.lookup x).isSome = true) (h : CapOk X sc cl N r) : CapOk X sc cl (x :: N) (some j :: r) := ⟨h1, h2, h3, Option.isSome_iff_exists.mp h4, h⟩
theorem CapOk.len {X : Cx} {sc : Scope} {cl : List (Str × Addr)} : ∀ {N : List Str} {cap : List (Option Nat)}, CapOk X sc cl N cap -> cap.length = N.length
 | [], [], _ => rfl
 | _ :: N, Option.none :: r, h => congrArg (· + 1) (CapOk.len (N := N) (cap := r) h)
 | _ :: N, some _ :: r, h => congrArg (· + 1) (CapOk.len (N := N) (cap := r) h.2.2.2.2)
 | [], _ :: _, h => h.elim
 | _ :: _, [], h => h.elim
theorem CapOk.get {X : Cx} {sc : Scope} {cl : List (Str × Addr)} {σ : St} : ∀ {N : List Str} {cap : List (Option Nat)} {i : Nat} {x : Str} {v : V}, CapOk X sc cl N cap -> N[i]? = some x -> (Im σ cap)[i]? = some (some v) ->
  ∃ j : Nat, X.N[j]? = some x /\ σ[j]? = some (some v) /\ (X.env.kindOf x = some .cell \/ X.env.kindOf x = some .free) /\ (sc.names.lookup x = some .cell \/ sc.names.lookup x = some .free) /\ ∃ c, cl.lookup x = some c
 | [], [], i, x, v, _, e, _ => by simp at e
 | y :: N, Option.none :: r, 0, x, v, h, e1, e2 => by
  have z : (some (Option.none : Option V)) = some (some v) := e2
  cases z
 | y :: N, Option.none :: r, i + 1, x, v, h, e1, e2 => CapOk.get (N := N) (cap := r) (i := i) h (by simpa using e1) (by simpa [Im] using e2)
 | y :: N, some j :: r, 0, x, v, h, e1, e2 => by
  have z : y = x := by simpa using e1
  subst z
  obtain ⟨h1, h2, h3, h4, _⟩ := h
  refine ⟨j, h1, ?_, h2, h3, h4⟩
  have z2 : some (match σ[j]? with | some v => v | Option.none => Option.none) = some (some v) := e2
  cases q : σ[j]? with
  | none => rw [q] at z2; cases z2
  | some o => rw [q] at z2; exact z2
 | y :: N, some j :: r, i + 1, x, v, h, e1, e2 => CapOk.get (N := N) (cap := r) (i := i) h.2.2.2.2 (by simpa using e1) (by simpa [Im] using e2)
 | [], _ :: _, _, _, _, h, _, _ => h.elim
 | _ :: _, [], _, _, _, h, _, _ => h.elim
def cxC (X : Cx) (N' : List Str) (scope : Scope) (s : Shared) (H : Hp) (fp : List Addr) (xe : Value -> Shared -> Prop) : Cx :=
 { X with N := N', s₀ := s, H₀ := H, env := compEnvC scope (Mj scope X.env) s.heap.objs.size X.env, outer := X.stack, ex := fp, fn := fun _ => false, pn := [], xe := xe }
def PTs (X : Cx) (ifs : List Expr) (t : TT) : Prop :=
 ∀ (pins : List (Addr × Obj)) (s : Shared) (σ : St) (H : Hp) (Q : Bool -> Hp -> Prop), Inv X pins σ H s -> t σ H Q ->
  wpAny (model X.prog X.w) X.A (forIn ifs true fun c r => if r = true then do let ok <- isTrue c X.env (eval c X.env); pure (ForInStep.yield ok) else pure (ForInStep.yield r)) (TP X pins σ Q) X.xe s
def QD : TT := fun _ H Q => Q true H
theorem Ec {X : Cx} : PTs X [] QD := fun _ _ _ H _ I h => wpAny_tests_nil ⟨H, I, h⟩
def adq (cap : List (Option Nat)) (wi : TI) (g : TG) (tt : TT) (te : TE) : TE := fun σ H Q => wi σ H fun J H1 => ∀ D, H1 D = Option.none ->
 ∃ W : Nat -> Nat -> List V -> St -> Hp -> Prop, (∃ m, W 0 m [] (Im σ cap) (upd H1 D (.lst []))) /\ ∀ i m acc σ1 H2, W i m acc σ1 H2 -> H2 D = some (.lst acc) ->
  (J.stop i H2 /\ Q (.ref D) H2) \/ (J.go i H2 /\ ∀ x H3, J.yld i H2 x H3 -> g x σ1 H3 fun σ4 H4 => tt σ4 H4 fun b H5 =>
   if b = true then te σ4 H5 fun v H6 => ∃ acc', H6 D = some (.lst acc') /\ acc'.length < sizeLine /\ ∃ m', m' < m /\ W (i + 1) m' (acc' ++ [v]) σ4 (upd H6 D (.lst (acc' ++ [v])))
   else ∃ m', m' < m /\ ∃ acc', H5 D = some (.lst acc') /\ W (i + 1) m' acc' σ4 H5)
section
variable {X : Cx} {elt tg iter : Expr} {ifs : List Expr} {scope : Scope} {pos : Pos} {cap : List (Option Nat)} {N' : List Str} {wi : TI} {g : TG} {tt : TT} {te : TE}
structure CompOk (X : Cx) (iter : Expr) (scope : Scope) (N' : List Str) (cap : List (Option Nat)) : Prop where
 clos : closureFor scope X.env = pure (Mj scope X.env)
 cap : CapOk X (relabel scope X.env) (Mj scope X.env) N' cap
 kind : scope.kind = .function
 nocell : ∀ y ∈ scope.names, y.2 ≠ .cell
 names : ∀ y ∈ scope.names, y.2 = .local -> scope.names.lookup y.1 = some .local
 has : (scope.names.all fun y => y.2 != .free || ((Mj scope X.env).lookup y.1).isSome) = true
 fold : ∀ x, foldedSetIterable iter X.env x = pure x
theorem Yl {f : Str × NameKind -> Str × NameKind} (h1 : ∀ y, (f y).1 = y.1) (h2 : ∀ y, y.2 ≠ NameKind.cell -> ((f y).2 = NameKind.cell \/ (f y).2 = NameKind.free) -> y.2 = NameKind.free) {cl : List (Str × Addr)} :
  ∀ {names : List (Str × NameKind)} {x : Str}, (∀ y ∈ names, y.2 ≠ NameKind.cell) -> (names.all fun y => y.2 != NameKind.free || (cl.lookup y.1).isSome) = true -> ((names.map f).lookup x = some NameKind.cell \/ (names.map f).lookup x = some NameKind.free) -> ∃ c, cl.lookup x = some c
 | [], x, _, _, h => by rcases h with h | h <;> simp at h
 | y :: r, x, hc, ha, h => by
  rw [List.all_cons, Bool.and_eq_true] at ha
  rw [List.map_cons] at h
  have e0 : f y = (y.1, (f y).2) := by rw [<- h1 y]
  rw [e0, List.lookup_cons] at h
  cases q : x == y.1 with
  | true =>
   rw [q] at h
   have e : x = y.1 := beq_iff_eq.mp q
   have hf : y.2 = NameKind.free := h2 y (hc y List.mem_cons_self) (by
    rcases h with h | h
    ·exact .inl (Option.some.inj h)
    ·exact .inr (Option.some.inj h))
   have h3 : (cl.lookup y.1).isSome = true := by
    have := ha.1
    rw [hf] at this
    simpa using this
   rw [e]
   exact Option.isSome_iff_exists.mp h3
  | false =>
   rw [q] at h
   exact Yl h1 h2 (fun z hz => hc z (List.mem_cons_of_mem _ hz)) ha.2 h
theorem acJ {env : Env} {scope : Scope} {cl : List (Str × Addr)} {x : Str} (hc : ∀ y ∈ scope.names, y.2 ≠ NameKind.cell) (ha : (scope.names.all fun y => y.2 != NameKind.free || (cl.lookup y.1).isSome) = true)
  (h : (relabel scope env).names.lookup x = some NameKind.cell \/ (relabel scope env).names.lookup x = some NameKind.free) : ∃ c, cl.lookup x = some c := by
 refine Yl (f := fun (n, k) => if (k == NameKind.free && env.scope.kind == .function && env.kindOf n == some .cell) then (n, NameKind.cell) else (n, k)) (fun y => ?_) (fun y hy hk => ?_) hc ha h
 ·obtain ⟨n, k⟩ := y
  dsimp only
  split <;> rfl
 ·obtain ⟨n, k⟩ := y
  dsimp only at hk ⊢ hy
  by_cases hb : (k == NameKind.free && env.scope.kind == .function && env.kindOf n == some .cell) = true
  ·simp only [Bool.and_eq_true] at hb
   exact beq_iff_eq.mp hb.1.1
  ·rw [if_neg hb] at hk
   rcases hk with hk | hk
   ·exact absurd hk hy
   ·exact hk
theorem Sy {P : Program} {w : World} {A : Around} {R : Result -> Shared -> Prop} {s : Shared} {it acc : Value} {env : Env} (I : Nat -> Shared -> Prop)
  (turn : ∀ n s, I n s -> wpAny (model P w) A (pyNext it) (fun r s₁ => match r with
   | none => R (.ok .next) s₁
   | some v => wpAny (model P w) A (letOwnedTupleGo tg it v) (fun _ s₁' => wpAny (model P w) A (assign tg env v) (fun _ s₂ =>
     wpAny (model P w) A (forIn ifs true fun c r => if r = true then do let ok <- isTrue c env (eval c env); pure (ForInStep.yield ok) else pure (ForInStep.yield r)) (fun ok s₃ =>
      if ok = true then wpAny (model P w) A (eval elt env) (fun x s₄ =>
       wpAny (model P w) A (call (.builtin "list.append") [acc, x]) (fun _ s₅ => ∃ m, m < n /\ I m s₅) (notedBy (model P w) A env fun e s' => R (.error e) s') s₄) (notedBy (model P w) A env fun e s' => R (.error e) s') s₃
      else ∃ m, m < n /\ I m s₃) (notedBy (model P w) A env fun e s' => R (.error e) s') s₂) (notedBy (model P w) A env fun e s' => R (.error e) s') s₁') (notedBy (model P w) A env fun e s' => R (.error e) s') s₁)
    (notedBy (model P w) A env fun e s' => R (.error e) s') s)
  (n : Nat) (h : I n s) :
  codeAny (model P w) A (.compLoop (.ListComp elt [⟨tg, iter, ifs, 0⟩] scope pos) 0 it acc env) R s := by
 refine codeAny_loop rfl I (fun n s hI => ?_) n h
 show wpAny _ A ((compTurn (.ListComp elt [⟨tg, iter, ifs, 0⟩] scope pos) 0 it acc env).onRaise (fun x => do noteFrame x env; theTreesLotGoes x)) _ _ s
 refine wpAny_noted ?_
 rw [compTurn_list]
 refine wpAny_bind (wpAny_standAt (wpAny_bind (wpAny_mono (turn n s hI) (fun r s₁ h₁ => ?_) fun _ _ h' => h')))
 cases r with
 | none => exact wpAny_pure h₁
 | some v =>
  refine wpAny_bind (wpAny_mono h₁ (fun _ s₁' h₁ => ?_) fun _ _ h' => h')
  refine wpAny_bind (wpAny_mono h₁ (fun _ s₂ h₂ => wpAny_bind (wpAny_mono h₂ (fun ok s₃ h₃ => ?_) fun _ _ h' => h')) fun _ _ h' => h')
  cases ok with
  | false => exact wpAny_pure ⟨rfl, h₃⟩
  | true =>
   exact wpAny_bind (wpAny_bind (wpAny_mono h₃ (fun x s₄ h₄ => wpAny_bind (wpAny_mono h₄ (fun _ s₅ h₅ => wpAny_pure (wpAny_pure ⟨rfl, h₅⟩)) fun _ _ h' => h')) fun _ _ h' => h'))
theorem Yz {pins : List (Addr × Obj)} {σ : St} {H2 : Hp} {s2 : Shared} {Q : VK} {it : Addr} {fp : List Addr} {tn : Nat -> Heap -> Prop} {J : It} {R : Value -> Addr -> Result -> Shared -> Prop} {E : Value -> Shared -> Prop}
  (hc : X.calm = true) (C : CompOk X iter scope N' cap)
  (hg : ∀ s H fp xe, PG (cxC X N' scope s H fp xe) tg g) (ht : ∀ s H fp xe, PTs (cxC X N' scope s H fp xe) ifs tt) (he : ∀ s H fp xe, PE (cxC X N' scope s H fp xe) elt te)
  (I2 : Inv X pins σ H2 s2) (T : Turn X.prog X.w X.K tg J fp it tn) (st2 : tn 0 s2.heap) (f2 : ∀ b ∈ fp, Wd X pins H2 b)
  (hR : ∀ D Cl H' s', Inv X pins σ H' s' -> (∃ m, s'.heap.Ns Cl m) -> H' Cl = Option.none -> Cl ≠ X.env.locals -> X.s₀.heap.objs.size <= Cl -> (∀ x c, X.env.cells.lookup x = some c -> c ≠ Cl) -> (∀ p ∈ X.pn ++ pins, p.1 ≠ Cl) -> Q (.ref D) H' -> R (.ref D) Cl (.ok .next) s')
  (hw : ∀ D, H2 D = Option.none -> ∃ W : Nat -> Nat -> List V -> St -> Hp -> Prop, (∃ m, W 0 m [] (Im σ cap) (upd H2 D (.lst []))) /\ ∀ i m acc σ1 H2, W i m acc σ1 H2 -> H2 D = some (.lst acc) ->
   (J.stop i H2 /\ Q (.ref D) H2) \/ (J.go i H2 /\ ∀ x H3, J.yld i H2 x H3 -> g x σ1 H3 fun σ4 H4 => tt σ4 H4 fun b H5 =>
    if b = true then te σ4 H5 fun v H6 => ∃ acc', H6 D = some (.lst acc') /\ acc'.length < sizeLine /\ ∃ m', m' < m /\ W (i + 1) m' (acc' ++ [v]) σ4 (upd H6 D (.lst (acc' ++ [v])))
    else ∃ m', m' < m /\ ∃ acc', H5 D = some (.lst acc') /\ W (i + 1) m' acc' σ4 H5)) :
  wpAny (model X.prog X.w) X.A (newList []) (fun acc s₃ => wpAny (model X.prog X.w) X.A (newFunctionEnv scope X.env.globals (Mj scope X.env) [] X.env.qual none .none (some X.env)) (fun cenv s₄ =>
   codeAny (model X.prog X.w) X.A (.compStart (.ListComp elt [⟨tg, iter, ifs, 0⟩] scope pos) 0 (.ref it) acc { cenv with scope := relabel scope X.env }) (R acc cenv.locals) s₄) E s₃) E s2 := by
 refine wpAny_newObj_type (wpAny_newFunctionEnv C.nocell (by intro y hy; simp at hy) (fun h₁ hns₁ hsb₁ => ?_) C.kind)
 obtain ⟨W, ⟨m0, w0⟩, turn⟩ := hw s2.heap.objs.size I2.fresh
 have I3 : Inv X pins σ (upd H2 s2.heap.objs.size (.lst [])) { s2 with heap := s2.heap.push { cls := .type "list", data := .seq ([] : List Value).toArray } } := I2.lnew (t' := s2.toks) .nil (Nat.zero_le _)
 generalize hs3 : ({ s2 with heap := s2.heap.push { cls := .type "list", data := .seq ([] : List Value).toArray } } : Shared) = s3 at I3 hns₁ hsb₁ ⊢
 generalize hD : s2.heap.objs.size = D at I3 w0 turn ⊢
 have hn0 : H2 D = Option.none := by rw [<- hD]; exact I2.fresh
 have hs32 : s3.os = s2.os := by rw [<- hs3]
 have un32 : Un (frs X.stack) fp H2 (upd H2 D (.lst [])) s2.heap s3.heap := by
  rw [<- hs3, <- hD]
  exact Un.laid (fun b u q => Heap.get?_push_of_some _ q) (Nat.le_refl _) I2.fresh
 have keep4 : ∀ b o, s3.heap.get? b = some o -> h₁.get? b = some o := fun b o e => (hsb₁.2 b (Nat.ne_of_lt (Heap.lt_size e))).trans (Heap.get?_push_of_some _ e)
 have keep2 : ∀ b o, s2.heap.get? b = some o -> s3.heap.get? b = some o := fun b o e => by rw [<- hs3]; exact Heap.get?_push_of_some _ e
 have hR' : ∀ (r : Result) (s' : Shared), R (.ref D) s3.heap.objs.size r s' -> R (.ref D) s3.heap.objs.size r s' := fun _ _ h => h
 have f3 : ∀ b ∈ fp, Wd X pins (upd H2 D (.lst [])) b := fun b hb => by
  obtain ⟨q0, q1⟩ := f2 b hb
  refine ⟨?_, q1⟩
  obtain ⟨o, e, _⟩ := T.obj _ _ st2 b hb
  rw [Aj (by rw [<- hD]; exact Nat.ne_of_lt (Heap.lt_size e))]
  exact q0
 let XC : Cx := cxC X N' scope s3 (upd H2 D (.lst [])) fp (notedBy (model X.prog X.w) X.A (compEnvC scope (Mj scope X.env) s3.heap.objs.size X.env) fun e s' => R (.ref D) s3.heap.objs.size (.error e) s')
 have ok : XC.Ok := by
  refine ⟨I3.ok.mod, C.kind, I3.ok.glob, I3.ok.blt, Nat.le_refl _, fun x y c e1 e2 => I3.ok.inj x y c ((GP scope X.env).look e1) ((GP scope X.env).look e2), fun x hx => acJ C.nocell C.has hx, fun x c hf => (nomatch hf), fun _ => I3.ok.hd hc, I3.ok.frames, .inl rfl, fun b hb => ?_, I3.bs, Nat.le_trans I3.ok.bsz I3.sz, fun b o e hb => ?_, fun b hb hf => ?_, I3.stack, I3.stkFree⟩
  ·obtain ⟨q0, q1, q2, q3, q4, q5⟩ := f3 b hb
   refine ⟨?_, fun x c e => q4 x c ((GP scope X.env).look e)⟩
   obtain ⟨o, e, _⟩ := T.obj _ _ st2 b hb
   exact Nat.ne_of_lt (Heap.lt_size (keep2 _ _ e))
  ·obtain ⟨q0, q1, q2, q3, q4, q5⟩ := f3 b hb
   rcases q3 with q3 | q3
   ·exact I3.ok.noex b o e q3
   ·exact absurd (Nat.lt_of_lt_of_le (Heap.lt_size e) (Nat.le_trans I3.ok.bsz q3)) (Nat.lt_irrefl _)
  ·obtain ⟨q0, q1, q2, q3, q4, q5⟩ := f3 b hb
   rcases List.mem_cons.mp (I3.stkSub b hf) with z | z
   ·exact q1 z
   ·exact q2 z
 have I4 : Inv XC [] (Im σ cap) (upd H2 D (.lst [])) { s3 with heap := h₁, toks := s3.toks + ([] : List (Str × Value)).length } := by
  refine ⟨ok, rfl, I3.bare, Un.kept keep4, ⟨_, hns₁, fun i x v e1 e2 e3 => ?_⟩, fun x c e => ?_, I3.hok.fresh (Nat.le_refl _), fun x c e => I3.freeC x c ((GP scope X.env).look e), fun p hp => absurd (show p ∈ ([] : List (Addr × Obj)) from hp) (by simp), I3.hok.kept keep4, by rw [show (Im σ cap).length = cap.length from by simp [Im]]; exact C.cap.len⟩
  ·obtain ⟨j, g1, g2, g3, g4, c, g5⟩ := C.cap.get e1 e2
   obtain ⟨m, _, hl⟩ := I3.loc
   obtain ⟨u, r, l⟩ := hl j x v g1 g2 (by
    rcases g3 with z | z
    ·exact .inr (.inl z)
    ·exact .inr (.inr z))
   refine ⟨u, r, .inr ⟨g4, c, g5, ?_⟩⟩
   rcases l with ⟨k, _⟩ | ⟨_, c', e, z⟩
   ·rcases g3 with q | q
    ·rw [k] at q; cases q
    ·rw [k] at q; cases q
   ·have e' := (GP scope X.env).look g5
    rw [e] at e'; cases e'
    obtain ⟨o, ho, hd⟩ := z
    exact ⟨o, keep4 _ _ ho, hd⟩
  ·obtain ⟨v, o, ho, hd⟩ := I3.cell x c ((GP scope X.env).look e)
   exact ⟨v, o, keep4 _ _ ho, hd⟩
 have st4 : tn 0 h₁ := T.keep _ _ _ st2 fun b _ o e => keep4 b o (keep2 b o e)
 have fpc : ∀ {pins' : List (Addr × Obj)} {H' : Hp}, (∀ b ∈ fp, H' b = Option.none) -> (∀ p ∈ pins', p.1 ∉ fp) -> ∀ b ∈ fp, Wd XC pins' H' b := fun {pins' H'} hn hp b hb => by
  obtain ⟨q1, q2⟩ := ok.exf b hb
  exact ⟨hn b hb, q1, ok.exfs b hb, .inl hb, q2, fun p hp' z => hp p (by simpa [XC, cxC] using hp') (by rw [z]; exact hb)⟩
 have hDf : D ∉ fp := fun hb => by
  obtain ⟨o, e, _⟩ := T.obj _ _ st2 D hb
  rw [<- hD] at e
  exact absurd (Heap.lt_size e) (Nat.lt_irrefl _)
 have out : ∀ {σ' : St} {H' : Hp} {s' : Shared}, Inv XC [] σ' H' s' -> Inv X pins σ H' s' := fun {σ' H' s'} J' =>
  I2.call' (ch := fp) (J'.os.trans hs32) (un32.trans J'.base) J'.hok J'.bare fun b hb => by
   obtain ⟨q0, q1, q2, q3, q4, q5⟩ := f2 b hb
   exact ⟨q3, q1, q4, q5⟩
 have loop : ∀ s₄ : Shared, s₄ = { s3 with heap := h₁, toks := s3.toks + ([] : List (Str × Value)).length } ->
   codeAny (model X.prog X.w) X.A (.compLoop (.ListComp elt [⟨tg, iter, ifs, 0⟩] scope pos) 0 (.ref it) (.ref D) (compEnvC scope (Mj scope X.env) s3.heap.objs.size X.env)) (R (.ref D) s3.heap.objs.size) s₄ := by
  rintro s₄ rfl
  refine Sy (fun n s' => ∃ i acc σ' H', Inv XC [] σ' H' s' /\ tn i s'.heap /\ (∀ b ∈ fp, H' b = Option.none) /\ H' D = some (.lst acc) /\ W i n acc σ' H') ?_ m0
   ⟨0, [], Im σ cap, upd H2 D (.lst []), I4, st4, fun b hb => (f3 b hb).1, Ae, w0⟩
  rintro n s5 ⟨i, acc, σ5, H5, I5, st5, fr5, hA, w5⟩
  rcases turn i n acc σ5 H5 w5 hA with ⟨stop, q⟩ | ⟨go, step⟩
  ·refine thn (T.done XC rfl rfl rfl hc i [] s5 σ5 H5 _ I5 (fpc fr5 (by simp)) st5 stop) fun r s6 ⟨hr, I6⟩ => ?_
   subst hr
   obtain ⟨m, hn, _⟩ := I6.loc
   exact hR D s3.heap.objs.size H5 s6 (out I6) ⟨m, hn⟩ I6.free (Nat.ne_of_gt I3.lt) I3.sz (fun x c e z => by
    obtain ⟨v, o, ho, _⟩ := I3.cell x c e
    rw [z] at ho
    exact absurd (Heap.lt_size ho) (Nat.lt_irrefl _)) (fun p hp z => by
    have e := (I3.pin p hp).1
    rw [z] at e
    exact absurd (Heap.lt_size e) (Nat.lt_irrefl _)) q
  ·refine thn (T.item XC rfl rfl rfl hc i [] s5 σ5 H5 _ I5 (fpc fr5 (by simp)) st5 go) fun r s6 ⟨u, hr, h6⟩ => ?_
   subst hr
   refine thn h6 fun _ s7 ⟨x, H7, I7, r7, y7, st7, fr7⟩ => ?_
   have I7' := I7.pinned (fpc fr7 (by simp)) (T.obj _ _ st7)
   have again : ∀ {σ8 : St} {H8 : Hp} {s8 : Shared}, Inv XC ([] ++ Sg fp s7.heap) σ8 H8 s8 -> (∃ acc', H8 D = some (.lst acc') /\ ∃ m', m' < n /\ W (i + 1) m' acc' σ8 H8) ->
     ∃ m, m < n /\ ∃ i acc σ' H', Inv XC [] σ' H' s8 /\ tn i s8.heap /\ (∀ b ∈ fp, H' b = Option.none) /\ H' D = some (.lst acc) /\ W i m acc σ' H' := fun {σ8 H8 s8} I8 ⟨acc', hA', m', hm, w8⟩ => by
    refine ⟨m', hm, i + 1, acc', σ8, H8, I8.unpinned, T.keep _ _ _ st7 fun b hb o e => (I8.pin (b, o) (List.mem_append_right _ (List.mem_append_right _ (Ji hb e)))).1, fun b hb => ?_, hA', w8⟩
    obtain ⟨o, e, d⟩ := T.obj _ _ st7 b hb
    exact (I8.pin (b, o) (List.mem_append_right _ (List.mem_append_right _ (Ji hb e)))).2.1
   refine thn (hg s3 _ fp _ _ s7 σ5 H7 x u _ I7' r7 (step x H7 y7)) fun _ s8 ⟨σ8, H8, I8, q8⟩ => ?_
   refine thn (ht s3 _ fp _ _ s8 σ8 H8 _ I8 q8) fun b s9 ⟨H9, I9, q9⟩ => ?_
   cases b with
   | false =>
    rw [if_neg Bool.false_ne_true] at q9 ⊢
    obtain ⟨m', hm, acc', hA', w9⟩ := q9
    exact again I9 ⟨acc', hA', m', hm, w9⟩
   | true =>
    rw [if_pos rfl] at q9 ⊢
    refine thn (he s3 _ fp _ _ s9 σ8 H9 _ I9 q9) fun v s10 ⟨y, H10, I10, r10, acc', hA', hz, m', hm, w10⟩ => ?_
    refine thn (Ja (X := XC) _ s10 σ8 H10 (.ref D) [y] (.ref D) [v] (fun _ Hz => Hz = upd H10 D (.lst (acc' ++ [y]))) I10 rfl (.cons r10 .nil) ⟨D, acc', y, rfl, rfl, hA', hz, rfl⟩) fun _ s11 ⟨_, H11, I11, _, e11⟩ => ?_
    subst e11
    exact again I11 ⟨acc' ++ [y], Ae, m', hm, w10⟩
 exact codeAny_compStart_list (loop _ rfl) (T.self _ 0 _ _ _ st4 (loop _ rfl))
theorem Eh (hc : X.calm = true) (C : CompOk X iter scope N' cap) (hi : PI X tg iter wi)
  (hg : ∀ s H fp xe, PG (cxC X N' scope s H fp xe) tg g) (ht : ∀ s H fp xe, PTs (cxC X N' scope s H fp xe) ifs tt) (he : ∀ s H fp xe, PE (cxC X N' scope s H fp xe) elt te) :
  PE X (.ListComp elt [⟨tg, iter, ifs, 0⟩] scope pos) (adq cap wi g tt te) := by
 intro pins s σ H Q I h
 rw [eval_ListComp]
 refine wpAny_comprehension_free (use := none) rfl C.fold C.clos C.kind C.names (thn (hi pins s σ H _ I h) fun v s1 h1 => thn h1 fun itv s2 h2 => ?_)
 obtain ⟨it, fp, tn, J, H2, e, I2, T, st2, f2, hw⟩ := h2
 subst e
 refine Yz (R := fun acc Cl => compPost (model X.prog X.w) X.A X.xe none (EP X pins σ Q) acc Cl) hc C hg ht he I2 T st2 f2 ?_ hw
 intro D Cl H' s' I' ⟨m, hn⟩ hf h1 h2 h3 h4 q
 exact ⟨m, hn, fun h' hs' => ⟨.ref D, H', I'.turned (t' := s'.toks) (fun b o hb e => (hs'.2 b hb).trans e) hf h1 (.inr h2) h3 h4, rfl, q⟩⟩
end
end L2
namespace L2
open PySem PySem.Spec PyProof.Rows
section
variable {X : Cx} {a b c : Expr} {ta tb tc : TE} {pos : Pos}
def CMulB (i j : Int) : Prop := i.natAbs < 2 ^ 2000 /\ j.natAbs < 2 ^ 2000
theorem CMulB.ok {i j : Int} (h : CMulB i j) : IntMulOk i j :=
 IntMulOk.of_bits (Nat.le_trans (intBits_le h.1) (by decide)) (Nat.le_trans (intBits_le h.2) (by decide))
def abI (_ j : Int) : Prop := 0 < j /\ j.natAbs < 2 ^ 2000
theorem Ft : OpR X (binaryOp .FloorDiv) (rI abI fun i j => .int (i / j)) := opI fun i j _ _ _ _ _ hc q => by
 have h1 : (0 : Int) < j := hc.1
 have h0 : j.natAbs ≠ 0 := by omega
 have h2 : j.natAbs.log2 < 2000 := (Nat.log2_lt h0).mpr hc.2
 exact floordiv_int (by omega) (by rw [Int.fdiv_eq_ediv_of_nonneg i (by omega)]; exact q) (.inl (PyProof.noPylong_of_log2 (by omega)))
theorem Xh (hc : X.calm = true) : DQ X (.builtin "sum") (fun xs H Q => ∃ (a : Addr) (ns : List Int), xs = [.ref a] /\ SqL X.K H a (ns.map V.int) /\ Q (.int ns.sum) H) := by
 intro pins s σ H xs us Q I r h
 obtain ⟨a, ns, rfl, hq, q⟩ := h
 obtain ⟨u, rfl, r1⟩ := vals1 r
 cases r1
 obtain ⟨its, rv, pl, hz⟩ := I.list hq
 have hi : IntsAre its ns := intsAre_of rv
 obtain ⟨xs, e⟩ := hi.allInts.items
 have hl := pl.isList
 rw [e] at hl
 refine sum_intListG (I.ok.hd hc) hl fun h' tk t' hk => ?_
 have e1 : its = (intItems xs).toList := by rw [<- e]
 have e2 : xs.toList.map (·.1) = ns := by rw [<- nums_intItems, <- e1, hi.numsOf]
 have es : preSum (numAt xs) xs.size = ns.sum := by rw [preSum_eq, List.take_of_length_le (by simp), e2]
 rw [es]
 exact ⟨.int ns.sum, H, I.kept hk, ⟨_, rfl⟩, q⟩
theorem Wy {pins : List (Addr × Obj)} {σ : St} {H : Hp} {s : Shared} {l : Addr} {bs : List Bool} (I : Inv X pins σ H s) (hq : SqL X.K H l (bs.map V.bl)) :
  ∃ its : List Value, its.length = bs.length /\ s.heap.IsList l its.toArray /\ l ≠ s.heap.objs.size /\ ∀ (i : Nat) (v : Value), its.toArray[i]? = some v -> v = .bool (bs.getD i false) := by
 obtain ⟨its, rv, pl, hz⟩ := I.list hq
 refine ⟨its, by rw [<- rv.length, List.length_map], pl.isList, ?_, fun i v e => ?_⟩
 ·obtain ⟨o, n, e, _⟩ := pl
  exact Nat.ne_of_lt (Heap.lt_size e)
 ·have e' : its[i]? = some v := by simpa using e
  have hi : i < its.length := (List.getElem?_eq_some_iff.mp e').1
  have hb : i < bs.length := by have := rv.length; rw [List.length_map] at this; omega
  obtain ⟨u, hu, ru⟩ := rv.get (i := i) (x := .bl bs[i]) (by simp [hb])
  rw [e'] at hu
  cases hu
  have : v = Value.bool bs[i] := ru
  rw [this]
  simp [List.getD, hb]
theorem range_all (bs : List Bool) : (List.range bs.length).all (fun i => bs.getD i false) = bs.all id := by
 rw [Bool.eq_iff_iff]
 simp only [List.all_eq_true, List.mem_range, id]
 constructor
 ·intro h x hx
  obtain ⟨i, hi, rfl⟩ := List.mem_iff_getElem.mp hx
  simpa [List.getD, hi] using h i hi
 ·intro h i hi
  have := h bs[i] (List.getElem_mem hi)
  simpa [List.getD, hi] using this
theorem Xn (hc : X.calm = true) : DQ X (.builtin "all") (fun xs H Q => ∃ (a : Addr) (bs : List Bool), xs = [.ref a] /\ SqL X.K H a (bs.map V.bl) /\ Q (.bl (bs.all id)) H) := by
 intro pins s σ H xs us Q I r h
 obtain ⟨a, bs, rfl, hq, q⟩ := h
 obtain ⟨u, rfl, r1⟩ := vals1 r
 cases r1
 obtain ⟨its, hlen, hl, hne, hit⟩ := Wy I hq
 refine call_all_walk (wpAny_pyIter_list hl ?_)
 refine ⟨s.heap.objs.size, _, _, _, _, _, fun i => bs.getD i false, rfl, Walks.list (A := X.A.in1) (I.ok.hd hc) s.heap.objs.size a hne its.toArray, ⟨⟨_, Heap.get?_push_size _ rfl, rfl, rfl⟩, hl.at fun o e => Heap.get?_push_of_some _ e⟩, fun i v s' Q' E' e hQ => ?_, fun h' tk hk => ?_⟩
 ·rw [hit i v e]
  exact wpAny_truthy_bool hQ
 ·have e : (List.range its.toArray.size).all (fun i => bs.getD i false) = bs.all id := by rw [List.size_toArray, hlen]; exact range_all bs
  rw [e]
  refine ⟨.bl (bs.all id), H, I.kept fun b o e => hk b o ?_ (Heap.get?_push_of_some _ e), rfl, q⟩
  intro z
  have z' : b = s.heap.objs.size := by simpa using z
  rw [z'] at e
  exact absurd (Heap.lt_size e) (Nat.lt_irrefl _)
end
end L2
namespace L2
open PySem PySem.Spec PyProof.Rows
section
variable {X : Cx} {a b c : Expr} {ta tb tc : TE} {pos : Pos}
def CMulU (i j : Int) : Prop := CMul i j \/ CMulB i j
theorem Dp : OpR X (binaryOp .Mult) (rI CMulU fun i j => .int (i * j)) := opI fun _ _ _ _ _ _ _ hc q => mul_int q (hc.elim (fun h => h.ok) fun h => h.ok)
theorem CMulU.l {i j : Int} (h1 : -(2 ^ 64) < i) (h2 : i < 2 ^ 64) : CMulU i j := .inl (.inl ⟨h1, h2⟩)
theorem CMulU.r {i j : Int} (h1 : -(2 ^ 64) < j) (h2 : j < 2 ^ 64) : CMulU i j := .inl (.inr ⟨h1, h2⟩)
theorem CMulU.big {i j : Int} (h1 : i.natAbs < 2 ^ 2000) (h2 : j.natAbs < 2 ^ 2000) : CMulU i j := .inr ⟨h1, h2⟩
theorem SJ : DQ X (.builtin "isinstance") (fun xs H Q => ∃ x n t k, xs = [x, .ty n] /\ TyOf X.K H x t /\ PySem.W.kitOne X.K t (.type n) = some k /\ Q (.bl k) H) := by
 intro pins s σ H xs us Q I r h
 obtain ⟨x, n, t, k, rfl, ty, e, q⟩ := h
 obtain ⟨u, w', rfl, rx, rc⟩ := vals2 r
 cases rc
 exact Sw I rx ty e fun tk => ⟨.bl k, H, I.tok _, rfl, q⟩
theorem Ss : DQ X (.builtin "isinstance") (fun xs H Q => ∃ x C t k, xs = [x, .ref C] /\ TyOf X.K H x t /\ PySem.W.kitOne X.K t (.ref C) = some k /\ Q (.bl k) H) := by
 intro pins s σ H xs us Q I r h
 obtain ⟨x, C, t, k, rfl, ty, e, q⟩ := h
 obtain ⟨u, w', rfl, rx, rc⟩ := vals2 r
 cases rc
 exact Sw I rx ty e fun tk => ⟨.bl k, H, I.tok _, rfl, q⟩
theorem WD {x : Str} (T : String) (hg : Gl X x) (hm : X.mg x = none) (hv : bootBuiltins x = some (.type T)) (hn : x ≠ "__name__" := by decide) (hd : (x == ("__debug__" : Str)) = false := by decide) : PE X (.Name x pos) (tC (.ty T)) := abT hg hm hv rfl hn hd
end
section
variable {D : Ends} {σ : St} {H : Hp} {t u : TS} {te ta tb tc : TE} {tt tu : TT} {Q : VK} {QB : Bool -> Hp -> Prop} {QA : List V -> Hp -> Prop} {QG : St -> Hp -> Prop} {v x y : V} {vs : List V} {i j : Nat} {g : TG} {gs : TGs} {A : TA} {K : Fg_}
theorem ap_seq : acD t u D σ H = t { D with nx := u D } σ H := rfl
theorem ap_next : adn D σ H = D.nx σ H := rfl
theorem ap_asg : aec te g D σ H = te σ H fun x H1 => g x σ H1 D.nx := rfl
theorem ap_name : XH i v σ H QG = QG (σ.set i (some v)) H := rfl
theorem ap_var : acj i σ H Q = ∃ v, σ[i]? = some (some v) /\ Q v H := rfl
theorem ap_c : tC v σ H Q = Q v H := rfl
theorem ap_op {r : R2} : tOp r ta tb σ H Q = ta σ H fun x H1 => tb σ H1 fun y H2 => r x y H2 Q := rfl
theorem ap_un {r : V -> Hp -> VK -> Prop} : tUn r ta σ H Q = ta σ H fun x H1 => r x H1 Q := rfl
theorem ap_rI {C : Int -> Int -> Prop} {f : Int -> Int -> V} : rI C f x y H Q = ∃ i j, x = .int i /\ y = .int j /\ C i j /\ Q (f i j) H := rfl
theorem ap_rI0 {f : Int -> Int -> V} : rI0 f x y H Q = ∃ i j, x = .int i /\ y = .int j /\ Q (f i j) H := rfl
theorem ap_rU {f : Int -> V} : rU f x H Q = ∃ i, x = .int i /\ Q (f i) H := rfl
theorem ap_rEq : rEq x y H Q = (abl x y = true /\ Q (.bl (decide (x = y))) H) := rfl
theorem ap_rNe : rNe x y H Q = (abl x y = true /\ Q (.bl (!decide (x = y))) H) := rfl
theorem ap_ret : aez te D σ H = te σ H D.rt := rfl
theorem ap_retN : adz D σ H = D.rt .non H := rfl
theorem ap_drop : aby te D σ H = te σ H fun _ H1 => D.nx σ H1 := rfl
theorem ap_if : adA tt t u D σ H = tt σ H fun b H1 => if b = true then t D σ H1 else u D σ H1 := rfl
theorem ap_test : acI te σ H QB = te σ H fun x H' => ∃ k, x = .bl k /\ QB k H' := rfl
theorem ap_tB : tB te σ H QB = te σ H fun x H1 => ∃ c, x = .bl c /\ QB c H1 := rfl
theorem ap_and : aer tt tu σ H QB = tt σ H fun c H1 => if c = true then tu σ H1 QB else QB false H1 := rfl
theorem ap_or : tOr tt tu σ H QB = tt σ H fun c H1 => if c = true then QB true H1 else tu σ H1 QB := rfl
theorem ap_not : aeB tt σ H QB = tt σ H fun c H1 => QB (!c) H1 := rfl
theorem ap_andV : acK ta tb σ H Q = ta σ H fun x H1 => ∃ c, x = .bl c /\ if c = true then tb σ H1 Q else Q (.bl false) H1 := rfl
theorem ap_notV : adk ta σ H Q = ta σ H fun x H1 => ∃ c, x = .bl c /\ Q (.bl (!c)) H1 := rfl
theorem ap_ifE : tIf tt ta tb σ H Q = tt σ H fun c H1 => if c = true then ta σ H1 Q else tb σ H1 Q := rfl
theorem ap_call {sp : Sp} {dvs : List V} {E : XK} : abR sp dvs E A σ H Q = A σ H fun vs H1 => sp (vs ++ dvs) H1 Q E := rfl
theorem ap_nil : Vf σ H QA = QA [] H := rfl
theorem ap_cons : Dt ta A σ H QA = ta σ H fun x H1 => A σ H1 fun xs H2 => QA (x :: xs) H2 := rfl
theorem ap_cb {r : List V -> Hp -> VK -> Prop} : tCB r A σ H Q = A σ H fun vs H1 => r vs H1 Q := rfl
theorem ap_lst : aew A σ H Q = A σ H fun xs H1 => xs.length <= sizeLine /\ ∀ p, H1 p = none -> Q (.ref p) (upd H1 p (.lst xs)) := rfl
theorem ap_tup : aaE A σ H Q = A σ H fun xs H1 => xs.length <= sizeLine /\ ∀ p, H1 p = none -> Q (.ref p) (upd H1 p (.tup xs)) := rfl
theorem ap_chain {r r' : R2} : aaX r r' ta tb tc σ H Q = ta σ H fun x H1 => tb σ H1 fun y H2 => r x y H2 fun z H3 => ∃ k, z = .bl k /\ (if k = true then tc σ H3 fun w' H4 => r' y w' H4 Q else Q (.bl false) H3) := rfl
theorem ap_sl {r : V -> Option Int -> Option Int -> Hp -> VK -> Prop} {tl th : TO} : tSl r te tl th σ H Q = te σ H fun x H1 => tl σ H1 fun l H2 => th σ H2 fun u H3 => r x l u H3 Q := rfl
theorem ap_noPart {QO : Option Int -> Hp -> Prop} : Yx σ H QO = QO none H := rfl
theorem ap_part {QO : Option Int -> Hp -> Prop} : acr te σ H QO = te σ H fun x H1 => ∃ i, x = .int i /\ QO (some i) H1 := rfl
theorem ap_gNil : aes vs σ H QG = (vs = [] /\ QG σ H) := rfl
theorem ap_gCons {u : TGs} : acW g u vs σ H QG = ∃ v r, vs = v :: r /\ g v σ H fun σ' H' => u r σ' H' QG := rfl
theorem ap_gTup {n : Nat} : adR K n gs v σ H QG = ∃ a xs, v = .ref a /\ SqT K H a xs /\ xs.length = n /\ gs xs σ H QG := rfl
theorem ap_bm {T : String} {r : V -> List V -> Hp -> VK -> Prop} : tBM K T r te A σ H Q = te σ H fun x H1 => tyV K T x H1 /\ A σ H1 fun xs H2 => r x xs H2 Q := rfl
theorem ap_bm0 {T : String} {r : V -> List V -> Hp -> VK -> Prop} : aea K T r te σ H Q = te σ H fun x H1 => tyV K T x H1 /\ r x [] H1 Q := rfl
theorem ap_ixL {x y : V} : adV K x y H Q = ∃ p xs i v, x = .ref p /\ y = .int i /\ SqL K H p xs /\ atI xs i = some v /\ Q v H := rfl
theorem ap_slL {lo hi : Option Int} : adX K x lo hi H Q = ∃ a xs, x = .ref a /\ SqL K H a xs /\ ∀ p, H p = none -> Q (.ref p) (upd H p (.lst (Xf xs lo hi))) := rfl
theorem scal_int (i j : Int) : abl (.int i) (.int j) = true := rfl
theorem scal_str (i j : Str) : abl (.str i) (.str j) = true := rfl
theorem scal_bl (i j : Bool) : abl (.bl i) (.bl j) = true := rfl
theorem start_eq (N : List Str) (vs : List V) : start N vs = vs.map some ++ List.replicate (N.length - vs.length) none := rfl
end
end L2
namespace L2
open PySem PySem.Spec PyProof.Rows
theorem Kr {α : Type} (l : List α) : l.filter (fun _ => true) = l := by simp
theorem Same.upd {H H' : Hp} {a : Addr} {o : HO} (h : Same H H') (hn : H a = Option.none) : Same H (upd H' a o) := fun b u e => by
 rw [Aj (Bo e hn)]
 exact h b u e
theorem Same.new {H : Hp} {a : Addr} {o : HO} (hn : H a = Option.none) : Same H (L2.upd H a o) := Same.upd (Same.refl H) hn
section
variable {K : Fg_} {a D : Addr} {xs : List V} {g : TG} {tt : TT} {te : TE} {σ0 : St} {H1 : Hp} {Q : VK}
theorem Ph {xs : List V} (J : It) (Sσ : St -> Prop) (p : V -> Bool) (F : V -> V) (hD : H1 D = Option.none) (h0 : Sσ σ0) (hz : xs.length <= sizeLine)
  (hgo : ∀ (i : Nat) x H, xs[i]? = some x -> Same H1 H -> J.go i H /\ ∀ y H', J.yld i H y H' -> y = x /\ H' = H) (hstop : ∀ H, Same H1 H -> J.stop xs.length H)
  (hs : ∀ x ∈ xs, ∀ (σ : St) (H : Hp) (R1 : St -> VK) (R2 : St -> Hp -> Prop), Sσ σ -> Same H1 H -> (p x = true -> ∀ σ4 H6, Sσ σ4 -> Same H H6 -> R1 σ4 (F x) H6) -> (p x = false -> ∀ σ4 H6, Sσ σ4 -> Same H H6 -> R2 σ4 H6) ->
   g x σ H fun σ4 H4 => tt σ4 H4 fun b H5 => if b = true then te σ4 H5 (R1 σ4) else R2 σ4 H5)
  (k : ∀ H', Same H1 H' -> H' D = some (.lst ((xs.filter p).map F)) -> Q (.ref D) H') :
  ∃ W : Nat -> Nat -> List V -> St -> Hp -> Prop, (∃ m, W 0 m [] σ0 (upd H1 D (.lst []))) /\ ∀ i m acc σ1 H2, W i m acc σ1 H2 -> H2 D = some (.lst acc) ->
   (J.stop i H2 /\ Q (.ref D) H2) \/ (J.go i H2 /\ ∀ x H3, J.yld i H2 x H3 -> g x σ1 H3 fun σ4 H4 => tt σ4 H4 fun b H5 =>
    if b = true then te σ4 H5 fun v H6 => ∃ acc', H6 D = some (.lst acc') /\ acc'.length < sizeLine /\ ∃ m', m' < m /\ W (i + 1) m' (acc' ++ [v]) σ4 (upd H6 D (.lst (acc' ++ [v])))
    else ∃ m', m' < m /\ ∃ acc', H5 D = some (.lst acc') /\ W (i + 1) m' acc' σ4 H5) := by
 refine ⟨fun i m acc σ H => m = xs.length - i /\ i <= xs.length /\ Sσ σ /\ Same H1 H /\ acc = ((xs.take i).filter p).map F, ⟨xs.length, rfl, Nat.zero_le _, h0, Same.new hD, by simp⟩, ?_⟩
 rintro i m acc σ H ⟨rfl, hi, hσ, sm, rfl⟩ hA
 by_cases hlt : i < xs.length
 ·have hx : xs[i]? = some xs[i] := by simp [hlt]
  obtain ⟨go, yl⟩ := hgo i xs[i] H hx sm
  refine .inr ⟨go, fun y H' hy => ?_⟩
  obtain ⟨rfl, rfl⟩ := yl y H' hy
  have htake : xs.take (i + 1) = xs.take i ++ [xs[i]] := by rw [List.take_add_one, hx]; rfl
  have hlen : (((xs.take i).filter p).map F).length <= i := by
   rw [List.length_map]
   exact Nat.le_trans (List.length_filter_le _ _) (by rw [List.length_take]; exact Nat.min_le_left _ _)
  refine hs xs[i] (List.getElem_mem hlt) σ H' _ _ hσ sm (fun hp σ4 H6 hσ4 s6 => ?_) (fun hp σ4 H6 hσ4 s6 => ?_)
  ·refine ⟨_, s6 _ _ hA, by omega, xs.length - (i + 1), by omega, rfl, hlt, hσ4, (sm.trans s6).upd hD, ?_⟩
   rw [htake, List.filter_append, List.map_append]
   simp [hp]
  ·refine ⟨xs.length - (i + 1), by omega, _, s6 _ _ hA, rfl, hlt, hσ4, sm.trans s6, ?_⟩
   rw [htake, List.filter_append, List.map_append]
   simp [hp]
 ·have e : i = xs.length := by omega
  subst e
  refine .inl ⟨hstop H sm, k H sm ?_⟩
  rw [hA, List.take_length]
theorem XJ (Sσ : St -> Prop) (p : V -> Bool) (F : V -> V) (hS : SqL K H1 a xs) (hD : H1 D = Option.none) (h0 : Sσ σ0) (hz : xs.length <= sizeLine)
  (hs : ∀ x ∈ xs, ∀ (σ : St) (H : Hp) (R1 : St -> VK) (R2 : St -> Hp -> Prop), Sσ σ -> Same H1 H -> (p x = true -> ∀ σ4 H6, Sσ σ4 -> Same H H6 -> R1 σ4 (F x) H6) -> (p x = false -> ∀ σ4 H6, Sσ σ4 -> Same H H6 -> R2 σ4 H6) ->
   g x σ H fun σ4 H4 => tt σ4 H4 fun b H5 => if b = true then te σ4 H5 (R1 σ4) else R2 σ4 H5)
  (k : ∀ H', Same H1 H' -> H' D = some (.lst ((xs.filter p).map F)) -> Q (.ref D) H') :
  ∃ W : Nat -> Nat -> List V -> St -> Hp -> Prop, (∃ m, W 0 m [] σ0 (upd H1 D (.lst []))) /\ ∀ i m acc σ1 H2, W i m acc σ1 H2 -> H2 D = some (.lst acc) ->
   ((Itl K a).stop i H2 /\ Q (.ref D) H2) \/ ((Itl K a).go i H2 /\ ∀ x H3, (Itl K a).yld i H2 x H3 -> g x σ1 H3 fun σ4 H4 => tt σ4 H4 fun b H5 =>
    if b = true then te σ4 H5 fun v H6 => ∃ acc', H6 D = some (.lst acc') /\ acc'.length < sizeLine /\ ∃ m', m' < m /\ W (i + 1) m' (acc' ++ [v]) σ4 (upd H6 D (.lst (acc' ++ [v])))
    else ∃ m', m' < m /\ ∃ acc', H5 D = some (.lst acc') /\ W (i + 1) m' acc' σ4 H5) :=
 Ph (Itl K a) Sσ p F hD h0 hz (fun i x H hx sm => ⟨⟨xs, x, sm.seq hS, hx⟩, fun y H' hy => ⟨Option.some.inj ((hy.2 xs (sm.seq hS)).symm.trans hx), hy.1⟩⟩) (fun H sm => ⟨xs, sm.seq hS, Nat.le_refl _⟩) hs k
theorem Xe {lo : Int} {n : Nat} (Sσ : St -> Prop) (p : V -> Bool) (F : V -> V) (hD : H1 D = Option.none) (h0 : Sσ σ0) (hz : n <= sizeLine)
  (hs : ∀ i : Nat, i < n -> ∀ (σ : St) (H : Hp) (R1 : St -> VK) (R2 : St -> Hp -> Prop), Sσ σ -> Same H1 H -> (p (.int (lo + i)) = true -> ∀ σ4 H6, Sσ σ4 -> Same H H6 -> R1 σ4 (F (.int (lo + i))) H6) -> (p (.int (lo + i)) = false -> ∀ σ4 H6, Sσ σ4 -> Same H H6 -> R2 σ4 H6) ->
   g (.int (lo + i)) σ H fun σ4 H4 => tt σ4 H4 fun b H5 => if b = true then te σ4 H5 (R1 σ4) else R2 σ4 H5)
  (k : ∀ H', Same H1 H' -> H' D = some (.lst ((((List.range n).map fun (i : Nat) => V.int (lo + i)).filter p).map F)) -> Q (.ref D) H') :
  ∃ W : Nat -> Nat -> List V -> St -> Hp -> Prop, (∃ m, W 0 m [] σ0 (upd H1 D (.lst []))) /\ ∀ i m acc σ1 H2, W i m acc σ1 H2 -> H2 D = some (.lst acc) ->
   ((Itr lo n).stop i H2 /\ Q (.ref D) H2) \/ ((Itr lo n).go i H2 /\ ∀ x H3, (Itr lo n).yld i H2 x H3 -> g x σ1 H3 fun σ4 H4 => tt σ4 H4 fun b H5 =>
    if b = true then te σ4 H5 fun v H6 => ∃ acc', H6 D = some (.lst acc') /\ acc'.length < sizeLine /\ ∃ m', m' < m /\ W (i + 1) m' (acc' ++ [v]) σ4 (upd H6 D (.lst (acc' ++ [v])))
    else ∃ m', m' < m /\ ∃ acc', H5 D = some (.lst acc') /\ W (i + 1) m' acc' σ4 H5) := by
 refine Ph (xs := (List.range n).map fun (i : Nat) => V.int (lo + i)) (Itr lo n) Sσ p F hD h0 (by simpa using hz) (fun i x H hx sm => ?_) (fun H sm => ?_) (fun x hx σ H R1 R2 h1 h2 h3 h4 => ?_) k
 ·have hi : i < n := by simpa using (List.getElem?_eq_some_iff.mp hx).1
  have e : x = .int (lo + i) := by
   rw [List.getElem?_map, List.getElem?_range hi] at hx
   exact (Option.some.inj hx).symm
  exact ⟨hi, fun y H' hy => ⟨hy.2.trans e.symm, hy.1⟩⟩
 ·show n <= _
  simp
 ·obtain ⟨i, hi, rfl⟩ := List.mem_map.mp hx
  exact hs i (List.mem_range.mp hi) σ H R1 R2 h1 h2 h3 h4
end
end L2
namespace L2
open PySem PySem.Spec PyProof.Rows
inductive DV where
 | non | bl (b : Bool) | int (i : Int) | str (x : Str) | lst (xs : List DV) | tup (xs : List DV)
mutual
inductive RepD (K : Fg_) (H : Hp) : V -> DV -> Prop
 | non : RepD K H .non .non
 | bl (b : Bool) : RepD K H (.bl b) (.bl b)
 | int (i : Int) : RepD K H (.int i) (.int i)
 | str (x : Str) : RepD K H (.str x) (.str x)
 | lst {a : Addr} {vs : List V} {ds : List DV} (h : SqL K H a vs) (hs : RepsD K H vs ds) : RepD K H (.ref a) (.lst ds)
 | tup {a : Addr} {vs : List V} {ds : List DV} (h : SqT K H a vs) (hs : RepsD K H vs ds) : RepD K H (.ref a) (.tup ds)
inductive RepsD (K : Fg_) (H : Hp) : List V -> List DV -> Prop
 | nil : RepsD K H [] []
 | cons {v : V} {d : DV} {vs : List V} {ds : List DV} (h : RepD K H v d) (hs : RepsD K H vs ds) : RepsD K H (v :: vs) (d :: ds)
end
mutual
def Ca : DV -> DV -> Bool
 | .non, .non => true
 | .bl a, .bl b => a == b
 | .int a, .int b => a == b
 | .bl a, .int b => (if a then 1 else 0) == b
 | .int a, .bl b => a == (if b then 1 else 0)
 | .str a, .str b => a == b
 | .lst xs, .lst ys => JV xs ys
 | .tup xs, .tup ys => JV xs ys
 | _, _ => false
def JV : List DV -> List DV -> Bool
 | [], [] => true
 | x :: xs, y :: ys => Ca x y && JV xs ys
 | _, _ => false
end
mutual
def GX : DV -> Nat
 | .lst xs => Ef xs + 1
 | .tup xs => Ef xs + 1
 | _ => 0
def Ef : List DV -> Nat
 | [] => 0
 | x :: xs => max (GX x) (Ef xs)
end
theorem RepsD.length {K : Fg_} {H : Hp} : ∀ {vs : List V} {ds : List DV}, RepsD K H vs ds -> vs.length = ds.length
 | _, _, .nil => rfl
 | _, _, .cons _ hs => congrArg (· + 1) (RepsD.length hs)
theorem RepsD.get {K : Fg_} {H : Hp} : ∀ {vs : List V} {ds : List DV} {j : Nat} {v : V} {d : DV}, RepsD K H vs ds -> vs[j]? = some v -> ds[j]? = some d -> RepD K H v d
 | _, _, _, _, _, .nil, h, _ => by simp at h
 | _, _, 0, _, _, .cons h _, e1, e2 => by simp at e1 e2; subst e1 e2; exact h
 | _, _, j + 1, _, _, .cons _ hs, e1, e2 => RepsD.get (j := j) hs (by simpa using e1) (by simpa using e2)
theorem Tz : ∀ {ds : List DV} {j : Nat} {d : DV}, ds[j]? = some d -> GX d <= Ef ds
 | [], _, _, h => by simp at h
 | x :: xs, 0, d, h => by simp at h; subst h; unfold Ef; exact Nat.le_max_left _ _
 | x :: xs, j + 1, d, h => by unfold Ef; exact Nat.le_trans (Tz (j := j) (by simpa using h)) (Nat.le_max_right _ _)
theorem FN : ∀ (xs ys : List DV), xs.length = ys.length -> JV xs ys = (List.range xs.length).all fun j => Ca (xs.getD j .non) (ys.getD j .non)
 | [], [], _ => rfl
 | x :: xs, y :: ys, h => by
  unfold JV
  rw [FN xs ys (by simpa using h), List.length_cons, List.range_succ_eq_map, List.all_cons, List.all_map]
  rfl
 | [], _ :: _, h => by simp at h
 | _ :: _, [], h => by simp at h
theorem Fz : ∀ (xs ys : List DV), xs.length ≠ ys.length -> JV xs ys = false
 | [], [], h => absurd rfl h
 | x :: xs, y :: ys, h => by
  unfold JV
  rw [Fz xs ys (by simpa using h), Bool.and_false]
 | [], _ :: _, _ => by unfold JV; rfl
 | _ :: _, [], _ => by unfold JV; rfl
theorem Vm (xs ys : List DV) : Ca (.lst xs) (.lst ys) = JV xs ys := by unfold Ca; rfl
theorem VR (xs ys : List DV) : Ca (.tup xs) (.tup ys) = JV xs ys := by unfold Ca; rfl
mutual
theorem Hg : ∀ d : DV, Ca d d = true
 | .non => by unfold Ca; rfl
 | .bl a => by unfold Ca; simp
 | .int a => by unfold Ca; simp
 | .str a => by unfold Ca; simp
 | .lst xs => by unfold Ca; exact GZ xs
 | .tup xs => by unfold Ca; exact GZ xs
theorem GZ : ∀ ds : List DV, JV ds ds = true
 | [] => by unfold JV; rfl
 | x :: xs => by unfold JV; rw [Hg x, GZ xs]; rfl
end
section
variable {X : Cx} {pins : List (Addr × Obj)} {σ : St} {H : Hp} {s : Shared}
theorem Inv.noboth (I : Inv X pins σ H s) {a : Addr} {xs ys : List V} (h : SqL X.K H a xs) (h' : SqT X.K H a ys) : False := by
 obtain ⟨its, r, ⟨o, n, e, c, _⟩, _⟩ := I.list h
 obtain ⟨its', r', ⟨o', e', c', _⟩, _⟩ := I.tuple h'
 rw [e] at e'; cases e'
 rw [c] at c'
 exact absurd c' (by decide)
mutual
theorem RepD.inj (I : Inv X pins σ H s) : ∀ {v : V} {d d' : DV}, RepD X.K H v d -> RepD X.K H v d' -> d = d'
 | _, _, _, .non, .non => rfl
 | _, _, _, .bl _, .bl _ => rfl
 | _, _, _, .int _, .int _ => rfl
 | _, _, _, .str _, .str _ => rfl
 | _, _, _, .lst h hs, .lst h' hs' => by
  have e := I.list_inj h h'
  subst e
  rw [RepsD.inj I hs hs']
 | _, _, _, .tup h hs, .tup h' hs' => by
  have e := I.tuple_inj h h'
  subst e
  rw [RepsD.inj I hs hs']
 | _, _, _, .lst h _, .tup h' _ => (I.noboth h h').elim
 | _, _, _, .tup h _, .lst h' _ => (I.noboth h' h).elim
theorem RepsD.inj (I : Inv X pins σ H s) : ∀ {vs : List V} {ds ds' : List DV}, RepsD X.K H vs ds -> RepsD X.K H vs ds' -> ds = ds'
 | _, _, _, .nil, .nil => rfl
 | _, _, _, .cons h hs, .cons h' hs' => by rw [RepD.inj I h h', RepsD.inj I hs hs']
end
theorem in1_units (A : Around) : A.in1.units = A.units + 1 := rfl
theorem GK (I : Inv X pins σ H s) {A : Around} {d1 d2 : DV} {v1 v2 : V} {u1 u2 : Value} (hd : GX d1 <= 0) (hu' : A.units < cLine) (h1 : RepD X.K H v1 d1) (h2 : RepD X.K H v2 d2) (r1 : RelV v1 u1) (r2 : RelV v2 u2) : SeqAt.EqAt A s u1 u2 (Ca d1 d2) := by
 cases h1 with
 | lst h hs => unfold GX at hd; omega
 | tup h hs => unfold GX at hd; omega
 | non =>
  cases (show u1 = Value.none from r1)
  cases h2 with
  | non => cases (show u2 = Value.none from r2); unfold Ca; exact SeqAt.EqAt.same _
  | bl b => cases (show u2 = Value.bool b from r2); unfold Ca; exact SeqAt.EqAt.none_bool b
  | int i => obtain ⟨t, e⟩ := (show ∃ t, u2 = Value.int i t from r2); subst e; unfold Ca; exact SeqAt.EqAt.none_int i t
  | str x => obtain ⟨t, e⟩ := (show ∃ t, u2 = Value.str x t from r2); subst e; unfold Ca; exact SeqAt.EqAt.none_str x t
  | lst h hs => obtain ⟨its, _, p, _⟩ := I.list h; cases r2; unfold Ca; exact SeqAt.EqAt.none_list p.isList hu'
  | tup h hs => obtain ⟨its, _, p, _⟩ := I.tuple h; cases r2; unfold Ca; exact SeqAt.EqAt.none_tuple p hu'
 | bl a =>
  cases (show u1 = Value.bool a from r1)
  cases h2 with
  | non => cases (show u2 = Value.none from r2); unfold Ca; exact SeqAt.EqAt.bool_none a
  | bl b => cases (show u2 = Value.bool b from r2); unfold Ca; exact SeqAt.EqAt.bool_bool a b
  | int i => obtain ⟨t, e⟩ := (show ∃ t, u2 = Value.int i t from r2); subst e; unfold Ca; exact SeqAt.EqAt.bool_int a i t
  | str x => obtain ⟨t, e⟩ := (show ∃ t, u2 = Value.str x t from r2); subst e; unfold Ca; exact SeqAt.EqAt.bool_str a x t
  | lst h hs => obtain ⟨its, _, p, _⟩ := I.list h; cases r2; unfold Ca; exact SeqAt.EqAt.bool_list a p.isList hu'
  | tup h hs => obtain ⟨its, _, p, _⟩ := I.tuple h; cases r2; unfold Ca; exact SeqAt.EqAt.bool_tuple a p hu'
 | int a =>
  obtain ⟨t1, e1⟩ := (show ∃ t, u1 = Value.int a t from r1); subst e1
  cases h2 with
  | non => cases (show u2 = Value.none from r2); unfold Ca; exact SeqAt.EqAt.int_none a t1
  | bl b => cases (show u2 = Value.bool b from r2); unfold Ca; exact SeqAt.EqAt.int_bool a t1 b
  | int i => obtain ⟨t, e⟩ := (show ∃ t, u2 = Value.int i t from r2); subst e; unfold Ca; exact SeqAt.EqAt.int_int a t1 i t
  | str x => obtain ⟨t, e⟩ := (show ∃ t, u2 = Value.str x t from r2); subst e; unfold Ca; exact SeqAt.EqAt.int_str a t1 x t
  | lst h hs => obtain ⟨its, _, p, _⟩ := I.list h; cases r2; unfold Ca; exact SeqAt.EqAt.int_list a t1 p.isList hu'
  | tup h hs => obtain ⟨its, _, p, _⟩ := I.tuple h; cases r2; unfold Ca; exact SeqAt.EqAt.int_tuple a t1 p hu'
 | str a =>
  obtain ⟨t1, e1⟩ := (show ∃ t, u1 = Value.str a t from r1); subst e1
  cases h2 with
  | non => cases (show u2 = Value.none from r2); unfold Ca; exact SeqAt.EqAt.str_none a t1
  | bl b => cases (show u2 = Value.bool b from r2); unfold Ca; exact SeqAt.EqAt.str_bool a t1 b
  | int i => obtain ⟨t, e⟩ := (show ∃ t, u2 = Value.int i t from r2); subst e; unfold Ca; exact SeqAt.EqAt.str_int a t1 i t
  | str x => obtain ⟨t, e⟩ := (show ∃ t, u2 = Value.str x t from r2); subst e; unfold Ca; exact SeqAt.EqAt.str_str a t1 x t
  | lst h hs => obtain ⟨its, _, p, _⟩ := I.list h; cases r2; unfold Ca; exact SeqAt.EqAt.str_list a t1 p.isList hu'
  | tup h hs => obtain ⟨its, _, p, _⟩ := I.tuple h; cases r2; unfold Ca; exact SeqAt.EqAt.str_tuple a t1 p hu'
theorem Fx {A : Around} {vs1 vs2 : List V} {ds1 ds2 : List DV} {its1 its2 : List Value} (r1 : Vals vs1 its1) (r2 : Vals vs2 its2) (h1 : RepsD X.K H vs1 ds1) (h2 : RepsD X.K H vs2 ds2)
  (ih : ∀ (d1 d2 : DV) (v1 v2 : V) (u1 u2 : Value), GX d1 <= Ef ds1 -> RepD X.K H v1 d1 -> RepD X.K H v2 d2 -> RelV v1 u1 -> RelV v2 u2 -> SeqAt.EqAt A s u1 u2 (Ca d1 d2)) :
  ∀ (j : Nat) (a : j < its1.toArray.size) (b : j < its2.toArray.size), SeqAt.EqAt A s its1.toArray[j] its2.toArray[j] (Ca (ds1.getD j .non) (ds2.getD j .non)) := by
 intro j a b
 have l1 := r1.length
 have l2 := r2.length
 have m1 := h1.length
 have m2 := h2.length
 simp only [List.size_toArray] at a b
 have a1 : j < vs1.length := by omega
 have a2 : j < vs2.length := by omega
 have b1 : j < ds1.length := by omega
 have b2 : j < ds2.length := by omega
 obtain ⟨w1, e1, q1⟩ := r1.get (i := j) (x := vs1[j]) (by simp [a1])
 obtain ⟨w2, e2, q2⟩ := r2.get (i := j) (x := vs2[j]) (by simp [a2])
 have z1 : its1.toArray[j] = w1 := by simpa [a] using e1
 have z2 : its2.toArray[j] = w2 := by simpa [b] using e2
 have y1 : ds1.getD j .non = ds1[j] := by simp [List.getD, b1]
 have y2 : ds2.getD j .non = ds2[j] := by simp [List.getD, b2]
 rw [z1, z2, y1, y2]
 exact ih _ _ _ _ _ _ (Tz (j := j) (by simp [b1])) (h1.get (j := j) (by simp [a1]) (by simp [b1])) (h2.get (j := j) (by simp [a2]) (by simp [b2])) q1 q2
theorem Wa (I : Inv X pins σ H s) : ∀ (n : Nat) (A : Around) (d1 d2 : DV) (v1 v2 : V) (u1 u2 : Value), GX d1 <= n -> A.units + n < cLine -> RepD X.K H v1 d1 -> RepD X.K H v2 d2 -> RelV v1 u1 -> RelV v2 u2 -> SeqAt.EqAt A s u1 u2 (Ca d1 d2) := by
 intro n
 induction n with
 | zero => exact fun A d1 d2 v1 v2 u1 u2 hd hu h1 h2 r1 r2 => GK I hd (by omega) h1 h2 r1 r2
 | succ n ih =>
  intro A d1 d2 v1 v2 u1 u2 hd hu h1 h2 r1 r2
  have hu' : A.units < cLine := by omega
  have hin : A.in1.units + n < cLine := by rw [in1_units]; omega
  cases h1 with
  | non => exact GK I (by unfold GX; omega) hu' .non h2 r1 r2
  | bl a => exact GK I (by unfold GX; omega) hu' (.bl a) h2 r1 r2
  | int a => exact GK I (by unfold GX; omega) hu' (.int a) h2 r1 r2
  | str a => exact GK I (by unfold GX; omega) hu' (.str a) h2 r1 r2
  | @lst a vs ds h hs =>
   obtain ⟨its, rv, p, _⟩ := I.list h
   cases (show u1 = Value.ref a from r1)
   have hd' : Ef ds <= n := by unfold GX at hd; omega
   cases h2 with
   | non => cases (show u2 = Value.none from r2); unfold Ca; exact SeqAt.EqAt.list_none p.isList hu'
   | bl b => cases (show u2 = Value.bool b from r2); unfold Ca; exact SeqAt.EqAt.list_bool b p.isList hu'
   | int i => obtain ⟨t, e⟩ := (show ∃ t, u2 = Value.int i t from r2); subst e; unfold Ca; exact SeqAt.EqAt.list_int i t p.isList hu'
   | str x => obtain ⟨t, e⟩ := (show ∃ t, u2 = Value.str x t from r2); subst e; unfold Ca; exact SeqAt.EqAt.list_str x t p.isList hu'
   | @lst a2 vs2 ds2 h' hs' =>
    obtain ⟨its2, rv2, p2, _⟩ := I.list h'
    cases (show u2 = Value.ref a2 from r2)
    unfold Ca
    by_cases hne : a = a2
    ·subst hne
     have e := I.list_inj h h'
     subst e
     rw [RepsD.inj I hs hs', GZ]
     exact SeqAt.EqAt.same _
    ·have l1 := rv.length
     have l2 := rv2.length
     have m1 := hs.length
     have m2 := hs'.length
     by_cases hz : ds.length = ds2.length
     ·rw [FN _ _ hz]
      have := SeqAt.EqAt.of_refs hne (SeqAt.RcAt.lists (A := A) (e := fun j => Ca (ds.getD j .non) (ds2.getD j .non)) p.isList p2.isList (by simp only [List.size_toArray]; omega) hu'
       (Fx rv rv2 hs hs' fun d1 d2 v1 v2 u1 u2 hdd g1 g2 q1 q2 => ih A.in1 d1 d2 v1 v2 u1 u2 (by omega) hin g1 g2 q1 q2))
      rw [List.size_toArray, show its.length = ds.length by omega] at this
      exact this
     ·rw [Fz _ _ hz]
      exact SeqAt.EqAt.of_refs hne (SeqAt.RcAt.lists_lengths p.isList p2.isList (by simp only [List.size_toArray, bne_iff_ne]; omega) hu')
   | @tup a2 vs2 ds2 h' hs' =>
    obtain ⟨its2, rv2, p2, _⟩ := I.tuple h'
    cases (show u2 = Value.ref a2 from r2)
    unfold Ca
    exact SeqAt.EqAt.list_tuple p.isList p2 hu'
  | @tup a vs ds h hs =>
   obtain ⟨its, rv, p, _⟩ := I.tuple h
   cases (show u1 = Value.ref a from r1)
   have hd' : Ef ds <= n := by unfold GX at hd; omega
   cases h2 with
   | non => cases (show u2 = Value.none from r2); unfold Ca; exact SeqAt.EqAt.tuple_none p hu'
   | bl b => cases (show u2 = Value.bool b from r2); unfold Ca; exact SeqAt.EqAt.tuple_bool b p hu'
   | int i => obtain ⟨t, e⟩ := (show ∃ t, u2 = Value.int i t from r2); subst e; unfold Ca; exact SeqAt.EqAt.tuple_int i t p hu'
   | str x => obtain ⟨t, e⟩ := (show ∃ t, u2 = Value.str x t from r2); subst e; unfold Ca; exact SeqAt.EqAt.tuple_str x t p hu'
   | @lst a2 vs2 ds2 h' hs' =>
    obtain ⟨its2, rv2, p2, _⟩ := I.list h'
    cases (show u2 = Value.ref a2 from r2)
    unfold Ca
    exact SeqAt.EqAt.tuple_list p p2.isList hu'
   | @tup a2 vs2 ds2 h' hs' =>
    obtain ⟨its2, rv2, p2, _⟩ := I.tuple h'
    cases (show u2 = Value.ref a2 from r2)
    unfold Ca
    by_cases hne : a = a2
    ·subst hne
     have e := I.tuple_inj h h'
     subst e
     rw [RepsD.inj I hs hs', GZ]
     exact SeqAt.EqAt.same _
    ·have l1 := rv.length
     have l2 := rv2.length
     have m1 := hs.length
     have m2 := hs'.length
     have := SeqAt.EqAt.of_refs hne (SeqAt.RcAt.tuples (A := A) (e := fun j => Ca (ds.getD j .non) (ds2.getD j .non)) p p2 hu'
       (Fx rv rv2 hs hs' fun d1 d2 v1 v2 u1 u2 hdd g1 g2 q1 q2 => ih A.in1 d1 d2 v1 v2 u1 u2 (by omega) hin g1 g2 q1 q2))
     simp only [List.size_toArray] at this
     by_cases hz : ds.length = ds2.length
     ·rw [FN _ _ hz]
      rw [show its.length = ds.length by omega, show its2.length = ds.length by omega, Nat.min_self, beq_self_eq_true, Bool.and_true] at this
      exact this
     ·rw [Fz _ _ hz]
      rw [show (its.length == its2.length) = false from beq_eq_false_iff_ne.mpr (by omega), Bool.and_false] at this
      exact this
def adU (K : Fg_) : R2 := fun x y H Q => ∃ d1 d2, RepD K H x d1 /\ RepD K H y d2 /\ 1 <= GX d1 /\ GX d1 <= 20 /\ Q (.bl (Ca d1 d2)) H
def adF (K : Fg_) : R2 := fun x y H Q => ∃ d1 d2, RepD K H x d1 /\ RepD K H y d2 /\ 1 <= GX d1 /\ GX d1 <= 20 /\ Q (.bl (!Ca d1 d2)) H
theorem acE {k : Nat} (hr : Room k X.A) : OpR X (compareOp .Eq) (adU X.K) := by
 intro pins s σ H x y v u Q I rx ry h
 obtain ⟨d1, d2, h1, h2, hd1, hd, q⟩ := h
 have hr' := hr.units
 have hu' : X.A.units < cLine := by omega
 have hin : X.A.in1.units + 20 < cLine := by rw [in1_units]; omega
 have fin : ∀ b, SeqAt.RcAt X.A s v u b -> b = (Ca d1 d2) -> wpAny (model X.prog X.w) X.A (compareOp .Eq v u) (EP X pins σ Q) X.xe s := fun b hb e => by
  subst e
  exact hb X.prog X.w X.xe _ ⟨.bl _, H, I, rfl, q⟩
 cases h1 with
 | non => unfold GX at hd1; omega
 | bl a => unfold GX at hd1; omega
 | int a => unfold GX at hd1; omega
 | str a => unfold GX at hd1; omega
 | @lst a vs ds h hs =>
  obtain ⟨its, rv, p, _⟩ := I.list h
  cases (show v = Value.ref a from rx)
  have hd' : Ef ds <= 20 := by unfold GX at hd; omega
  cases h2 with
  | non => cases (show u = Value.none from ry); exact fin _ (SeqAt.RcAt.list_none p.isList hu') (by unfold Ca; rfl)
  | bl b => cases (show u = Value.bool b from ry); exact fin _ (SeqAt.RcAt.list_bool b p.isList hu') (by unfold Ca; rfl)
  | int i => obtain ⟨t, e⟩ := (show ∃ t, u = Value.int i t from ry); subst e; exact fin _ (SeqAt.RcAt.list_int i t p.isList hu') (by unfold Ca; rfl)
  | str z => obtain ⟨t, e⟩ := (show ∃ t, u = Value.str z t from ry); subst e; exact fin _ (SeqAt.RcAt.list_str z t p.isList hu') (by unfold Ca; rfl)
  | @tup a2 vs2 ds2 h' hs' =>
   obtain ⟨its2, rv2, p2, _⟩ := I.tuple h'
   cases (show u = Value.ref a2 from ry)
   exact fin _ (SeqAt.RcAt.list_tuple p.isList p2 hu') (by unfold Ca; rfl)
  | @lst a2 vs2 ds2 h' hs' =>
   obtain ⟨its2, rv2, p2, _⟩ := I.list h'
   cases (show u = Value.ref a2 from ry)
   have l1 := rv.length
   have l2 := rv2.length
   have m1 := hs.length
   have m2 := hs'.length
   by_cases hz : ds.length = ds2.length
   ·refine fin _ (SeqAt.RcAt.lists (A := X.A) (e := fun j => Ca (ds.getD j .non) (ds2.getD j .non)) p.isList p2.isList (by simp only [List.size_toArray]; omega) hu'
     (Fx rv rv2 hs hs' fun d1 d2 v1 v2 u1 u2 hdd g1 g2 q1 q2 => Wa I 20 X.A.in1 d1 d2 v1 v2 u1 u2 (by omega) hin g1 g2 q1 q2)) ?_
    rw [Vm, FN _ _ hz, List.size_toArray, show its.length = ds.length by omega]
   ·refine fin _ (SeqAt.RcAt.lists_lengths p.isList p2.isList (by simp only [List.size_toArray, bne_iff_ne]; omega) hu') ?_
    unfold Ca
    rw [Fz _ _ hz]
    all_goals rfl
 | @tup a vs ds h hs =>
  obtain ⟨its, rv, p, _⟩ := I.tuple h
  cases (show v = Value.ref a from rx)
  have hd' : Ef ds <= 20 := by unfold GX at hd; omega
  cases h2 with
  | non => cases (show u = Value.none from ry); exact fin _ (SeqAt.RcAt.tuple_none p hu') (by unfold Ca; rfl)
  | bl b => cases (show u = Value.bool b from ry); exact fin _ (SeqAt.RcAt.tuple_bool b p hu') (by unfold Ca; rfl)
  | int i => obtain ⟨t, e⟩ := (show ∃ t, u = Value.int i t from ry); subst e; exact fin _ (SeqAt.RcAt.tuple_int i t p hu') (by unfold Ca; rfl)
  | str z => obtain ⟨t, e⟩ := (show ∃ t, u = Value.str z t from ry); subst e; exact fin _ (SeqAt.RcAt.tuple_str z t p hu') (by unfold Ca; rfl)
  | @lst a2 vs2 ds2 h' hs' =>
   obtain ⟨its2, rv2, p2, _⟩ := I.list h'
   cases (show u = Value.ref a2 from ry)
   exact fin _ (SeqAt.RcAt.tuple_list p p2.isList hu') (by unfold Ca; rfl)
  | @tup a2 vs2 ds2 h' hs' =>
   obtain ⟨its2, rv2, p2, _⟩ := I.tuple h'
   cases (show u = Value.ref a2 from ry)
   have l1 := rv.length
   have l2 := rv2.length
   have m1 := hs.length
   have m2 := hs'.length
   refine fin _ (SeqAt.RcAt.tuples (A := X.A) (e := fun j => Ca (ds.getD j .non) (ds2.getD j .non)) p p2 hu'
     (Fx rv rv2 hs hs' fun d1 d2 v1 v2 u1 u2 hdd g1 g2 q1 q2 => Wa I 20 X.A.in1 d1 d2 v1 v2 u1 u2 (by omega) hin g1 g2 q1 q2)) ?_
   rw [VR]
   simp only [List.size_toArray]
   by_cases hz : ds.length = ds2.length
   ·rw [FN _ _ hz, show its.length = ds.length by omega, show its2.length = ds.length by omega, Nat.min_self, beq_self_eq_true, Bool.and_true]
   ·rw [Fz _ _ hz, show (its.length == its2.length) = false from beq_eq_false_iff_ne.mpr (by omega), Bool.and_false]
theorem acY {k : Nat} (hr : Room k X.A) : OpR X (compareOp .NotEq) (adF X.K) := by
 intro pins s σ H x y v u Q I rx ry h
 obtain ⟨d1, d2, h1, h2, hd1, hd, q⟩ := h
 have hr' := hr.units
 have hu' : X.A.units < cLine := by omega
 have hin : X.A.in1.units + 20 < cLine := by rw [in1_units]; omega
 have fin : ∀ b, SeqAt.RcNeAt X.A s v u b -> b = (!Ca d1 d2) -> wpAny (model X.prog X.w) X.A (compareOp .NotEq v u) (EP X pins σ Q) X.xe s := fun b hb e => by
  subst e
  exact hb X.prog X.w X.xe _ ⟨.bl _, H, I, rfl, q⟩
 cases h1 with
 | non => unfold GX at hd1; omega
 | bl a => unfold GX at hd1; omega
 | int a => unfold GX at hd1; omega
 | str a => unfold GX at hd1; omega
 | @lst a vs ds h hs =>
  obtain ⟨its, rv, p, _⟩ := I.list h
  cases (show v = Value.ref a from rx)
  have hd' : Ef ds <= 20 := by unfold GX at hd; omega
  cases h2 with
  | non => cases (show u = Value.none from ry); exact fin _ (SeqAt.RcNeAt.list_none p.isList hu') (by unfold Ca; rfl)
  | bl b => cases (show u = Value.bool b from ry); exact fin _ (SeqAt.RcNeAt.list_bool b p.isList hu') (by unfold Ca; rfl)
  | int i => obtain ⟨t, e⟩ := (show ∃ t, u = Value.int i t from ry); subst e; exact fin _ (SeqAt.RcNeAt.list_int i t p.isList hu') (by unfold Ca; rfl)
  | str z => obtain ⟨t, e⟩ := (show ∃ t, u = Value.str z t from ry); subst e; exact fin _ (SeqAt.RcNeAt.list_str z t p.isList hu') (by unfold Ca; rfl)
  | @tup a2 vs2 ds2 h' hs' =>
   obtain ⟨its2, rv2, p2, _⟩ := I.tuple h'
   cases (show u = Value.ref a2 from ry)
   exact fin _ (SeqAt.RcNeAt.list_tuple p.isList p2 hu') (by unfold Ca; rfl)
  | @lst a2 vs2 ds2 h' hs' =>
   obtain ⟨its2, rv2, p2, _⟩ := I.list h'
   cases (show u = Value.ref a2 from ry)
   have l1 := rv.length
   have l2 := rv2.length
   have m1 := hs.length
   have m2 := hs'.length
   by_cases hz : ds.length = ds2.length
   ·refine fin _ (SeqAt.RcNeAt.lists (A := X.A) (e := fun j => Ca (ds.getD j .non) (ds2.getD j .non)) p.isList p2.isList (by simp only [List.size_toArray]; omega) hu'
     (Fx rv rv2 hs hs' fun d1 d2 v1 v2 u1 u2 hdd g1 g2 q1 q2 => Wa I 20 X.A.in1 d1 d2 v1 v2 u1 u2 (by omega) hin g1 g2 q1 q2)) ?_
    rw [Vm, FN _ _ hz, List.size_toArray, show its.length = ds.length by omega]
   ·refine fin _ (SeqAt.RcNeAt.lists_lengths p.isList p2.isList (by simp only [List.size_toArray, bne_iff_ne]; omega) hu') ?_
    unfold Ca
    rw [Fz _ _ hz]
    all_goals rfl
 | @tup a vs ds h hs =>
  obtain ⟨its, rv, p, _⟩ := I.tuple h
  cases (show v = Value.ref a from rx)
  have hd' : Ef ds <= 20 := by unfold GX at hd; omega
  cases h2 with
  | non => cases (show u = Value.none from ry); exact fin _ (SeqAt.RcNeAt.tuple_none p hu') (by unfold Ca; rfl)
  | bl b => cases (show u = Value.bool b from ry); exact fin _ (SeqAt.RcNeAt.tuple_bool b p hu') (by unfold Ca; rfl)
  | int i => obtain ⟨t, e⟩ := (show ∃ t, u = Value.int i t from ry); subst e; exact fin _ (SeqAt.RcNeAt.tuple_int i t p hu') (by unfold Ca; rfl)
  | str z => obtain ⟨t, e⟩ := (show ∃ t, u = Value.str z t from ry); subst e; exact fin _ (SeqAt.RcNeAt.tuple_str z t p hu') (by unfold Ca; rfl)
  | @lst a2 vs2 ds2 h' hs' =>
   obtain ⟨its2, rv2, p2, _⟩ := I.list h'
   cases (show u = Value.ref a2 from ry)
   exact fin _ (SeqAt.RcNeAt.tuple_list p p2.isList hu') (by unfold Ca; rfl)
  | @tup a2 vs2 ds2 h' hs' =>
   obtain ⟨its2, rv2, p2, _⟩ := I.tuple h'
   cases (show u = Value.ref a2 from ry)
   have l1 := rv.length
   have l2 := rv2.length
   have m1 := hs.length
   have m2 := hs'.length
   refine fin _ (SeqAt.RcNeAt.tuples (A := X.A) (e := fun j => Ca (ds.getD j .non) (ds2.getD j .non)) p p2 hu'
     (Fx rv rv2 hs hs' fun d1 d2 v1 v2 u1 u2 hdd g1 g2 q1 q2 => Wa I 20 X.A.in1 d1 d2 v1 v2 u1 u2 (by omega) hin g1 g2 q1 q2)) ?_
   rw [VR]
   simp only [List.size_toArray]
   by_cases hz : ds.length = ds2.length
   ·rw [FN _ _ hz, show its.length = ds.length by omega, show its2.length = ds.length by omega, Nat.min_self, beq_self_eq_true, Bool.and_true]
   ·rw [Fz _ _ hz, show (its.length == its2.length) = false from beq_eq_false_iff_ne.mpr (by omega), Bool.and_false]
end
end L2
namespace L2
open PySem PySem.Spec PyProof.Rows
section
variable {X : Cx} {K : Fg_} {a b o e : Expr} {ta tb to te : TE} {pos : Pos} {tg : Expr}
theorem Cv (hK : X.K = K := by rfl) : IxR X (adV K) := hK ▸ abm
theorem Ah (hK : X.K = K := by rfl) : IxR X (adB K) := hK ▸ acy
theorem Ri (hK : X.K = K := by rfl) : SlR X (adX K) := hK ▸ abP
theorem adw (hK : X.K = K := by rfl) : OpR X (compareOp .In) (rIn K false) := hK ▸ Xo
theorem UV {k : Nat} (hr : Room k X.A) (hK : X.K = K := by rfl) : OpR X (compareOp .Eq) (adU K) := hK ▸ acE hr
theorem Nk {k : Nat} (hr : Room k X.A) (hK : X.K = K := by rfl) : OpR X (compareOp .NotEq) (adF K) := hK ▸ acY hr
def adM (K : Fg_) : List V -> Hp -> VK -> Prop := fun xs H Q => ∃ p ys, xs = [.ref p] /\ (SqL K H p ys \/ SqT K H p ys) /\ Q (.int ys.length) H
theorem DX (hK : X.K = K := by rfl) : DQ X (.builtin "len") (adM K) := hK ▸ Tc
def adI (K : Fg_) : List V -> Hp -> VK -> Prop := fun xs H Q => ∃ (a : Addr) (ns : List Int), xs = [.ref a] /\ SqL K H a (ns.map V.int) /\ Q (.int ns.sum) H
theorem Yv (hc : X.calm = true) (hK : X.K = K := by rfl) : DQ X (.builtin "sum") (adI K) := hK ▸ Xh hc
def adZ (K : Fg_) : List V -> Hp -> VK -> Prop := fun xs H Q => ∃ (a : Addr) (bs : List Bool), xs = [.ref a] /\ SqL K H a (bs.map V.bl) /\ Q (.bl (bs.all id)) H
theorem Zn (hc : X.calm = true) (hK : X.K = K := by rfl) : DQ X (.builtin "all") (adZ K) := hK ▸ Xn hc
def UL (K : Fg_) : List V -> Hp -> VK -> Prop := fun xs H Q => ∃ p ys, xs = [.ref p] /\ (SqL K H p ys \/ SqT K H p ys) /\ ∀ l, H l = none -> Q (.ref l) (upd H l (.lst ys))
theorem KZ (hK : X.K = K := by rfl) : DQ X (.type "list") (UL K) := hK ▸ SN
def Zq (K : Fg_) : List V -> Hp -> VK -> Prop := fun xs H Q => ∃ p ys, xs = [.ref p] /\ ((SqL K H p ys /\ ∀ l, H l = none -> Q (.ref l) (upd H l (.tup ys))) \/ (SqT K H p ys /\ Q (.ref p) H))
theorem Uj (hK : X.K = K := by rfl) : DQ X (.type "tuple") (Zq K) := hK ▸ RB
def aev (K : Fg_) : List V -> Hp -> VK -> Prop := fun xs H Q => ∃ x n t k, xs = [x, .ty n] /\ TyOf K H x t /\ PySem.W.kitOne K t (.type n) = some k /\ Q (.bl k) H
theorem IW (hK : X.K = K := by rfl) : DQ X (.builtin "isinstance") (aev K) := hK ▸ SJ
def aem (K : Fg_) : List V -> Hp -> VK -> Prop := fun xs H Q => ∃ x C t k, xs = [x, .ref C] /\ TyOf K H x t /\ PySem.W.kitOne K t (.ref C) = some k /\ Q (.bl k) H
theorem Hj (hK : X.K = K := by rfl) : DQ X (.builtin "isinstance") (aem K) := hK ▸ Ss
theorem CN (hl : PE X o to) (hK : X.K = K := by rfl) : PI X tg o (abh K to) := hK ▸ abp hl
theorem Rb {es : List Expr} {k : Nat} {t : TGs} {n : Nat} (hc : X.calm = true) (h : PGs X es t) (hn : (assignEach es X.env).length = n := by rfl) (hst : (assignEach es X.env).findIdx? (·.1) = none := by rfl) (hK : X.K = K := by rfl) : PG X (.Tuple es k pos) (adR K n t) := hK ▸ acS hc h hn hst
theorem Ar {f : Str} (he : PE X e ta) (hb : attributeBase e f X.env (eval e X.env) = eval e X.env) (hK : X.K = K := by rfl) : PE X (.Attribute e f pos) (adE K ta f) := hK ▸ acl he hb
theorem Qo {T : String} {name : Str} {id : String} {r : V -> List V -> Hp -> VK -> Prop} {es : List Expr} {t : TA} {apos cpos : Pos} (pa : PlainAttrs T) (slot : Slot T name id) (hty : typeOf (.builtin id) = pure (.type "method_descriptor")) (hm : MtR X id r) (ho : PE X o to) (ha : PA X (e :: es) t)
  (hbase : attributeBase o name X.env (eval o X.env) = eval o X.env := by rfl)
  (hfew : ((backTo cpos (starEach (e :: es) X.env)).all (fun x => !x.1) && (backToKw cpos (keywordEach [] X.env)).all (fun x => x.1.isSome)
   && decide ((e :: es).length + ([] : List Keyword).length + (if ([] : List Keyword).isEmpty then 0 else 1) < 30)) = true := by rfl)
  (hline : (apos.endLine == cpos.line) = true := by rfl) (hs : starEach (e :: es) X.env = (false, eval e X.env) :: starEach es X.env := by rfl) (hplain : (backTo cpos (starEach es X.env)).any (·.1) = false := by rfl) (hK : X.K = K := by rfl) :
  PE X (.Call (.Attribute o name apos) (e :: es) [] cpos) (tBM K T r to t) := hK ▸ aed pa slot hty hm ho ha hbase hfew hline hs hplain
theorem Xu {T : String} {name : Str} {id : String} {r : V -> List V -> Hp -> VK -> Prop} {apos cpos : Pos} (pa : PlainAttrs T) (slot : Slot T name id) (hty : typeOf (.builtin id) = pure (.type "method_descriptor")) (hm : MtR X id r) (ho : PE X o to)
  (hbase : attributeBase o name X.env (eval o X.env) = eval o X.env := by rfl) (hline : (apos.endLine == cpos.line) = true := by rfl) (hK : X.K = K := by rfl) : PE X (.Call (.Attribute o name apos) [] [] cpos) (aea K T r to) := hK ▸ acn pa slot hty hm ho hbase hline
end
section
variable {K : Fg_} {H : Hp} {Q : VK} {p : Addr} {x y : V}
theorem ap_noIf {σ : St} {QB : Bool -> Hp -> Prop} : QD σ H QB = QB true H := rfl
theorem ap_rLen : adM K [.ref p] H Q = ∃ ys, (SqL K H p ys \/ SqT K H p ys) /\ Q (.int (ys.length : Int)) H := by simp [adM]
theorem ap_rSum : adI K [.ref p] H Q = ∃ ns : List Int, SqL K H p (ns.map V.int) /\ Q (.int ns.sum) H := by simp [adI]
theorem ap_rAll : adZ K [.ref p] H Q = ∃ bs : List Bool, SqL K H p (bs.map V.bl) /\ Q (.bl (bs.all id)) H := by simp [adZ]
theorem ap_rListOf : UL K [.ref p] H Q = ∃ ys, (SqL K H p ys \/ SqT K H p ys) /\ ∀ l, H l = none -> Q (.ref l) (upd H l (.lst ys)) := by simp [UL]
theorem ap_rIsT {n : String} : aev K [x, .ty n] H Q = ∃ t k, TyOf K H x t /\ PySem.W.kitOne K t (.type n) = some k /\ Q (.bl k) H := propext ⟨fun ⟨x', n', t, k, e, h⟩ => by
  injection e with e1 e2
  injection e2 with e2 _
  injection e2 with e2
  subst e1 e2
  exact ⟨t, k, h⟩, fun ⟨t, k, h⟩ => ⟨x, n, t, k, rfl, h⟩⟩
theorem ap_append : Ry (.ref p) [y] H Q = ∃ xs, H p = some (.lst xs) /\ xs.length < sizeLine /\ Q .non (upd H p (.lst (xs ++ [y]))) := by simp [Ry]
theorem ap_rCat {l b : Addr} : aef (.ref l) (.ref b) H Q = ∃ xs zs, H l = some (.lst xs) /\ H b = some (.lst zs) /\ xs.length + zs.length <= sizeLine /\ ∀ p, H p = none -> Q (.ref p) (upd H p (.lst (xs ++ zs))) := by simp [aef]
end
end L2
namespace L2
open PySem PySem.Spec PyProof.Rows
section
variable {K : Fg_} {a : Addr} {xs : List V} {g : TG} {tb : TS} {D : Ends} {σ : St} {H : Hp} {wi : TI} {cap : List (Option Nat)} {tt : TT} {te tl : TE} {Q : VK} {ta : TA} {R : It -> Hp -> Prop}
def ForP (J : It) (g : TG) (tb : TS) (D : Ends) (σ : St) (H1 : Hp) : Prop := ∃ W : Nat -> Nat -> St -> Hp -> Prop, (∃ m, W 0 m σ H1) /\ ∀ i m σ H, W i m σ H ->
 (J.stop i H /\ D.nx σ H) \/ (J.go i H /\ ∃ N : St -> Hp -> Prop, (∀ σ' H', N σ' H' -> ∃ m', m' < m /\ W (i + 1) m' σ' H') /\ ∀ x H', J.yld i H x H' -> g x σ H' fun σ2 H2 => tb { D with nx := N, ct := N, bk := D.nx } σ2 H2)
theorem ap_for : adD wi g tb D σ H = wi σ H fun J H1 => ForP J g tb D σ H1 := rfl
theorem ForP.list (Pv : Nat -> St -> Hp -> Prop) (h0 : Pv 0 σ H) (hl : ∀ i σ H, i <= xs.length -> Pv i σ H -> SqL K H a xs)
  (hs : ∀ i x σ H, xs[i]? = some x -> Pv i σ H -> g x σ H fun σ2 H2 => tb { D with nx := Pv (i + 1), ct := Pv (i + 1), bk := D.nx } σ2 H2) (hd : ∀ σ H, Pv xs.length σ H -> D.nx σ H) : ForP (Itl K a) g tb D σ H := aat Pv h0 hl hs hd
theorem ForP.range {lo : Int} {n : Nat} (Pv : Nat -> St -> Hp -> Prop) (h0 : Pv 0 σ H)
  (hs : ∀ i σ H, i < n -> Pv i σ H -> g (.int (lo + i)) σ H fun σ2 H2 => tb { D with nx := Pv (i + 1), ct := Pv (i + 1), bk := D.nx } σ2 H2) (hd : ∀ σ H, Pv n σ H -> D.nx σ H) : ForP (Itr lo n) g tb D σ H := Zr Pv h0 hs hd
theorem ap_iList : abh K tl σ H R = tl σ H fun x H1 => ∃ a, x = .ref a /\ (∃ xs, SqL K H1 a xs) /\ R (Itl K a) H1 := rfl
theorem ap_iRng1 : acA ta σ H R = ta σ H fun vs H1 => ∃ j : Int, vs = [.int j] /\ -(2 ^ 62) <= j /\ j < 2 ^ 62 /\ R (Itr 0 j.toNat) H1 := rfl
def CompP (cap : List (Option Nat)) (J : It) (g : TG) (tt : TT) (te : TE) (σ : St) (H1 : Hp) (Q : VK) : Prop := ∀ D, H1 D = Option.none ->
 ∃ W : Nat -> Nat -> List V -> St -> Hp -> Prop, (∃ m, W 0 m [] (Im σ cap) (upd H1 D (.lst []))) /\ ∀ i m acc σ1 H2, W i m acc σ1 H2 -> H2 D = some (.lst acc) ->
  (J.stop i H2 /\ Q (.ref D) H2) \/ (J.go i H2 /\ ∀ x H3, J.yld i H2 x H3 -> g x σ1 H3 fun σ4 H4 => tt σ4 H4 fun b H5 =>
   if b = true then te σ4 H5 fun v H6 => ∃ acc', H6 D = some (.lst acc') /\ acc'.length < sizeLine /\ ∃ m', m' < m /\ W (i + 1) m' (acc' ++ [v]) σ4 (upd H6 D (.lst (acc' ++ [v])))
   else ∃ m', m' < m /\ ∃ acc', H5 D = some (.lst acc') /\ W (i + 1) m' acc' σ4 H5)
theorem ap_comp : adq cap wi g tt te σ H Q = wi σ H fun J H1 => CompP cap J g tt te σ H1 Q := rfl
theorem CompP.list (Sσ : St -> Prop) (p : V -> Bool) (F : V -> V) (hS : SqL K H a xs) (h0 : Sσ (Im σ cap)) (hz : xs.length <= sizeLine)
  (hs : ∀ x ∈ xs, ∀ (σ : St) (H5 : Hp) (R1 : St -> VK) (R2 : St -> Hp -> Prop), Sσ σ -> Same H H5 -> (p x = true -> ∀ σ4 H6, Sσ σ4 -> Same H5 H6 -> R1 σ4 (F x) H6) -> (p x = false -> ∀ σ4 H6, Sσ σ4 -> Same H5 H6 -> R2 σ4 H6) ->
   g x σ H5 fun σ4 H4 => tt σ4 H4 fun b H5 => if b = true then te σ4 H5 (R1 σ4) else R2 σ4 H5)
  (k : ∀ D H', H D = Option.none -> Same H H' -> H' D = some (.lst ((xs.filter p).map F)) -> Q (.ref D) H') : CompP cap (Itl K a) g tt te σ H Q :=
 fun D hD => XJ Sσ p F hS hD h0 hz hs fun H' s e => k D H' hD s e
theorem CompP.range {lo : Int} {n : Nat} (Sσ : St -> Prop) (p : V -> Bool) (F : V -> V) (h0 : Sσ (Im σ cap)) (hz : n <= sizeLine)
  (hs : ∀ i : Nat, i < n -> ∀ (σ : St) (H5 : Hp) (R1 : St -> VK) (R2 : St -> Hp -> Prop), Sσ σ -> Same H H5 -> (p (.int (lo + i)) = true -> ∀ σ4 H6, Sσ σ4 -> Same H5 H6 -> R1 σ4 (F (.int (lo + i))) H6) -> (p (.int (lo + i)) = false -> ∀ σ4 H6, Sσ σ4 -> Same H5 H6 -> R2 σ4 H6) ->
   g (.int (lo + i)) σ H5 fun σ4 H4 => tt σ4 H4 fun b H5 => if b = true then te σ4 H5 (R1 σ4) else R2 σ4 H5)
  (k : ∀ D H', H D = Option.none -> Same H H' -> H' D = some (.lst ((((List.range n).map fun (i : Nat) => V.int (lo + i)).filter p).map F)) -> Q (.ref D) H') : CompP cap (Itr lo n) g tt te σ H Q :=
 fun D hD => Xe Sσ p F hD h0 hz hs fun H' s e => k D H' hD s e
end
end L2
namespace L2
open PySem PySem.Spec PyProof.Rows
structure LeE (D D' : Ends) : Prop where
 nx : ∀ σ H, D.nx σ H -> D'.nx σ H
 rt : ∀ v H, D.rt v H -> D'.rt v H
 bk : ∀ σ H, D.bk σ H -> D'.bk σ H
 ct : ∀ σ H, D.ct σ H -> D'.ct σ H
end L2
namespace L2
open PySem PySem.Spec PyProof.Rows
section
variable {X : Cx} {pins : List (Addr × Obj)} {σ : St} {H : Hp} {s : Shared} {h' : Heap}
theorem Inv.turnedN {t' : Nat} {fp : List Addr} (I : Inv X pins σ H s) (hf : ∀ b ∈ fp, Wd X pins H b) (k : ∀ b o, b ∉ fp -> s.heap.get? b = some o -> h'.get? b = some o) : Inv X pins σ H { s with heap := h', toks := t' } := by
 have nit : ∀ b u, H b = some u -> b ∉ fp := fun b u e z => by rw [(hf b z).1] at e; cases e
 refine I.step (g' := s.gens) (d' := s.drawn) (ch := fp) (fun b hb => ⟨(hf b hb).2.2.2.1, (hf b hb).2.1, (hf b hb).2.2.2.2.1, (hf b hb).2.2.2.2.2⟩) (fun b o _ _ hc e _ => k b o hc e) (fun b o _ _ hc e _ => ⟨o.slots, k b o hc e⟩) (fun _ _ _ _ n => n)
  (fun b o hc e => ⟨o, k b o hc e⟩) (fun _ _ e => e) (fun _ _ _ e => e) (fun b ps e => ⟨#[], by rw [e]; simp⟩) (fun m hm => ?_) (fun b u e => ?_) I.bare
 ·obtain ⟨o, es, ep, ho, r⟩ := hm
  exact ⟨o, es, ep, k _ o (fun z => (hf _ z).2.1 rfl) ho, r⟩
 ·refine (I.hok b u e).stay (fun c v hc q => k c v ?_ q) (fun _ q => q) fun _ _ q => q
  rcases hc with z | z
  ·rw [z]; exact nit b u e
  ·exact nit c _ z
theorem Inv.turnedT {t' : Nat} {fp : List Addr} {T : Addr} {o : HO} (I : Inv X pins σ H s) (hf : ∀ b ∈ fp, Wd X pins H b) (hT : s.heap.objs.size <= T) (k : ∀ b o, b ∉ fp -> s.heap.get? b = some o -> h'.get? b = some o)
  (new : ObjOk X.prog X.w (upd H T o) h' T o) : Inv X pins σ (upd H T o) { s with heap := h', toks := t' } := by
 have nit : ∀ b u, H b = some u -> b ∉ fp := fun b u e z => by rw [(hf b z).1] at e; cases e
 have hn : H T = none := I.hok.fresh hT
 refine I.step (g' := s.gens) (d' := s.drawn) (ch := fp) (fun b hb => ⟨(hf b hb).2.2.2.1, (hf b hb).2.1, (hf b hb).2.2.2.2.1, (hf b hb).2.2.2.2.2⟩) (fun b o _ _ hc e _ => k b o hc e) (fun b o _ _ hc e _ => ⟨o.slots, k b o hc e⟩)
  (fun b o _ e n => by rw [Aj (Nat.ne_of_lt (Nat.lt_of_lt_of_le (Heap.lt_size e) hT))]; exact n)
  (fun b o hc e => ⟨o, k b o hc e⟩) (fun b xs e => by rw [Aj (Bo e hn)]; exact e) (fun b o xs e => by rw [Aj (Bo e hn)]; exact e) (fun b ps e => ⟨#[], by rw [Aj (Bo e hn), e]; simp⟩) (fun m hm => ?_) (fun b u e => ?_) I.bare
 ·obtain ⟨o, es, ep, ho, r⟩ := hm
  exact ⟨o, es, ep, k _ o (fun z => (hf _ z).2.1 rfl) ho, r⟩
 ·by_cases hb : b = T
  ·subst hb; rw [Ae] at e; cases e; exact new
  ·rw [Aj hb] at e
   refine (I.hok b u e).stay (fun c v hc q => k c v ?_ q) (fun c q => by rw [Aj (Bo q hn)]; exact q) fun c xs q => by rw [Aj (Bo q hn)]; exact q
   rcases hc with z | z
   ·rw [z]; exact nit b u e
   ·exact nit c _ z
end
theorem Fi {h : Heap} {a b : Addr} {oa ob : Obj} {ca cb : Value} (ha : h.get? a = some oa) (hb : h.get? b = some ob) (ea : oa.cls = ca) (eb : ob.cls = cb) (hc : ca ≠ cb) : a ≠ b := by
 intro e; subst e; rw [ha] at hb; cases hb; exact hc (ea.symm.trans eb)
def Itz (K : Fg_) (a b : Addr) : It :=
 ⟨fun i H => ∃ xs ys x y, SqL K H a xs /\ SqL K H b ys /\ xs[i]? = some x /\ ys[i]? = some y,
   fun i H v H' => ∃ p x y, H p = none /\ v = .ref p /\ H' = upd H p (.tup [x, y]) /\ (∀ xs, SqL K H a xs -> xs[i]? = some x) /\ ∀ ys, SqL K H b ys -> ys[i]? = some y,
   fun i H => ∃ xs ys, SqL K H a xs /\ SqL K H b ys /\ (xs.length <= i \/ ys.length <= i)⟩
theorem Pj {h : Heap} {z TI TO i1 i2 a b : Addr} {f0 u v : Value} {xs ys : Array Value} {j1 j2 : Nat} (hTT : TI ≠ TO) (h12 : i1 ≠ i2) (hz : IsZip h z TI TO f0) (hTI : IsPair h TI (.ref i1) (.ref i2)) (hTO : IsPair h TO u v)
  (h1 : h.IsListIter i1 a j1) (h2 : h.IsListIter i2 b j2) (p1 : h.IsList a xs) (p2 : h.IsList b ys) : ZipApart z TI TO i1 i2 a b := by
 obtain ⟨o1, e1, c1, _⟩ := h1
 obtain ⟨o2, e2, c2, _⟩ := h2
 obtain ⟨l1, f1, d1, _⟩ := p1
 obtain ⟨l2, f2, d2, _⟩ := p2
 exact ⟨Fi hTI hz rfl rfl (by simp), Fi hTO hz rfl rfl (by simp), Fi e1 hz c1 rfl (by simp), Fi e2 hz c2 rfl (by simp), hTT, Fi hTI e1 rfl c1 (by simp), Fi hTI e2 rfl c2 (by simp), Fi hTO e1 rfl c1 (by simp), Fi hTO e2 rfl c2 (by simp), h12,
  Fi f1 hz d1 rfl (by simp), Fi f1 hTO d1 rfl (by simp), Fi f1 e1 d1 c1 (by simp), Fi f1 e2 d1 c2 (by simp), Fi f2 hz d2 rfl (by simp), Fi f2 hTO d2 rfl (by simp), Fi f2 e1 d2 c1 (by simp), Fi f2 e2 d2 c2 (by simp)⟩
theorem aar {P : Program} {w : World} {K : Fg_} {elts : List Expr} {x1 : Nat} {pos : Pos} (a b z TI TO i1 i2 : Addr) (hTT : TI ≠ TO) (h12 : i1 ≠ i2) :
  Turn P w K (.Tuple elts x1 pos) (Itz K a b) [z, TI, TO, i1, i2] z (fun i h => IsZip h z TI TO .none /\ IsPair h TI (.ref i1) (.ref i2) /\ (∃ u v, IsPair h TO u v) /\ h.IsListIter i1 a i /\ h.IsListIter i2 b i) where
 mem := by simp
 obj := fun i h st c hb => by
  obtain ⟨hz, hTI, ⟨u, v, hTO⟩, ⟨o1, e1, c1, d1⟩, ⟨o2, e2, c2, d2⟩⟩ := st
  simp only [List.mem_cons, List.not_mem_nil, or_false] at hb
  rcases hb with rfl | rfl | rfl | rfl | rfl
  ·exact ⟨_, hz, fun v z => by cases z⟩
  ·exact ⟨_, hTI, fun v z => by cases z⟩
  ·exact ⟨_, hTO, fun v z => by cases z⟩
  ·exact ⟨_, e1, fun v z => by rw [d1] at z; cases z⟩
  ·exact ⟨_, e2, fun v z => by rw [d2] at z; cases z⟩
 keep := fun i h h' st k => by
  obtain ⟨hz, hTI, ⟨u, v, hTO⟩, h1, h2⟩ := st
  exact ⟨k _ (by simp) _ hz, k _ (by simp) _ hTI, ⟨u, v, k _ (by simp) _ hTO⟩, h1.at fun o e => k _ (by simp) o e, h2.at fun o e => k _ (by simp) o e⟩
 item := by
  intro X hP hw hK hc i pins s σ H E I hf st hg
  subst hP hw hK
  obtain ⟨xs, ys, x, y, hq1, hq2, hx, hy⟩ := hg
  obtain ⟨its1, rv1, p1, _⟩ := I.list hq1
  obtain ⟨its2, rv2, p2, _⟩ := I.list hq2
  obtain ⟨u1, hu1, ru1⟩ := rv1.get hx
  obtain ⟨u2, hu2, ru2⟩ := rv2.get hy
  obtain ⟨hz, hTI, ⟨ua, ub, hTO⟩, h1, h2⟩ := st
  have D := Pj hTT h12 hz hTI hTO h1 h2 p1.isList p2.isList
  refine wpAny_pyNext_zip_item D hz hTI hTO h1 h2 p1.isList p2.isList (x := u1) (y := u2) (by simpa using hu1) (by simpa using hu2) fun h' a1 a2 a3 a4 a5 a6 a7 => ?_
  refine ⟨_, rfl, wpAny_letOwnedTupleGo_zip (s := { s with heap := h' }) a1 fun h'' b1 b2 => ?_⟩
  have nz : s.heap.objs.size ≠ z := Nat.ne_of_gt (Heap.lt_size hz)
  have k : ∀ c o, c ∉ [z, TI, TO, i1, i2] -> s.heap.get? c = some o -> h''.get? c = some o := fun c o hc e => by
   simp only [List.mem_cons, List.not_mem_nil, or_false, not_or] at hc
   exact (b2.2 c hc.1).trans (a7 c o hc.1 hc.2.2.1 hc.2.2.2.1 hc.2.2.2.2 e)
  have hTup : h''.get? s.heap.objs.size = some { cls := .type "tuple", data := .seq #[u1, u2] } := (b2.2 _ nz).trans a5
  refine ⟨.ref s.heap.objs.size, upd H s.heap.objs.size (.tup [x, y]), I.turnedT (t' := s.toks) hf (Nat.le_refl _) k ⟨by rw [sizeLine_eq]; simp, [u1, u2], .cons ru1 (.cons ru2 .nil), _, hTup, rfl, _, rfl⟩, rfl,
   ⟨_, x, y, I.hok.fresh (Nat.le_refl _), rfl, rfl, fun xs' q => by rw [I.list_inj q hq1]; exact hx, fun ys' q => by rw [I.list_inj q hq2]; exact hy⟩, ?_, fun c hb => ?_⟩
  ·exact ⟨b1, (b2.2 _ D.TIz).trans (a7 _ _ D.TIz D.TITO D.TIi1 D.TIi2 hTI), ⟨_, _, (b2.2 _ D.TOz).trans a2⟩, a3.at fun o e => (b2.2 _ D.i1z).trans e, a4.at fun o e => (b2.2 _ D.i2z).trans e⟩
  ·obtain ⟨o, e⟩ : ∃ o, s.heap.get? c = some o := by
    simp only [List.mem_cons, List.not_mem_nil, or_false] at hb
    rcases hb with rfl | rfl | rfl | rfl | rfl
    ·exact ⟨_, hz⟩
    ·exact ⟨_, hTI⟩
    ·exact ⟨_, hTO⟩
    ·obtain ⟨o, e, _⟩ := h1; exact ⟨o, e⟩
    ·obtain ⟨o, e, _⟩ := h2; exact ⟨o, e⟩
   rw [Aj (Nat.ne_of_lt (Heap.lt_size e))]
   exact (hf c hb).1
 done := by
  intro X hP hw hK hc i pins s σ H E I hf st hg
  subst hP hw hK
  obtain ⟨xs, ys, hq1, hq2, hx⟩ := hg
  obtain ⟨its1, rv1, p1, _⟩ := I.list hq1
  obtain ⟨its2, rv2, p2, _⟩ := I.list hq2
  obtain ⟨hz, hTI, ⟨ua, ub, hTO⟩, h1, h2⟩ := st
  have D := Pj hTT h12 hz hTI hTO h1 h2 p1.isList p2.isList
  have l1 := rv1.length
  have l2 := rv2.length
  refine wpAny_pyNext_zip_end (I.ok.hd hc) D hz hTI hTO h1 h2 p1.isList p2.isList (hx.elim (fun h => .inl (by simp; omega)) fun h => .inr (by simp; omega)) fun h' k => ⟨rfl, I.turnedN (t' := s.toks) hf fun c o hc e => ?_⟩
  simp only [List.mem_cons, List.not_mem_nil, or_false, not_or] at hc
  exact k c o hc.1 hc.2.2.1 hc.2.2.2.1 hc.2.2.2.2 e
 self := fun _ _ _ _ _ st h => wpAny_pyIter_zip st.1 h
section
variable {X : Cx} {K : Fg_} {ta : TA} {elts : List Expr} {x1 : Nat} {tpos : Pos}
def aeo (K : Fg_) (ta : TA) : TI := fun σ H R => ta σ H fun vs H1 => ∃ a b, vs = [.ref a, .ref b] /\ (∃ xs, SqL K H1 a xs) /\ (∃ ys, SqL K H1 b ys) /\ R (Itz K a b) H1
theorem adi {a b : Expr} {p pos : Pos} (hg : Gl X "zip") (hm : X.mg "zip" = none) (ha : PA X [a, b] ta) (hs : starEach [a, b] X.env = [(false, eval a X.env), (false, eval b X.env)] := by rfl) (hs2 : starEach [b] X.env = [(false, eval b X.env)] := by rfl) (hK : X.K = K := by rfl) :
  PI X (.Tuple elts x1 tpos) (.Call (.Name "zip" p) [a, b] [] pos) (aeo K ta) := by
 subst hK
 intro pins s σ H R I h
 refine Call_ (Qq I hg hm (by decide +kernel) (PyProof.Rows.callWith_type1 (T := "zip") (thn (ha pos pins s σ H _ I h) fun us s1 ⟨vs, H1, I1, r1, q1⟩ => ?_) (by rw [hs, hs2]) (by rw [hs2]; rfl)))
 obtain ⟨l1, l2, e, ⟨xs, hx⟩, ⟨ys, hy⟩, q⟩ := q1
 subst e
 obtain ⟨u, v, rfl, ru, rv⟩ := vals2 r1
 cases ru
 cases rv
 obtain ⟨its1, _, p1, _⟩ := I1.list hx
 obtain ⟨its2, _, p2, _⟩ := I1.list hy
 refine call_zip_2 p1.isList p2.isList fun h' g1 g2 g3 g4 g5 g6 k => ?_
 have I2 : Inv X pins σ H1 { s1 with heap := h' } := I1.kept (t' := s1.toks) k
 refine wpAny_pyIter_zip (s := { s1 with heap := h' }) g1 ⟨_, [s1.heap.objs.size + 4, s1.heap.objs.size + 2, s1.heap.objs.size + 3, s1.heap.objs.size, s1.heap.objs.size + 1], _, _, H1, rfl, I2, aar l1 l2 _ _ _ _ _ (show ((s1.heap.objs.size : Nat) + 2 ≠ s1.heap.objs.size + 3) by omega) (show ((s1.heap.objs.size : Nat) ≠ s1.heap.objs.size + 1) by omega), ⟨g1, g2, ⟨_, _, g3⟩, g4, g5⟩, fun c hc => ?_, q⟩
 have hc' : s1.heap.objs.size <= c := by
  simp only [List.mem_cons, List.not_mem_nil, or_false] at hc
  have hc2 : ∃ k : Nat, c = s1.heap.objs.size + k := by
   rcases hc with rfl | rfl | rfl | rfl | rfl
   ·exact ⟨4, rfl⟩
   ·exact ⟨2, rfl⟩
   ·exact ⟨3, rfl⟩
   ·exact ⟨0, rfl⟩
   ·exact ⟨1, rfl⟩
  obtain ⟨k, rfl⟩ := hc2
  exact Nat.le_add_right _ k
 exact I1.fpOk hc' (I1.hok.fresh hc')
variable {σ : St} {H : Hp} {R : It -> Hp -> Prop} {g : TG} {tb : TS} {D : Ends} {a b : Addr} {xs ys : List V}
theorem ap_iZip : aeo K ta σ H R = ta σ H fun vs H1 => ∃ a b, vs = [.ref a, .ref b] /\ (∃ xs, SqL K H1 a xs) /\ (∃ ys, SqL K H1 b ys) /\ R (Itz K a b) H1 := rfl
theorem ForP.zip (Pv : Nat -> St -> Hp -> Prop) (hlen : xs.length = ys.length) (h0 : Pv 0 σ H) (hl : ∀ i σ H, i <= xs.length -> Pv i σ H -> SqL K H a xs /\ SqL K H b ys)
  (hs : ∀ i x y σ H p, xs[i]? = some x -> ys[i]? = some y -> Pv i σ H -> H p = none -> g (.ref p) σ (upd H p (.tup [x, y])) fun σ2 H2 => tb { D with nx := Pv (i + 1), ct := Pv (i + 1), bk := D.nx } σ2 H2) (hd : ∀ σ H, Pv xs.length σ H -> D.nx σ H) : ForP (Itz K a b) g tb D σ H := by
 refine ⟨fun i m σ H => m = xs.length - i /\ i <= xs.length /\ Pv i σ H, ⟨xs.length, by simp, Nat.zero_le _, h0⟩, ?_⟩
 rintro i m σ H ⟨rfl, hi, p⟩
 obtain ⟨q1, q2⟩ := hl i σ H hi p
 by_cases hlt : i < xs.length
 ·refine .inr ⟨⟨xs, ys, xs[i], ys[i], q1, q2, by simp [hlt], by simp [hlen ▸ hlt]⟩, Pv (i + 1), fun σ' H' p' => ⟨xs.length - (i + 1), by omega, rfl, hlt, p'⟩, fun v H' y => ?_⟩
  obtain ⟨pp, x, y, hp, rfl, rfl, e1, e2⟩ := y
  exact hs i x y σ _ pp (e1 xs q1) (e2 ys q2) p hp
 ·have e : i = xs.length := by omega
  subst e
  exact .inl ⟨⟨xs, ys, q1, q2, .inl (Nat.le_refl _)⟩, hd σ H p⟩
end
end L2
namespace L2
open PySem PySem.Spec PyProof.Rows
def DK (h h' : Heap) : Prop := ∀ b o, h.get? b = some o -> ∃ o', h'.get? b = some o' /\ o'.dict = o.dict
theorem DK.refl {h : Heap} : DK h h := fun b o e => ⟨o, e, rfl⟩
theorem DK.trans {h h1 h2 : Heap} (a : DK h h1) (b : DK h1 h2) : DK h h2 := fun c o e => by
 obtain ⟨o1, e1, d1⟩ := a c o e
 obtain ⟨o2, e2, d2⟩ := b c o1 e1
 exact ⟨o2, e2, d2.trans d1⟩
structure KD {α : Type} (t : Sem α) : Prop where
 out : ∀ (M : Model) (Γ : PySem.Ctx) (P : α -> Pos -> Shared -> Prop) (E : Value -> Pos -> Shared -> Prop) (p : Pos) (s : Shared), Sem.wp M Γ t P E p s -> Sem.wp M Γ t (fun a p' s' => P a p' s' /\ DK s.heap s'.heap) E p s
theorem KD.bind {α β : Type} {m : Sem α} {f : α -> Sem β} (h : KD m) (k : ∀ a, KD (f a)) : KD (m >>= f) := ⟨fun M Γ P E p s hw => by
 have hw : Sem.wp M Γ (m.bind f) P E p s := hw
 show Sem.wp M Γ (m.bind f) _ E p s
 rw [Sem.wp_bind] at hw ⊢
 refine Sem.wp_mono M Γ m (fun a p1 s1 h1 => ?_) (fun _ _ _ z => z) p s (h.out M Γ _ E p s hw)
 exact Sem.wp_mono M Γ (f a) (fun b p2 s2 h2 => ⟨h2.1, h1.2.trans h2.2⟩) (fun _ _ _ z => z) p1 s1 ((k a).out M Γ P E p1 s1 h1.1)⟩
theorem KD.pure {α : Type} (a : α) : KD (Pure.pure a : Sem α) := ⟨fun M Γ P E p s h => ⟨h, DK.refl⟩⟩
theorem KD.uns {α : Type} (w : String) : KD (unsupported w : Sem α) := ⟨fun M Γ P E p s h => h⟩
theorem KD.load (a : Addr) : KD (load a) := ⟨fun M Γ P E p s ⟨o, e, h⟩ => ⟨o, e, h, DK.refl⟩⟩
theorem KD.stack : KD PySem.stack := ⟨fun M Γ P E p s h => ⟨h, DK.refl⟩⟩
theorem KD.alloc (o : Obj) : KD (alloc o) := ⟨fun M Γ P E p s h => ⟨h, fun b o' e => ⟨o', Heap.get?_push_of_some o e, rfl⟩⟩⟩
theorem adg {h : Heap} {a : Addr} {o : Obj} (e : h.get? a = some o) : o.isFreed = false := by
 unfold Heap.get? at e
 split at e
 ·cases e
 ·rename_i hn
  obtain ⟨c, dd, da, sl⟩ := o
  cases da <;> first | rfl | exact (hn _ _ _ e).elim
theorem KD.update (a : Addr) (f : Obj -> Obj) (hf : ∀ o, o.isFreed = false -> (f o).isFreed = false /\ (f o).dict = o.dict) : KD (update a f) := ⟨fun M Γ P E p s ⟨e, h⟩ => ⟨e, h, fun b o eb => by
 by_cases hb : b = a
 ·subst hb
  obtain ⟨f1, f2⟩ := hf o (adg eb)
  exact ⟨f o, Heap.get?_update_self f eb f1, f2⟩
 ·exact ⟨o, Heap.get?_update_of_ne f (Ne.symm hb) eb, rfl⟩⟩⟩
theorem KQ {α : Type} {M : Model} {A : Around} {t : Sem α} {Q : α -> Shared -> Prop} {E : Value -> Shared -> Prop} {s : Shared} (k : KD t) (h : wpAny M A t Q E s) : wpAny M A t (fun a s' => Q a s' /\ DK s.heap s'.heap) E s := fun Γ p hA => k.out M Γ _ _ p s (h Γ p hA)
theorem KD.fieldsOf (v : Value) : KD (fieldsOf v) := by
 unfold PySem.fieldsOf
 split
 ·refine (KD.load _).bind fun o => ?_
  split
  ·exact .pure _
  ·exact .uns _
 ·exact .uns _
theorem KD.field (v : Value) (i : Nat) : KD (field v i) := by
 unfold PySem.field
 refine (KD.fieldsOf v).bind fun o => ?_
 split
 ·exact .pure _
 ·exact .uns _
theorem KD.updateField (a : Addr) (i : Nat) (v : Value) : KD (updateField a i v) := by
 unfold PySem.updateField
 refine (KD.load _).bind fun o => ?_
 split
 ·split
  ·refine KD.update _ _ fun o h => ?_
   unfold Obj.mapFields
   split
   ·exact ⟨rfl, rfl⟩
   ·exact ⟨h, rfl⟩
  ·exact .uns _
 ·exact .uns _
theorem KD.setField (v : Value) (i : Nat) (x : Value) : KD (setField v i x) := by
 unfold PySem.setField
 split
 ·exact KD.updateField _ _ _
 ·exact .uns _
theorem KD.setFlight (e : Value) (f : Option Addr) : KD (setFlight e f) := by
 unfold PySem.setFlight
 refine (KD.field _ _).bind fun tb => ?_
 split
 ·exact KD.setField _ _ _
 ·exact .pure _
theorem KD.readyFrames : ∀ l, KD (readyFrames l)
 | [] => by rw [readyFrames.eq_1]; exact .pure _
 | env :: l => by
  rw [readyFrames.eq_2]
  split
  ·refine (KD.load _).bind fun o => ?_
   split
   ·exact .pure _
   ·refine KD.bind ?_ fun im => KD.bind ?_ fun bk => KD.bind (KD.update _ _ fun o h => ⟨by obtain ⟨c, dd, da, sl⟩ := o; cases da <;> first | rfl | exact h, rfl⟩) fun _ => KD.readyFrames l
    ·unfold behindIsImport
     split
     ·exact .pure _
     ·split
      ·exact .pure _
      ·exact (KD.field _ _).bind fun _ => .pure _
    ·unfold keptBack
     split
     ·split
      ·exact .pure _
      ·refine KD.bind ?_ fun _ => .pure _
       unfold underTheClaimsCaller
       exact KD.stack.bind fun _ => .pure _
     ·exact .pure _
  ·exact .uns _
theorem KD.frameOf (env : Env) : KD (frameOf env) := by
 unfold PySem.frameOf
 refine KD.bind ?_ fun l => KD.bind ?_ fun f => ?_
 ·unfold frameEnvs
  exact KD.stack.bind fun _ => .pure _
 ·unfold frameObject
  split
  ·exact .pure _
  ·exact (KD.readyFrames _).bind fun _ => .pure _
 ·split
  ·exact .pure _
  ·exact .uns _
theorem KD.entryPlaceOf (f : Addr) (b : Bool) : KD (entryPlaceOf f b) := by
 unfold PySem.entryPlaceOf
 refine KD.stack.bind fun acts => ?_
 split <;> exact .pure _
theorem KD.newRec (ty : String) (vs : Array Value) : KD (newObj (.type ty) (.fields vs)) := by
 have h : KD (newObjAsIs (.type ty) (.fields vs)) := (KD.alloc _).bind fun _ => .pure _
 unfold newObj
 dsimp only
 split
 ·exact KD.bind (.uns _) fun _ => h
 ·exact h
theorem KD.newEntry (a b c d e : Value) (l : List Value) : KD (EntryCells.newEntry a b c d e l) := by
 unfold EntryCells.newEntry newFields
 exact KD.newRec _ _
theorem KD.noteFrame (e : Value) (env : Env) : KD (noteFrame e env) := by
 unfold PySem.noteFrame
 split
 ·refine (KD.field _ _).bind fun head => ?_
  have jp : ∀ f, KD (do
   let a <- PySem.frameOf env
   let pl <- PySem.entryPlaceOf f (head != Value.none)
   let b <- EntryCells.newEntry head a Value.none (rawInt f) Value.none pl
   PySem.setField e 1 b) := fun f => (KD.frameOf env).bind fun _ => (KD.entryPlaceOf _ _).bind fun _ => (KD.newEntry _ _ _ _ _ _).bind fun _ => KD.setField _ _ _
  dsimp only
  split
  ·refine (KD.field _ _).bind fun x => ?_
   split
   ·exact .pure _
   ·exact (KD.setField _ _ _).bind fun _ => jp _
  ·exact jp _
 ·exact .uns _
theorem KD.leaving (env : Env) (e : Value) : KD (leaving env e) := by
 unfold PySem.leaving
 exact (KD.noteFrame _ _).bind fun _ => KD.setFlight _ _
def DictIs (h : Heap) (e : Addr) (dd : Option Addr) : Prop := ∃ o, h.get? e = some o /\ o.dict = dd
theorem DictIs.dk {h h' : Heap} {e : Addr} {dd : Option Addr} (x : DictIs h e dd) (k : DK h h') : DictIs h' e dd := by
 obtain ⟨o, e1, e2⟩ := x
 obtain ⟨o', e3, e4⟩ := k e o e1
 exact ⟨o', e3, e4.trans e2⟩
end L2
namespace L2
open PySem PySem.Spec PyProof.Rows
def CX1 (P : Program) (w : World) : CXT := fun outer H s E e s' => ∃ (ea C : Addr) (a0 : Value) (H' : Hp) (B : Heap) (dd : Option Addr), e = .ref ea /\ s'.os = s.os /\ AllBare s'.gens /\ Un (frs outer) [] H H' s.heap s'.heap /\ HOk P w H' B /\
 Heap.FlyingW B outer ea (.ref C) a0 s'.heap /\ (∀ b o, s.heap.get? b = some o -> H b = none -> b ∉ frs outer -> B.get? b = some o) /\ (∀ b o, s.heap.get? b = some o -> b ∉ frs outer -> ∃ o', B.get? b = some o') /\ H' ea = none /\ DictIs s'.heap ea dd /\ E (.ref C) dd H'
theorem aak {P : Program} {w : World} {X : Cx} : Jg (CX1 P w) X E0 := fun _ _ _ _ _ _ _ ⟨_, _, _, _, _, _, _, _, _, _, _, _, _, _, _, _, h⟩ => h.elim
section
variable {P : Program} {w : World} {K : Fg_} {mg : Str -> Option Value} {base : Heap} {N : List Str} {qual : Str} {scope : Scope} {f : Addr} {cd : Value} {A : Around} {outer : List Env} {s₀ : Shared} {H₀ : Hp} {E : XK}
theorem WR {pins : List (Addr × Obj)} {σ : St} {H : Hp} {s : Shared} {e C : Addr} {oe : Obj} {vs : Array Value} {a0 : Value} (I : Inv (Lk (CX1 P w) P w K mg base N qual scope f cd A outer s₀ H₀ E) pins σ H s) (he : s.heap.get? e = some oe) (hcl : oe.cls = .ref C) (hda : oe.data = .fields vs) (h1 : vs[1]? = some .none) (h0 : vs[0]? = some a0)
  (hH : H e = none) (hs0 : s₀.heap.get? e = none) (hE : E (.ref C) oe.dict H) : (Lk (CX1 P w) P w K mg base N qual scope f cd A outer s₀ H₀ E).xe (.ref e) s := by
 have hstk : (Lk (CX1 P w) P w K mg base N qual scope f cd A outer s₀ H₀ E).stack = envOfC qual scope s₀.heap.objs.size f cd :: outer := rfl
 have fr := I.ok.frames
 have nfr : ∀ b o, s₀.heap.get? b = some o -> b ∉ frs outer -> b ∉ frs (envOfC qual scope s₀.heap.objs.size f cd :: outer) := fun b o q n hb => by
  rcases List.mem_cons.mp (I.stkSub b hb) with z | z
  ·exact absurd (Heap.lt_size q) (by rw [z]; exact Nat.lt_irrefl _)
  ·exact n z
 have hin : ∀ env ∈ (envOfC qual scope s₀.heap.objs.size f cd :: outer), ∀ b, env.frame = some b -> b ∈ e :: frs (envOfC qual scope s₀.heap.objs.size f cd :: outer) := fun env he b hb => List.mem_cons_of_mem _ (List.mem_filterMap.mpr ⟨env, he, hb⟩)
 have stk : s.heap.FunFrames (PySem.W.hideAll s.heap (e :: frs (envOfC qual scope s₀.heap.objs.size f cd :: outer))) (envOfC qual scope s₀.heap.objs.size f cd :: outer) := PySem.W.funFrames_hide I.stack hin
 have hB : ∀ b o, s.heap.get? b = some o -> b ≠ e -> b ∉ frs (envOfC qual scope s₀.heap.objs.size f cd :: outer) -> (PySem.W.hideAll s.heap (e :: frs (envOfC qual scope s₀.heap.objs.size f cd :: outer))).get? b = some o := fun b o q ne n => PySem.W.hideAll_get _ q fun z => (List.mem_cons.mp z).elim ne n
 have hBe : (PySem.W.hideAll s.heap (e :: frs (envOfC qual scope s₀.heap.objs.size f cd :: outer))).get? e = none := PySem.W.hideAll_none _ List.mem_cons_self
 refine wpAny_mono (KQ (KD.leaving _ _) (wpAny_leaving_firstW (base := PySem.W.hideAll s.heap (e :: frs (envOfC qual scope s₀.heap.objs.size f cd :: outer))) (Q := fun _ s2 => ∃ h2, s2 = { s with heap := h2 } /\ Heap.LeftW (PySem.W.hideAll s.heap (e :: frs (envOfC qual scope s₀.heap.objs.size f cd :: outer))) (envOfC qual scope s₀.heap.objs.size f cd :: outer) e oe.cls a0 s.heap h2) fr stk rfl he (fun b o q => PySem.W.of_hideAll _ q) hBe hda h1 h0 fun h2 lw => ⟨h2, rfl, lw⟩)) (fun _ s2 z => ?_) (fun _ _ z => z)
 obtain ⟨⟨h2, rfl, st, ff, tr, ups⟩, dk⟩ := z
 rw [hcl] at tr
 have ne0 : ∀ b o, s₀.heap.get? b = some o -> b ≠ e := fun b o q z => by rw [z, hs0] at q; cases q
 have k1 : ∀ b o, s₀.heap.get? b = some o -> H₀ b = none -> b ∉ frs outer -> (PySem.W.hideAll s.heap (e :: frs (envOfC qual scope s₀.heap.objs.size f cd :: outer))).get? b = some o := fun b o q n hb => hB b o (I.base.keep b o q n hb (by simp [Lk])) (ne0 b o q) (nfr b o q hb)
 have k2 : ∀ b o, s₀.heap.get? b = some o -> b ∉ frs outer -> ∃ o', (PySem.W.hideAll s.heap (e :: frs (envOfC qual scope s₀.heap.objs.size f cd :: outer))).get? b = some o' := fun b o q hb => by
  obtain ⟨o', q'⟩ := I.base.there b o q (by simp [Lk])
  exact ⟨o', hB b o' q' (ne0 b o q) (nfr b o q hb)⟩
 have k3 : ∀ b o, s₀.heap.get? b = some o -> b ∈ frs outer -> ∃ o1, s.heap.get? b = some o1 /\ (H₀ b = none -> ∃ sl, o1 = { o with slots := sl }) /\ ∃ sl, h2.get? b = some { o1 with slots := sl } := fun b o q hb => by
  obtain ⟨o1, q1⟩ := I.base.there b o q (by simp [Lk])
  have hm : b ∈ frs (envOfC qual scope s₀.heap.objs.size f cd :: outer) := by
   obtain ⟨env, he, hf⟩ := List.mem_filterMap.mp hb
   exact List.mem_filterMap.mpr ⟨env, List.mem_cons_of_mem _ he, hf⟩
  obtain ⟨_, o2, q2, nd⟩ := stk.mem hm
  rw [q1] at q2; cases q2
  refine ⟨o1, q1, fun n => ?_, ups b o1 q1 nd⟩
  obtain ⟨sl, q3⟩ := I.base.slot b o q n hb (by simp [Lk])
  rw [q1] at q3
  exact ⟨sl, Option.some.inj q3⟩
 have fo : h2.FunFrames (PySem.W.hideAll s.heap (e :: frs (envOfC qual scope s₀.heap.objs.size f cd :: outer))) outer := ff.2.2
 refine ⟨e, C, a0, H, _, oe.dict, rfl, I.os, I.bare, ⟨fun b o q n hb _ => st b o (k1 b o q n hb), fun b o q n hb _ => ?_, fun b o q n _ => I.base.free b o q n (by simp [Lk]), fun b o q _ => ?_, I.base.tups, I.base.frzs, I.base.tbls⟩, fun a o q => ?_, ⟨st, hBe, fo, tr⟩, k1, k2, hH, DictIs.dk ⟨oe, he, rfl⟩ dk, hE⟩
 ·obtain ⟨o1, _, e1, sl, e2⟩ := k3 b o q hb
  obtain ⟨sl1, rfl⟩ := e1 n
  exact ⟨sl, e2⟩
 ·by_cases hb : b ∈ frs outer
  ·obtain ⟨o1, _, _, sl, e2⟩ := k3 b o q hb
   exact ⟨_, e2⟩
  ·obtain ⟨o', q'⟩ := k2 b o q hb
   exact ⟨o', st b o' q'⟩
 ·have nf : ∀ b u, H b = some u -> b ∉ frs (envOfC qual scope s₀.heap.objs.size f cd :: outer) := fun b u z hb => by
   have := I.stkFree b hb
   rw [this] at z; cases z
  have nn : ∀ b u, H b = some u -> b ≠ e := fun b u z hb => by rw [hb, hH] at z; cases z
  refine (I.hok a o q).stay (fun b u hb z => ?_) (fun _ z => z) fun _ _ z => z
  rcases hb with z1 | z1
  ·subst z1; exact hB b u z (nn b o q) (nf b o q)
  ·exact hB b u z (nn b _ z1) (nf b _ z1)
theorem Sq : Jg (CX1 P w) (Lk (CX1 P w) P w K mg base N qual scope f cd A outer s₀ H₀ E) E := by
 intro pins σ H s e s' I h
 obtain ⟨ea, C, a0, H', B, dd, rfl, os, bare, un, hok, fl, k1, k2, hn, hdd, hE⟩ := h
 have hstk : (Lk (CX1 P w) P w K mg base N qual scope f cd A outer s₀ H₀ E).stack = envOfC qual scope s₀.heap.objs.size f cd :: outer := rfl
 rw [hstk] at un fl k1 k2
 have nfr : ∀ b o, s₀.heap.get? b = some o -> b ∉ frs outer -> b ∉ frs (envOfC qual scope s₀.heap.objs.size f cd :: outer) := fun b o q n hb => by
  rcases List.mem_cons.mp (I.stkSub b hb) with z | z
  ·exact absurd (Heap.lt_size q) (by rw [z]; exact Nat.lt_irrefl _)
  ·exact n z
 refine wpAny_mono (KQ (KD.leaving _ _) (wpAny_leaves_onW (Q := fun _ s2 => ∃ h2, s2 = { s' with heap := h2 } /\ Heap.FlyingW B outer ea (.ref C) a0 h2 /\ Heap.UpToSlots s'.heap h2) I.ok.frames rfl fl fun h2 fl2 ups => ⟨h2, rfl, fl2, ups⟩)) (fun _ s2 z => ?_) (fun _ _ z => z)
 obtain ⟨⟨h2, rfl, fl2, ups⟩, dk⟩ := z
 have st : ∀ b o, B.get? b = some o -> h2.get? b = some o := fl2.1
 have q1 : ∀ b o, s₀.heap.get? b = some o -> H₀ b = none -> b ∉ frs outer -> B.get? b = some o := fun b o q n hb => k1 b o (I.base.keep b o q n hb (by simp [Lk])) (I.base.free b o q n (by simp [Lk])) (nfr b o q hb)
 have q2 : ∀ b o, s₀.heap.get? b = some o -> b ∉ frs outer -> ∃ o', B.get? b = some o' := fun b o q hb => by
  obtain ⟨o', q'⟩ := I.base.there b o q (by simp [Lk])
  exact k2 b o' q' (nfr b o q hb)
 have q3 : ∀ b o, s₀.heap.get? b = some o -> b ∈ frs outer -> ∃ o1, s'.heap.get? b = some o1 /\ (H₀ b = none -> ∃ sl, o1 = { o with slots := sl }) /\ ∃ sl, h2.get? b = some { o1 with slots := sl } := fun b o q hb => by
  have hm : b ∈ frs (envOfC qual scope s₀.heap.objs.size f cd :: outer) := by
   obtain ⟨env, he, hf⟩ := List.mem_filterMap.mp hb
   exact List.mem_filterMap.mpr ⟨env, List.mem_cons_of_mem _ he, hf⟩
  obtain ⟨_, o1, z1, nd⟩ := fl.2.2.1.mem hm
  refine ⟨o1, z1, fun n => ?_, ups b o1 z1 nd⟩
  obtain ⟨sl, y1⟩ := I.base.slot b o q n hb (by simp [Lk])
  obtain ⟨sl2, y2⟩ := un.slot b _ y1 (I.base.free b o q n (by simp [Lk])) hm (by simp)
  rw [z1] at y2
  exact ⟨sl2, Option.some.inj y2⟩
 refine ⟨ea, C, a0, H', B, dd, rfl, os.trans I.os, bare, ⟨fun b o q n hb _ => st b o (q1 b o q n hb), fun b o q n hb _ => ?_, fun b o q n _ => ?_, fun b o q _ => ?_, fun b xs z => un.tups b xs (I.base.tups b xs z), fun b o xs z => un.frzs b o xs (I.base.frzs b o xs z), fun b ps z => ?_⟩, hok, fl2, q1, q2, hn, hdd.dk dk, hE⟩
 ·obtain ⟨o1, _, e1, sl, e2⟩ := q3 b o q hb
  obtain ⟨sl1, rfl⟩ := e1 n
  exact ⟨sl, e2⟩
 ·obtain ⟨o', q'⟩ := I.base.there b o q (by simp [Lk])
  exact un.free b o' q' (I.base.free b o q n (by simp [Lk])) (by simp)
 ·by_cases hb : b ∈ frs outer
  ·obtain ⟨o1, _, _, sl, e2⟩ := q3 b o q hb
   exact ⟨_, e2⟩
  ·obtain ⟨o', q'⟩ := q2 b o q hb
   exact ⟨o', st b o' q'⟩
 ·obtain ⟨m1, e1⟩ := I.base.tbls b ps z
  obtain ⟨m2, e2⟩ := un.tbls b _ e1
  exact ⟨m1 ++ m2, by rw [e2, Array.append_assoc]⟩
end
end L2
namespace L2
open PySem PySem.Spec PyProof.Rows
structure XCls (K : Fg_) (C : Addr) : Prop where
 ex : PySem.W.excIn K C [.type "ValueError", .type "Exception", .type "BaseException", .type "object"] "ValueError.__new__" = true
theorem XCls.obj {K : Fg_} {C : Addr} {h : Heap} (c : XCls K C) (X : K.In h) : ∃ bm N nm qn bs hdc sn sub ab col dd k0 k1 k2 k3 k5 mN, h.get? C = some (excClassObj nm qn C N bs bm hdc sn sub ab col dd k0 k1 k2 k3 k5 "ValueError.__new__") /\ h.Ns N mN /\ mN "__init__" = none /\
  OwnTail h [.type "ValueError", .type "Exception", .type "BaseException", .type "object"] bm := by
 have z := c.ex
 unfold PySem.W.excIn at z
 split at z
 ·rename_i dd cd sl hlook
  split at z
  ·rename_i C2 tl k0 k1 k2 k3 nn k5 hmro hsl
   simp only [Bool.and_eq_true, beq_iff_eq, Bool.not_eq_true'] at z
   obtain ⟨⟨⟨⟨⟨e1, e2⟩, e3⟩, e4⟩, e5⟩, e6⟩ := z
   subst e1 e2
   obtain ⟨nm, bs, mro, ns, qn, hdc, sn, sub, ab, col, del⟩ := cd
   dsimp only at hmro e3 e5 e6
   subst hmro e3
   obtain ⟨lst⟩ := sl
   dsimp only at hsl
   subst hsl
   exact ⟨tl, ns, nm, qn, bs, hdc, sn, sub, ab, col, dd, k0, k1, k2, k3, k5, _, X _ _ hlook, .of_isNs (PySem.W.isNs_of_in X e5), PySem.W.nsMap_none_of_in X e5 e6, PySem.W.tail_of_in X e4⟩
  ·cases z
 ·cases z
section
variable {X : Cx} {x : Str} {C : Addr} {E : XK} {e : Expr} {es : List Expr} {t : TA} {np cpos pos : Pos}
theorem Fun.okX {P : Program} {w : World} {K : Fg_} {mg : Str -> Option Value} {base : Heap} {x qual : Str} {st : Stmt} {f : Addr} {fd : FuncData} {N ps : List Str} {k : Nat} {sp : Sp} (F : Fun K x qual st f fd) (S : FnScope N ps (Ag st)) (len : ∀ vs H Q E, sp vs H Q E -> vs.length = ps.length)
  (hbody : ∀ (cdv : Value) (A : Around) (outer : List Env) (s : Shared) (H : Hp) (vs : List V) (Q : VK) (E : XK), Room k (A.deeper (envOfC qual (Ag st) s.heap.objs.size f cdv)) -> sp vs H Q E ->
   ∃ t, PSs (Lk (CX1 P w) P w K mg base N qual (Ag st) f cdv A outer s H E) (CJ st) t /\ t { nx := fun _ H' => Q .non H', rt := Q } (start N vs) H) : FnOk P w K mg base (CX1 P w) (k + 1) f fd ps sp := by
 obtain ⟨oc, od, kV, doc, pm, an, cdv, ct, osl, rfl, lk, hcd⟩ := F.ex
 exact aaZ lk hcd S len fun A outer s H vs Q E hr hsp => hbody cdv A outer s H vs Q E hr hsp
end
end L2
namespace L2
open PySem PySem.Spec PyProof.Rows
section
variable {prog : Program} {w : World} {A : Around} {E : Value -> Shared -> Prop} {h : Heap} {g : Array GenState} {d : Drawn} {t : Nat} {os : OsState} {a : Addr} {o : Obj}
 {nm q : Str} {C N : Addr} {bs bm : List Value} {hdct : Bool} {sn : List Str} {sub : List Value} {ab : Bool} {col : Option Bool} {dd : Option Addr} {k0 k1 k2 k3 k5 : Option Value} {newId : String} {K : Fg_}
theorem adp {R : Result -> Shared -> Prop} (hC : h.get? C = some (excClassObj nm q C N bs bm hdct sn sub ab col dd k0 k1 k2 k3 k5 newId)) (hob : bm.contains (.type "object") = true)
  (hx : h.get? a = some o) (hc : o.cls = .ref C) (hq : R (.ok (.ret (.ref C))) ⟨h, g, d, t, os⟩) :
  codeAny (model prog w) A (.call (.builtin "getset_descriptor.__get__") ⟨[.builtin "object.__class__", .ref a, .ref C], []⟩) R ⟨h, g, d, t, os⟩ := by
 have hT5 : (⟨h, g, d, t, os⟩ : Shared).TypeIs (.builtin "object.__class__") "getset_descriptor" := F.typeOf_object_class
 have hcB : (Value.ref C :: bm).contains (.type (".".intercalate ("object.__class__".cutAt '.').dropLast)) = true := by
  rw [show (".".intercalate ("object.__class__".cutAt '.').dropLast) = "object" by decide +kernel, List.contains_cons, hob, Bool.or_true]
 refine codeAny_call_builtin F.slot_gs_get.plain F.entry_gs_get (F.slot_gs_get.check _ _ _ _ _ _ _ _ hT5 (F.args_gs_get _ _ _) ?_)
 repeat (any_goals (first | assumption | (with_reducible refine wpAny_loadPart_at hx ?_; rw [hc]) | (with_reducible refine wpAny_isSubtype_exc hC ?_; rw [hcB]) | wp_step))
 refine ⟨Code.quiet_builtin _ (by decide +kernel), codeAny_builtin F.entry_object_class ?_⟩
 repeat (any_goals (first | assumption | (with_reducible refine wpAny_loadPart_at hx ?_; rw [hc]) | wp_step))
structure XAsk (K : Fg_) (C : Addr) : Prop where
 cl : PySem.W.findIn K (.ref C) "__class__" = some (some (.builtin "object.__class__"))
 ga : PySem.W.findIn K (.ref C) "__getattribute__" = some (some (.builtin "BaseException.__getattribute__"))
 gh : PySem.W.findIn K (.ref C) "__getattr__" = some none
theorem aal {tk : Tok} {Q : Fin -> Shared -> Prop} (KX : K.In h) (Z : XAsk K C) (hC : h.get? C = some (excClassObj nm q C N bs bm hdct sn sub ab col dd k0 k1 k2 k3 k5 newId)) (hob : bm.contains (.type "object") = true)
  (hx : h.get? a = some o) (hc : o.cls = .ref C) (hq : Q (.done (.ret (.ref C))) ⟨h, g, d, t, os⟩) :
  wpAny (model prog w) A (Builtin.«object.__getattribute__» ⟨[.ref a, .str "__class__" tk], []⟩) Q E ⟨h, g, d, t, os⟩ := by
 have hT5 : (⟨h, g, d, t, os⟩ : Shared).TypeIs (.builtin "object.__class__") "getset_descriptor" := F.typeOf_object_class
 have f5 := F.typeOf_object_class
 have f6 := F.slot_gs_get.lookup
 have f7 := F.slot_gs_set.lookup
 have LK := PySem.W.looks_findIn (M := model prog w) KX Z.cl
 repeat (any_goals (first | assumption | (with_reducible refine wpAny_loadPart_at hx ?_; rw [hc]) | with_reducible refine LK.at ?_ | wp_step))
 refine adp hC hob hx hc ?_
 repeat (any_goals (first | assumption | wp_step))
theorem abx {tk : Tok} {R : Result -> Shared -> Prop} (KX : K.In h) (Z : XAsk K C) (hC : h.get? C = some (excClassObj nm q C N bs bm hdct sn sub ab col dd k0 k1 k2 k3 k5 newId)) (hob : bm.contains (.type "object") = true) (hbe : bm.contains (.type "BaseException") = true)
  (hx : h.get? a = some o) (hc : o.cls = .ref C) (hq : R (.ok (.ret (.ref C))) ⟨h, g, d, t, os⟩) :
  codeAny (model prog w) A (.call (.builtin "BaseException.__getattribute__") ⟨[.ref a, .str "__class__" tk], []⟩) R ⟨h, g, d, t, os⟩ := by
 have hcB : (Value.ref C :: bm).contains (.type "BaseException") = true := by rw [List.contains_cons, hbe, Bool.or_true]
 have hk : builtinKind "BaseException.__getattribute__" = some .slot := by decide +kernel
 have hsplit : splitId "BaseException.__getattribute__" = some ("BaseException", "__getattribute__") := by decide +kernel
 have hargs := F.args_bexc_ga (.ref a) (.str "__class__" tk)
 have ck : ∀ {M : Model} {A' : Around} {E' : Value -> Shared -> Prop} {Q' : Unit -> Shared -> Prop}, Q' () ⟨h, g, d, t, os⟩ -> wpAny M A' (checkBuiltinCall "BaseException.__getattribute__" ⟨[.ref a, .str "__class__" tk], []⟩) Q' E' ⟨h, g, d, t, os⟩ := by
  intro M A' E' Q' hq'
  simp only [checkBuiltinCall, hk, hsplit]
  refine wpAny_bind ?_
  unfold isInstance
  repeat (first | (with_reducible refine wpAny_loadPart_at hx ?_; rw [hc]) | (with_reducible refine wpAny_isSubtype_exc hC ?_; rw [hcB]) | wp_step)
  exact hq'
 exact codeAny_call_builtin (by decide +kernel) F.entry_bexc_ga (ck (aal KX Z hC hob hx hc hq))
theorem adS {tk : Tok} {Q : Value -> Shared -> Prop} (KX : K.In h) (Z : XAsk K C) (hC : h.get? C = some (excClassObj nm q C N bs bm hdct sn sub ab col dd k0 k1 k2 k3 k5 newId)) (hob : bm.contains (.type "object") = true) (hbe : bm.contains (.type "BaseException") = true)
  (hx : h.get? a = some o) (hc : o.cls = .ref C) (hq : Q (.ref C) ⟨h, g, d, t, os⟩) :
  wpAny (model prog w) A (getAttrBy (.ref a) (.str "__class__" tk) false) Q E ⟨h, g, d, t, os⟩ := by
 have f3 := PySem.F.excAttr_ValueError.ga.bind (.ref a)
 have hx0 : (false && onTheHeap (Value.builtin "BaseException.__getattribute__")) = false := rfl
 have hx2 : (Value.builtin "BaseException.__getattribute__" == Value.builtin "object.__getattribute__") = false := by decide +kernel
 have hx1 : (onTheHeap (Value.ref C) && Value.builtin "BaseException.__getattribute__" == Value.builtin "object.__getattribute__") = false := by rw [hx2]; rfl
 have L1 := PySem.W.looks_findIn (M := model prog w) KX Z.ga
 have L2 := PySem.W.looks_findIn (M := model prog w) KX Z.gh
 repeat (any_goals (first | assumption | (with_reducible refine wpAny_loadPart_at hx ?_; rw [hc]) | with_reducible refine L1.at ?_ | with_reducible refine L2.at ?_ | wp_step))
 refine abx KX Z hC hob hbe hx hc ?_
 repeat (any_goals (first | assumption | wp_step))
theorem abi {Q : Option Value -> Shared -> Prop} (KX : K.In h) (Z : XAsk K C) (hC : h.get? C = some (excClassObj nm q C N bs bm hdct sn sub ab col dd k0 k1 k2 k3 k5 newId)) (hob : bm.contains (.type "object") = true) (hbe : bm.contains (.type "BaseException") = true)
  (hx : h.get? a = some o) (hc : o.cls = .ref C) (hq : Q (some (.ref C)) ⟨h, g, d, t + 1, os⟩) : wpAny (model prog w) A (getAttr? (.ref a) "__class__") Q E ⟨h, g, d, t, os⟩ := by
 unfold getAttr? getAttrBy?
 repeat (any_goals (first | assumption | with_reducible apply adS KX Z hC hob hbe hx hc | wp_step))
end
end L2
namespace L2
open PySem PySem.Spec PyProof.Rows
abbrev TX := St -> Hp -> VK -> XK -> Prop
def PEx (X : Cx) (CX : CXT) (e : Expr) (t : TX) : Prop :=
 ∀ (pins : List (Addr × Obj)) (s : Shared) (σ : St) (H : Hp) (Q : VK) (E : XK), Inv X pins σ H s -> t σ H Q E -> wpAny (model X.prog X.w) X.A (eval e X.env) (EP X pins σ Q) (fun ev s' => ∃ H1 s1, Inv X pins σ H1 s1 /\ CX X.stack H1 s1 E ev s') s
section
variable {X : Cx} {CX : CXT} {k : Nat} {f C : Addr} {fd : FuncData} {ps : List Str} {sp : Sp} {dvs : List V} {ds : List Value} {x : Str} {p pos : Pos} {e : Expr} {es : List Expr} {t : TA}
theorem abw {pins : List (Addr × Obj)} {σ : St} {H : Hp} {s : Shared} {Q : VK} {E : XK} {us : List Value} {vs : List V} (F : FnOk X.prog X.w X.K X.mg X.base CX k f fd ps sp) (hr : Room k X.A) (hb : Binds X.K fd ps ds) (hd : Vals dvs ds)
  (I : Inv X pins σ H s) (r : Vals vs us) (h : sp (vs ++ dvs) H Q E) : wpAny (model X.prog X.w) X.A (call (.ref f) us) (EP X pins σ Q) (fun ev s' => ∃ H1 s1, Inv X pins σ H1 s1 /\ CX X.stack H1 s1 E ev s') s := by
 have r2 : Vals (vs ++ dvs) (us ++ ds) := r.append hd
 have hl : (us ++ ds).length = ps.length := by rw [<- r2.length]; exact F.len _ _ _ _ h
 refine wpAny_call (codeAny_mono (F.run X.A X.stack s H ⟨us, []⟩ (us ++ ds) (vs ++ dvs) Q E hr I.env0 (hb s us I.kIn hl) r2 h) fun r s' hq => ?_)
 cases r with
 | error e => exact ⟨H, s, I, hq⟩
 | ok fl =>
  cases fl with
  | ret u => exact I.after hq
  | next => exact False.elim hq
  | brk => exact False.elim hq
  | cont => exact False.elim hq
abbrev Cx.inSuite (X : Cx) (ea : Addr) : Cx := { X with A := X.A.mark (some (.ref ea)), calm := false, xe := fun _ _ => False }
theorem Inv.inSuite {pins : List (Addr × Obj)} {σ : St} {H : Hp} {s : Shared} (I : Inv X pins σ H s) (ea : Addr) : Inv (X.inSuite ea) pins σ H s :=
 ⟨⟨I.ok.mod, I.ok.kind, I.ok.glob, I.ok.blt, I.ok.above, I.ok.inj, I.ok.has, I.ok.cab, fun z => (nomatch z), I.ok.frames, I.ok.stk, I.ok.exf, I.ok.bs, I.ok.bsz, I.ok.noex, I.ok.exfs, I.ok.funs, I.ok.frf⟩, I.os, I.bare, I.base, I.loc, I.cell, I.free, I.freeC, I.pin, I.hok, I.len⟩
theorem Inv.outSuite {pins : List (Addr × Obj)} {σ : St} {H : Hp} {s : Shared} {ea : Addr} (ok : X.Ok) (I : Inv (X.inSuite ea) pins σ H s) : Inv X pins σ H s :=
 ⟨ok, I.os, I.bare, I.base, I.loc, I.cell, I.free, I.freeC, I.pin, I.hok, I.len⟩
theorem Inv.gone {pins : List (Addr × Obj)} {σ : St} {H : Hp} {s : Shared} {i : Nat} {n : Str} {Q : Unit -> Shared -> Prop} {M : Model} {A : Around} {E : Value -> Shared -> Prop} {hpos : Pos} (I : Inv X pins σ H s) (hN : X.N.Nodup) (hi : X.N[i]? = some n) (hk : X.env.kindOf n = some .local)
  (h : ∀ s', Inv X pins (σ.set i none) H s' -> Q () s') : wpAny M A (do bindName X.env n .none; unbindBehindTheSuite X.env n hpos) Q E s := by
 obtain ⟨m, hn, hl⟩ := id I.loc
 obtain ⟨oL, _, _, hoL, _⟩ := id hn
 refine wpAny_nameGoes_keeps hk hn (by rw [I.ok.kind]; rfl) fun h' v hn' hs => h _ ?_
 have iL : ∀ b o, X.s₀.heap.get? b = some o -> b ≠ X.env.locals := fun b o e => Nat.ne_of_lt (Nat.lt_of_lt_of_le (Heap.lt_size e) I.ok.above)
 refine ⟨I.ok, I.os, I.bare, ⟨fun b o e n hb hx => (hs.2 b (iL b o e)).trans (I.base.keep b o e n hb hx), fun b o e n hb hx => ?_, I.base.free, fun b o e hx => ?_, I.base.tups, I.base.frzs, I.base.tbls⟩, ⟨_, hn', fun j y v' e1 e2 e3 => ?_⟩, fun y c e => ?_, I.free, I.freeC, fun p hp => ?_, fun b ob e => ?_, by simpa using I.len⟩
 ·obtain ⟨sl, e1⟩ := I.base.slot b o e n hb hx
  exact ⟨sl, (hs.2 b (iL b o e)).trans e1⟩
 ·obtain ⟨o', e1⟩ := I.base.there b o e hx
  exact ⟨o', (hs.2 b (iL b o e)).trans e1⟩
 ·by_cases hj : j = i
  ·subst hj
   by_cases hz : j < σ.length
   ·rw [List.getElem?_set_self hz] at e2; cases e2
   ·rw [List.getElem?_eq_none (by simpa using hz)] at e2; cases e2
  ·rw [List.getElem?_set_ne (Ne.symm hj)] at e2
   obtain ⟨u', r', q⟩ := hl j y v' e1 e2 e3
   refine ⟨u', r', ?_⟩
   have ny : y ≠ n := fun e => hj (Rh hN e1 (e ▸ hi))
   rcases q with ⟨k, e⟩ | ⟨k, c, e, z⟩
   ·exact .inl ⟨k, by show (if y = n then v else m y) = some u'; rw [if_neg ny]; exact e⟩
   ·exact .inr ⟨k, c, e, z.sameBut hs (I.cne y c e)⟩
 ·obtain ⟨w', z⟩ := I.cell y c e
  exact ⟨w', z.sameBut hs (I.cne y c e)⟩
 ·obtain ⟨e, n, ne, nf, d⟩ := I.pin p hp
  exact ⟨(hs.2 p.1 ne).trans e, n, ne, nf, d⟩
 ·refine (I.hok b ob e).stay (fun c w' hc q => (hs.2 c ?_).trans q) (fun _ q => q) fun _ _ q => q
  rintro rfl
  rcases hc with z | z
  ·rw [<- z, I.free] at e; cases e
  ·rw [I.free] at z; cases z
theorem Tw : ∀ {cs : List Addr} {its : List Value}, Vals (cs.map V.ref) its -> its = cs.map Value.ref
 | [], _, .nil => rfl
 | c :: r, _, .cons h t => by
  cases h
  rw [Tw t]
  rfl
end
end L2
namespace L2
open PySem PySem.Spec PyProof.Rows
section
variable {κ : Type} [DecidableEq κ]
def Gs (kvs : List (κ × V)) (k : κ) : Option V := (kvs.find? fun kv => decide (kv.1 = k)).map (·.2)
def putK (kvs : List (κ × V)) (k : κ) (v : V) : List (κ × V) :=
 if (kvs.any fun kv => decide (kv.1 = k)) = true then kvs.map (fun kv => if kv.1 = k then (kv.1, v) else kv) else kvs ++ [(k, v)]
def Il (kvs : List (κ × V)) (k : κ) : List (κ × V) := kvs.filter fun kv => decide (kv.1 ≠ k)
theorem Cw {p : κ × V} {r : List (κ × V)} {k : κ} (e : p.1 = k) : Gs (p :: r) k = some p.2 := by simp [Gs, List.find?_cons, e]
theorem Cq {p : κ × V} {r : List (κ × V)} {k : κ} (e : ¬ p.1 = k) : Gs (p :: r) k = Gs r k := by simp [Gs, List.find?_cons, e]
theorem Fq (k : κ) : ∀ kvs : List (κ × V), (kvs.any fun kv => decide (kv.1 = k)) = (Gs kvs k).isSome
 | [] => rfl
 | p :: r => by
  rw [List.any_cons]
  by_cases e : p.1 = k
  ·simp only [Cw e, decide_eq_true e, Bool.true_or, Option.isSome_some]
  ·rw [Cq e, decide_eq_false e, Bool.false_or]; exact Fq k r
theorem Wi (k j : κ) (y : V) : ∀ kvs : List (κ × V), Gs (kvs.map fun kv => if kv.1 = k then (kv.1, y) else kv) j = (Gs kvs j).map fun x => if j = k then y else x
 | [] => rfl
 | p :: r => by
  have ih := Wi k j y r
  rw [List.map_cons]
  by_cases h : p.1 = k
  ·rw [if_pos h]
   by_cases e : p.1 = j
   ·rw [Cw (p := (p.1, y)) e, Cw e, Option.map_some, if_pos (e.symm.trans h)]
   ·rw [Cq (p := (p.1, y)) e, Cq e, ih]
  ·rw [if_neg h]
   by_cases e : p.1 = j
   ·rw [Cw (p := p) e, Cw e, Option.map_some, if_neg (fun z => h (e.trans z))]
   ·rw [Cq (p := p) e, Cq e, ih]
theorem RL (k j : κ) (y : V) : ∀ kvs : List (κ × V), Gs kvs k = none -> Gs (kvs ++ [(k, y)]) j = if j = k then some y else Gs kvs j
 | [], _ => by
  by_cases e : k = j
  ·rw [if_pos e.symm]; exact Cw (p := (k, y)) e
  ·rw [if_neg (fun z => e z.symm)]; exact Cq (p := (k, y)) e
 | p :: r, hn => by
  rw [List.cons_append]
  have hk : ¬ p.1 = k := fun z => by rw [Cw z] at hn; cases hn
  rw [Cq hk] at hn
  have ih := RL k j y r hn
  by_cases e : p.1 = j
  ·rw [Cw e, Cw e, if_neg (fun z => hk (e.trans z))]
  ·rw [Cq e, Cq e, ih]
theorem aaC (kvs : List (κ × V)) (k j : κ) (y : V) : Gs (putK kvs k y) j = if j = k then some y else Gs kvs j := by
 unfold putK
 by_cases a : (kvs.any fun kv => decide (kv.1 = k)) = true
 ·rw [if_pos a, Wi]
  rw [Fq] at a
  by_cases e : j = k
  ·obtain ⟨x, hx⟩ := Option.isSome_iff_exists.mp a
   rw [if_pos e, e, hx, Option.map_some, if_pos rfl]
  ·rw [if_neg e]
   cases Gs kvs j with
   | none => rfl
   | some x => rw [Option.map_some, if_neg e]
 ·rw [if_neg a]
  refine RL k j y kvs ?_
  rw [Fq] at a
  cases q : Gs kvs k with
  | none => rfl
  | some x => rw [q] at a; exact (a rfl).elim
theorem NQ (kvs : List (κ × V)) (k : κ) (v : V) : (putK kvs k v).length <= kvs.length + 1 := by
 unfold putK
 split
 ·rw [List.length_map]; omega
 ·rw [List.length_append, List.length_cons, List.length_nil]; omega
theorem aam {kvs : List (κ × V)} {k : κ} (v : V) (h : Gs kvs k = none) : putK kvs k v = kvs ++ [(k, v)] := by
 unfold putK
 rw [Fq, h]
 exact if_neg (by decide)
theorem RelO.isSome_eq {o : Option V} {u : Option Value} (r : RelO o u) : o.isSome = u.isSome := by
 cases o with
 | none => cases u with
  | none => rfl
  | some _ => exact (show False from r).elim
 | some _ => cases u with
  | none => exact (show False from r).elim
  | some _ => rfl
theorem RelO.getD {o : Option V} {u : Option Value} {d : V} {d' : Value} (r : RelO o u) (rd : RelV d d') : RelV (o.getD d) (u.getD d') := by
 cases o with
 | none => cases u with
  | none => exact rd
  | some _ => exact (show False from r).elim
 | some _ => cases u with
  | none => exact (show False from r).elim
  | some _ => exact r
theorem KV.val {kvs : List (κ × V)} {vs : List (κ × Value)} (r : KV kvs vs) (k : κ) : RelO (Gs kvs k) (valueAt vs k) := by
 unfold KV at r
 induction r with
 | nil => exact True.intro
 | @cons p q ps qs h t ih =>
  obtain ⟨h1, h2⟩ := h
  by_cases e : p.1 = k
  ·have e' : q.1 = k := h1.symm.trans e
   have b : valueAt (q :: qs) k = some q.2 := by simp [valueAt, List.find?_cons, e']
   rw [Cw e, b]; exact h2
  ·have e' : ¬ q.1 = k := fun z => e (h1.trans z)
   have b : valueAt (q :: qs) k = valueAt qs k := by simp [valueAt, List.find?_cons, e']
   rw [Cq e, b]; exact ih
theorem KV.any {kvs : List (κ × V)} {vs : List (κ × Value)} (r : KV kvs vs) (k : κ) : (kvs.any fun kv => decide (kv.1 = k)) = vs.any fun kv => decide (kv.1 = k) := by
 unfold KV at r
 induction r with
 | nil => rfl
 | cons h t ih => rw [List.any_cons, List.any_cons, ih, h.1]
theorem KV.repl {kvs : List (κ × V)} {vs : List (κ × Value)} (r : KV kvs vs) (k : κ) {y : V} {u : Value} (ry : RelV y u) :
  KV (kvs.map fun kv => if kv.1 = k then (kv.1, y) else kv) (vs.map fun kv => if kv.1 = k then (kv.1, u) else kv) := by
 unfold KV at r ⊢
 induction r with
 | nil => exact .nil
 | @cons p q ps qs h t ih =>
  rw [List.map_cons, List.map_cons]
  refine .cons ?_ ih
  obtain ⟨h1, h2⟩ := h
  by_cases e : p.1 = k
  ·rw [if_pos e, if_pos (h1.symm.trans e)]; exact ⟨h1, ry⟩
  ·rw [if_neg e, if_neg (fun z => e (h1.trans z))]; exact ⟨h1, h2⟩
theorem KV.put {kvs : List (κ × V)} {vs : List (κ × Value)} (r : KV kvs vs) (k : κ) {y : V} {u : Value} (ry : RelV y u) : KV (putK kvs k y) (stored vs k u) := by
 unfold putK stored
 rw [r.any k]
 by_cases e : (vs.any fun kv => decide (kv.1 = k)) = true
 ·rw [if_pos e, if_pos e]; exact r.repl k ry
 ·rw [if_neg e, if_neg e]; exact Paired.snoc r ⟨rfl, ry⟩
theorem KV.drop {kvs : List (κ × V)} {vs : List (κ × Value)} (r : KV kvs vs) (k : κ) : KV (Il kvs k) (without vs k) := by
 unfold KV at r ⊢
 unfold Il without
 induction r with
 | nil => exact .nil
 | @cons p q ps qs h t ih =>
  obtain ⟨h1, h2⟩ := h
  rw [List.filter_cons, List.filter_cons]
  by_cases e : p.1 = k
  ·have a : ¬ decide (p.1 ≠ k) = true := by simp [e]
   have b : ¬ decide (q.1 ≠ k) = true := by simp [h1.symm.trans e]
   rw [if_neg a, if_neg b]; exact ih
  ·have e' : ¬ q.1 = k := fun z => e (h1.trans z)
   have a : decide (p.1 ≠ k) = true := by simp [e]
   have b : decide (q.1 ≠ k) = true := by simp [e']
   rw [if_pos a, if_pos b]; exact .cons ⟨h1, h2⟩ ih
theorem KV.keys {kvs : List (κ × V)} {vs : List (κ × Value)} (r : KV kvs vs) : kvs.map (·.1) = vs.map (·.1) := by
 unfold KV at r
 induction r with
 | nil => rfl
 | cons h t ih => rw [List.map_cons, List.map_cons, ih, h.1]
theorem KV.length {kvs : List (κ × V)} {vs : List (κ × Value)} (r : KV kvs vs) : kvs.length = vs.length := Paired.length r
theorem aaz (kvs : List (κ × V)) (k : κ) : (Il kvs k).length <= kvs.length := List.length_filter_le _ _
end
theorem Us {P : Program} {w : World} {k : Key} {u : Value} (r : RelV (kV k) u) : (BR P w).is k u = true := by
 cases k with
 | inl i => obtain ⟨t, e⟩ := (show ∃ t, u = Value.int i t from r); subst e; exact Ua P w i t
 | inr x => obtain ⟨t, e⟩ := (show ∃ t, u = Value.str x t from r); subst e; exact Vc P w x t
theorem RQ {P : Program} {w : World} : ∀ {ks : List Key} {us : List Value}, Vals (ks.map kV) us -> ItemsAre (BR P w) ks us
 | [], _, r => by rw [List.map_nil] at r; cases r; exact .nil
 | k :: ks, _, r => by
  rw [List.map_cons] at r
  cases r with
  | cons h t => exact .cons (Us h) (RQ t)
abbrev KT (H : Hp) : List (List Key × V) -> List (List Key × Addr × Value) -> Prop := Paired fun p q => p.1 = q.1 /\ H q.2.1 = some (.tup (p.1.map kV)) /\ RelV p.2 q.2.2
theorem KT.val {H : Hp} {kvs : List (List Key × V)} {xs : List (List Key × Addr × Value)} (r : KT H kvs xs) (k : List Key) : RelO (Gs kvs k) ((atKey xs k).map (·.2)) := by
 induction r with
 | nil => exact True.intro
 | @cons p q ps qs h t ih =>
  obtain ⟨h1, _, h2⟩ := h
  by_cases e : p.1 = k
  ·have e' : q.1 = k := h1.symm.trans e
   have b : atKey (q :: qs) k = some q.2 := by simp [atKey, List.find?_cons, e']
   rw [Cw e, b]; exact h2
  ·have e' : ¬ q.1 = k := fun z => e (h1.trans z)
   have b : atKey (q :: qs) k = atKey qs k := by simp [atKey, List.find?_cons, e']
   rw [Cq e, b]; exact ih
theorem KT.repl {H : Hp} {kvs : List (List Key × V)} {xs : List (List Key × Addr × Value)} (r : KT H kvs xs) (k : List Key) {y : V} {u : Value} (ry : RelV y u) :
  KT H (kvs.map fun kv => if kv.1 = k then (kv.1, y) else kv) (xs.map (putAt k u)) := by
 induction r with
 | nil => exact .nil
 | @cons p q ps qs h t ih =>
  rw [List.map_cons, List.map_cons]
  refine .cons ?_ ih
  obtain ⟨h1, h2, h3⟩ := h
  unfold putAt
  by_cases e : p.1 = k
  ·rw [if_pos e, if_pos (h1.symm.trans e)]; exact ⟨h1, h2, ry⟩
  ·rw [if_neg e, if_neg (fun z => e (h1.trans z))]; exact ⟨h1, h2, h3⟩
theorem KT.put {H : Hp} {kvs : List (List Key × V)} {xs : List (List Key × Addr × Value)} (r : KT H kvs xs) (k : List Key) {b : Addr} {y : V} {u : Value} (hb : H b = some (.tup (k.map kV))) (ry : RelV y u) :
  KT H (putK kvs k y) (storedH xs k b u) := by
 have e : (kvs.any fun kv => decide (kv.1 = k)) = (atKey xs k).isSome := by
  rw [Fq, (r.val k).isSome_eq, Option.isSome_map]
 unfold putK storedH
 rw [e]
 by_cases q : (atKey xs k).isSome = true
 ·rw [if_pos q, if_pos q]; exact r.repl k ry
 ·rw [if_neg q, if_neg q]; exact Paired.snoc r ⟨rfl, hb, ry⟩
theorem KT.keeps {H H' : Hp} {kvs : List (List Key × V)} {xs : List (List Key × Addr × Value)} (r : KT H kvs xs) (ht : ∀ b ys, H b = some (.tup ys) -> H' b = some (.tup ys)) : KT H' kvs xs :=
 Paired.mapP r fun _ _ z => ⟨z.1, ht _ _ z.2.1, z.2.2⟩
section
variable {P : Program} {w : World} {H : Hp} {h : Heap} {a : Addr}
theorem acN {u : HO} (ok : HOk P w H h) (e : Rd H a u) : ObjOk P w H h a u := e.ok ok
theorem Tg {kvs : List (Key × V)} (ok : HOk P w H h) (e : Rd H a (.dK kvs)) : kvs.length <= sizeLine /\ (a == sysModules) = false /\ ∃ vs, KV kvs vs /\ h.DictOf (BR P w) a vs :=
 show ObjOk P w H h a (.dK kvs) from acN ok e
theorem acf {kvs : List (Key × V)} (ok : HOk P w H h) (e : H a = some (.dK kvs)) : kvs.length <= sizeLine /\ (a == sysModules) = false /\ ∃ vs, KV kvs vs /\ h.DictOf (BR P w) a vs := Tg ok (.inl e)
theorem Qm {ks : List Key} (ok : HOk P w H h) (e : H a = some (.tup (ks.map kV))) : (tupleKind (BR P w)).is h ks a := by
 obtain ⟨_, its, r, o, h1, h2, n, h3⟩ := (show ObjOk P w H h a (.tup (ks.map kV)) from ok a _ e)
 exact ⟨o, its.toArray, n, h1, h2, h3, by simpa using RQ r⟩
theorem Uz {kvs : List (List Key × V)} (ok : HOk P w H h) (e : Rd H a (.dT kvs)) : kvs.length <= sizeLine /\ (a == sysModules) = false /\
  ∃ xs, KT H kvs xs /\ h.DictOfH (tupleKind (BR P w)) a xs := by
 obtain ⟨z, y, xs, r, o, es, ep, h1, h2, h3, h4, h5⟩ := (show ObjOk P w H h a (.dT kvs) from acN ok e)
 refine ⟨z, y, xs, r, o, es, ep, h1, h2, h3, h4, fun x hx => ?_, h5⟩
 have all : ∀ {l : List (List Key × V)} {m : List (List Key × Addr × Value)}, KT H l m -> ∀ x ∈ m, (tupleKind (BR P w)).is h x.1 x.2.1 := by
  intro l m q
  induction q with
  | nil => intro x hx; exact nomatch hx
  | @cons p q ps qs hq t ih =>
   intro x hx
   rcases List.mem_cons.mp hx with e | hx
   ·subst e
    exact Qm ok (by rw [<- hq.1]; exact hq.2.1)
   ·exact ih x hx
 exact all r x hx
theorem adP {kvs : List (List Key × V)} (ok : HOk P w H h) (e : H a = some (.dT kvs)) : kvs.length <= sizeLine /\ (a == sysModules) = false /\
  ∃ xs, KT H kvs xs /\ h.DictOfH (tupleKind (BR P w)) a xs := Uz ok (.inl e)
end
def DGet (H : Hp) (a : Addr) (y : V) (r : Option V) : Prop :=
 (∃ kvs k, Rd H a (.dK kvs) /\ y = kV k /\ r = Gs kvs k) \/ ∃ kvs k b, Rd H a (.dT kvs) /\ y = .ref b /\ H b = some (.tup (k.map kV)) /\ r = Gs kvs k
def DPut (H : Hp) (a : Addr) (y v : V) (H' : Hp) : Prop :=
 (∃ kvs k, H a = some (.dK kvs) /\ y = kV k /\ kvs.length < sizeLine /\ H' = upd H a (.dK (putK kvs k v))) \/
 ∃ kvs k b, H a = some (.dT kvs) /\ y = .ref b /\ H b = some (.tup (k.map kV)) /\ kvs.length < sizeLine /\ H' = upd H a (.dT (putK kvs k v))
theorem DGet.k {H : Hp} {a : Addr} {kvs : List (Key × V)} {k : Key} (e : H a = some (.dK kvs)) : DGet H a (kV k) (Gs kvs k) := .inl ⟨kvs, k, .inl e, rfl, rfl⟩
theorem DPut.k {H : Hp} {a : Addr} {kvs : List (Key × V)} {k : Key} {v : V} (e : H a = some (.dK kvs)) (hl : kvs.length < sizeLine) : DPut H a (kV k) v (upd H a (.dK (putK kvs k v))) := .inl ⟨kvs, k, e, rfl, hl, rfl⟩
section
variable {X : Cx} {pins : List (Addr × Obj)} {σ : St} {H : Hp} {s : Shared} {a : Addr} {y v : V} {u r : Value} {o : Option V} {A : Around} {E : Value -> Shared -> Prop}
theorem Inv.big (I : Inv X pins σ H s) : sysModules < s.heap.objs.size := by
 have h : mainGlobals < s.heap.objs.size := (I.mod.glob.keeps I.bk).lt
 exact Nat.lt_trans (by decide) h
theorem YX {Q : Value -> Shared -> Prop} (hu : A.units + 1 < cLine) (I : Inv X pins σ H s) (g : DGet H a y (some v)) (ry : RelV y u) (h : ∀ w' s', Inv X pins σ H s' -> RelV v w' -> Q w' s') :
  wpAny (model X.prog X.w) A (getItem (.ref a) u) Q E s := by
 rcases g with ⟨kvs, k, e, ey, l⟩ | ⟨kvs, k, b, e, ey, eb, l⟩
 ·subst ey
  obtain ⟨z, hd, vs, rel, dd⟩ := Tg I.hok e
  obtain ⟨w', hw, rw'⟩ := RelO.some_of (v := v) (o := valueAt vs k) (by rw [l]; exact rel.val k)
  exact wpAny_getItem_of (Us ry) dd.mapOf hw (h w' _ (I.tok _) rw')
 ·subst ey
  cases (show u = Value.ref b from ry)
  obtain ⟨z, hd, xs, rel, dd⟩ := Uz I.hok e
  obtain ⟨w', hw, rw'⟩ := RelO.some_of (v := v) (o := (atKey xs k).map (·.2)) (by rw [l]; exact rel.val k)
  obtain ⟨p, hp, hp2⟩ := Option.map_eq_some_iff.mp hw
  refine wpAny_getItem_heap (tupleKind_room_in1 hu) (Qm I.hok eb) dd hp ?_
  rw [hp2]
  exact h w' _ (I.tok _) rw'
theorem aeF {Q : Value -> Shared -> Prop} (hu : A.units + 1 < cLine) (I : Inv X pins σ H s) (g : DGet H a y o) (ry : RelV y u) (h : ∀ s', Inv X pins σ H s' -> Q (.bool o.isSome) s') :
  wpAny (model X.prog X.w) A (compareOp .In u (.ref a)) Q E s := by
 rcases g with ⟨kvs, k, e, ey, l⟩ | ⟨kvs, k, b, e, ey, eb, l⟩
 ·subst ey
  obtain ⟨z, hd, vs, rel, dd⟩ := Tg I.hok e
  refine wpAny_in_of (Us ry) hd dd.mapOf ?_
  rw [<- (rel.val k).isSome_eq, <- l]
  exact h _ (I.tok _)
 ·subst ey
  cases (show u = Value.ref b from ry)
  obtain ⟨z, hd, xs, rel, dd⟩ := Uz I.hok e
  refine wpAny_in_heap (tupleKind_room_in1 hu) (Qm I.hok eb) hd dd ?_
  have q := (rel.val k).isSome_eq
  rw [Option.isSome_map] at q
  rw [<- q, <- l]
  exact h _ (I.tok _)
theorem abL {Q : Value -> Shared -> Prop} (hu : A.units + 1 < cLine) (I : Inv X pins σ H s) (g : DGet H a y o) (ry : RelV y u) (h : ∀ s', Inv X pins σ H s' -> Q (.bool (!o.isSome)) s') :
  wpAny (model X.prog X.w) A (compareOp .NotIn u (.ref a)) Q E s := by
 rcases g with ⟨kvs, k, e, ey, l⟩ | ⟨kvs, k, b, e, ey, eb, l⟩
 ·subst ey
  obtain ⟨z, hd, vs, rel, dd⟩ := Tg I.hok e
  refine wpAny_notIn_of (Us ry) hd dd.mapOf ?_
  rw [<- (rel.val k).isSome_eq, <- l]
  exact h _ (I.tok _)
 ·subst ey
  cases (show u = Value.ref b from ry)
  obtain ⟨z, hd, xs, rel, dd⟩ := Uz I.hok e
  refine wpAny_notIn_heap (tupleKind_room_in1 hu) (Qm I.hok eb) hd dd ?_
  have q := (rel.val k).isSome_eq
  rw [Option.isSome_map] at q
  rw [<- q, <- l]
  exact h _ (I.tok _)
theorem Vg {h' : Heap} {t' : Nat} {ob : HO} (I : Inv X pins σ H s) (mu : Mut (H a)) (hs : Heap.SameBut a s.heap h') (he : ∃ q, h'.get? a = some q) (new : ObjOk X.prog X.w (upd H a ob) h' a ob) :
  Inv X pins σ (upd H a ob) { s with heap := h', toks := t' } :=
 I.write (x := a) (e := a) mu (.inl rfl) (fun b q hb z => (hs.2 b hb).trans z) he new
theorem Xi {P : Program} {w : World} {H' : Hp} {h' : Heap} {kvs : List (Key × V)} {vs : List (Key × Value)} (z : kvs.length <= sizeLine) (hd : (a == sysModules) = false) (rel : KV kvs vs) (dd : h'.DictOf (BR P w) a vs) :
  ObjOk P w H' h' a (.dK kvs) := ⟨z, hd, vs, rel, dd⟩
theorem YH {H' : Hp} {Q : Unit -> Shared -> Prop} (hu : A.units + 1 < cLine) (I : Inv X pins σ H s) (g : DPut H a y v H') (ry : RelV y u) (rv : RelV v r) (h : ∀ s', Inv X pins σ H' s' -> Q () s') :
  wpAny (model X.prog X.w) A (setItem (.ref a) u r) Q E s := by
 rcases g with ⟨kvs, k, e, ey, l, eH⟩ | ⟨kvs, k, b, e, ey, eb, l, eH⟩
 ·subst ey eH
  obtain ⟨z, hd, vs, rel, dd⟩ := acf I.hok e
  have hz : vs.length <= sizeLine := by rw [<- rel.length]; exact z
  have hl : (putK kvs k v).length <= sizeLine := by have := NQ kvs k v; omega
  refine wpAny_setItem_pairs (hsz := hz) (Us ry) dd fun h' dd' hs => h _ ?_
  have he : ∃ q, h'.get? a = some q := let ⟨q, _, _, hq, _⟩ := dd'; ⟨q, hq⟩
  exact Vg I (by rw [e]; exact True.intro) hs he (Xi hl hd (rel.put k rv) dd')
 ·subst ey eH
  cases (show u = Value.ref b from ry)
  obtain ⟨z, hd, xs, rel, dd⟩ := adP I.hok e
  have hz : xs.length <= sizeLine := by rw [<- Paired.length rel]; exact z
  have hl : (putK kvs k v).length <= sizeLine := by have := NQ kvs k v; omega
  refine wpAny_setItem_heap (hsz := hz) (tupleKind_room_in1 hu) (Qm I.hok eb) dd fun h' dd' hs => h _ ?_
  obtain ⟨q, es, ep, hq, h2, h3, h4, _, h5⟩ := dd'
  refine Vg I (by rw [e]; exact True.intro) hs ⟨q, hq⟩ ⟨hl, hd, _, (rel.put k eb rv).keeps fun c ys ec => ?_, q, es, ep, hq, h2, h3, h4, h5⟩
  rw [Aj (adW ec e (fun z => nomatch z))]
  exact ec
end
section
variable {X : Cx} {pins : List (Addr × Obj)} {σ : St} {H : Hp} {s : Shared} {a : Addr} {kvs : List (Key × V)} {k : Key} {u : Value} {A : Around} {E : Value -> Shared -> Prop}
theorem adT {v : V} {more : List Value} {Q : Value -> Shared -> Prop} (I : Inv X pins σ H s) (e : H a = some (.dK kvs)) (ry : RelV (kV k) u) (l : Gs kvs k = some v) (hm : more = [] \/ ∃ x, more = [x])
  (h : ∀ w' s', Inv X pins σ (upd H a (.dK (Il kvs k))) s' -> RelV v w' -> Q w' s') : wpAny (model X.prog X.w) A (call (.builtin "dict.pop") (.ref a :: u :: more)) Q E s := by
 obtain ⟨z, hd, vs, rel, dd⟩ := acf I.hok e
 obtain ⟨w', hw, rw'⟩ := RelO.some_of (v := v) (o := valueAt vs k) (by rw [<- l]; exact rel.val k)
 have hp : (keyPart u).isSome = true := by
  cases k with
  | inl i => obtain ⟨t, q⟩ := (show ∃ t, u = Value.int i t from ry); subst q; rfl
  | inr x => obtain ⟨t, q⟩ := (show ∃ t, u = Value.str x t from ry); subst q; rfl
 have ha : argsOk "dict.pop" ⟨.ref a :: u :: more, []⟩ := by
  rcases hm with q | ⟨x, q⟩
  ·subst q; exact PySem.F.args_dict_pop_2 _ _
  ·subst q; exact PySem.F.args_dict_pop_3 _ _ _
 refine call_meetsIn PySem.F.slot_dict_pop dd.typeIs PySem.F.entry_dict_pop ha (meets_dict_pop_there (BR X.prog X.w) a (Us ry) more hm hp)
  ⟨vs, w', dd, by rw [<- rel.length]; exact z, hw, fun h' dd' hs => h w' _ ?_ rw'⟩
 have he : ∃ q, h'.get? a = some q := let ⟨q, _, _, hq, _⟩ := dd'; ⟨q, hq⟩
 exact Vg I (by rw [e]; exact True.intro) hs he (Xi (Nat.le_trans (aaz kvs k) z) hd (rel.drop k) dd')
end
def ael (i : Expr) : Prop := ∀ ov iv, subscripted i false ov iv = operate [ov, iv] (getItem ov iv)
theorem abB {prog : Program} {w : World} {A : Around} {E : Value -> Shared -> Prop} {s : Shared} {env : Env} {value slice : Expr} {pos : Pos} {T id : String} {Q : Value -> Shared -> Prop}
  (hl : typeLookup (.type T) "__getitem__" = pure (some (.builtin id))) (hs : ael slice)
  (h : wpAny (model prog w) A (eval value env) (fun o s₁ => wpAny (model prog w) A (eval slice env) (fun i s₂ => s₂.TypeIs o T /\ wpAny (model prog w) A (getItem o i) Q E s₂) E s₁) E s) :
  wpAny (model prog w) A (eval (.Subscript value slice pos) env) Q E s := by
 refine Subscript_ (wpAny_mono h (fun o s₁ h₁ => wpAny_mono h₁ (fun i s₂ h₂ => ?_) fun _ _ x => x) fun _ _ x => x)
 obtain ⟨hT, h₂⟩ := h₂
 unfold subscriptTail
 refine wpAny_bind ?_
 rw [getitemInPython_of_ne hT.not_modules]
 refine wpAny_bind (wpAny_specialOf hT hl ?_)
 have fin : wpAny (model prog w) A (subscripted slice false o i) (fun r s₃ => wpAny (model prog w) A (letTemporaryGo value o r >>= fun _ => pure r) Q E s₃) E s₂ := by
  rw [hs o i]
  exact wpAny_operating (wpAny_mono h₂ (fun r s₃ h₃ => wpAny_bind (wpAny_letTemporaryGo (wpAny_pure h₃))) fun _ _ x => x)
 first
  | exact wpAny_pure (wpAny_bind fin)
  | exact wpAny_bind (wpAny_pure (wpAny_bind fin))
  | exact wpAny_bind fin
theorem Vj {X : Cx} {pins : List (Addr × Obj)} {σ : St} {H : Hp} {s : Shared} {a : Addr} {y : V} {o : Option V} (I : Inv X pins σ H s) (g : DGet H a y o) : s.TypeIs (.ref a) "dict" := by
 rcases g with ⟨kvs, k, e, _, _⟩ | ⟨kvs, k, b, e, _, _, _⟩
 ·obtain ⟨_, _, vs, _, dd⟩ := Tg I.hok e
  exact dd.typeIs
 ·obtain ⟨_, _, xs, _, dd⟩ := Uz I.hok e
  exact dd.typeIs
def adv (td ty : TE) : TE := fun σ H Q => td σ H fun x H1 => ty σ H1 fun y H2 => ∃ a v, x = .ref a /\ DGet H2 a y (some v) /\ Q v H2
def adu (td ty tv : TE) : TS := fun D σ H => tv σ H fun v H1 => td σ H1 fun x H2 => ty σ H2 fun y H3 => ∃ a H4, x = .ref a /\ DPut H3 a y v H4 /\ D.nx σ H4
section
variable {X : Cx} {o i e value : Expr} {pos pos' tpos : Pos} {td ty tv : TE}
theorem JK (hu : X.A.units + 1 < cLine) (ho : PE X o td) (hi : PE X i ty) (hs : ael i) : PE X (.Subscript o i pos) (adv td ty) := by
 intro pins s σ H Q I h
 refine abB PySem.F.slot_dict_getitem.lookup hs (thn (ho pins s σ H _ I h) fun u s1 ⟨x, H1, I1, rx, q1⟩ => thn (hi pins s1 σ H1 _ I1 q1) fun iv s2 ⟨y, H2, I2, ry, a, v, ex, g, q2⟩ => ?_)
 subst ex
 obtain rfl : u = Value.ref a := rx
 exact ⟨Vj I2 g, YX hu I2 g ry fun w' s3 I3 rw' => ⟨v, H2, I3, rw', q2⟩⟩
theorem Gy (hu : X.A.units + 1 < cLine) (ho : PE X o td) (hi : PE X i ty) (hv : PE X value tv) (hs : swapsWith value (some (.Subscript o i pos')) pos.line X.env = pure false) :
  PS X (.Assign [.Subscript o i pos'] value pos) (adu td ty tv) := by
 intro pins s σ H D I h
 refine wpAny_Assign_Subscript (thn (hv pins s σ H _ I h) fun r s1 ⟨v, H1, I1, rv, q1⟩ => thn (ho pins s1 σ H1 _ I1 q1) fun u s2 ⟨x, H2, I2, rx, q2⟩ => thn (hi pins s2 σ H2 _ I2 q2) fun iv s3 ⟨y, H3, I3, ry, a, H4, ex, g, q3⟩ => ?_) hs
 subst ex
 obtain rfl : u = Value.ref a := rx
 exact YH hu I3 g ry rv fun s4 I4 => ⟨σ, H4, I4, q3⟩
end
theorem aaF {P : Program} {w : World} {H : Hp} (h : Heap) (hb : sysModules < h.objs.size) : ObjOk P w H (h.push { cls := .type "dict", data := .dict #[] }) h.objs.size (.dK []) :=
 ⟨Nat.zero_le _, beq_eq_false_iff_ne.mpr (Ne.symm (Nat.ne_of_lt hb)), [], .nil, Heap.DictOf.new h⟩
def aaT : TE := fun _ H Q => ∀ p, H p = none -> Q (.ref p) (upd H p (.dK []))
section
variable {X : Cx} {pos : Pos}
theorem Ni : PE X (.Dict [] [] pos) aaT := fun pins s σ H Q I h =>
 wpAny_Dict_empty ⟨.ref s.heap.objs.size, _, I.laid (a := s.heap.objs.size) (o := .dK []) (t' := s.toks) (fun _ _ q => Heap.get?_push_of_some _ q) (Nat.le_refl _) (aaF s.heap I.big), rfl, h _ (I.hok.fresh (Nat.le_refl _))⟩
end
structure M1 (X : Cx) (o : Expr) (m : Str) (apos : Pos) (e : Expr) (cpos : Pos) : Prop where
 base : attributeBase o m X.env (eval o X.env) = eval o X.env
 few : ((backTo cpos (starEach [e] X.env)).all (fun x => !x.1) && (backToKw cpos (keywordEach [] X.env)).all (fun x => x.1.isSome)
  && decide (([e] : List Expr).length + ([] : List Keyword).length + (if ([] : List Keyword).isEmpty then 0 else 1) < 30)) = true
 line : (apos.endLine == cpos.line) = true
 trees : backTo cpos (starEach [e] X.env) = [(false, eval e X.env)]
structure M2 (X : Cx) (o : Expr) (m : Str) (apos : Pos) (e f : Expr) (cpos : Pos) : Prop where
 base : attributeBase o m X.env (eval o X.env) = eval o X.env
 few : ((backTo cpos (starEach [e, f] X.env)).all (fun x => !x.1) && (backToKw cpos (keywordEach [] X.env)).all (fun x => x.1.isSome)
  && decide (([e, f] : List Expr).length + ([] : List Keyword).length + (if ([] : List Keyword).isEmpty then 0 else 1) < 30)) = true
 line : (apos.endLine == cpos.line) = true
 trees : backTo cpos (starEach [e, f] X.env) = [(false, eval e X.env), (false, eval f X.env)]
def IsD (H : Hp) (a : Addr) : Prop := (∃ kvs, Rd H a (.dK kvs)) \/ ∃ kvs, Rd H a (.dT kvs)
theorem aaH {X : Cx} {pins : List (Addr × Obj)} {σ : St} {H : Hp} {s : Shared} {a : Addr} (I : Inv X pins σ H s) (d : IsD H a) :
  s.TypeIs (.ref a) "dict" /\ (∀ b, Value.ref a = .ref b -> ∃ ob, s.heap.get? b = some ob /\ ob.dict = none) /\ (a == sysModules) = false := by
 rcases d with ⟨kvs, e⟩ | ⟨kvs, e⟩
 ·obtain ⟨_, hd, vs, _, dd⟩ := Tg I.hok e
  refine ⟨dd.typeIs, fun b q => ?_, hd⟩
  cases q
  obtain ⟨ob, _, _, h1, h2, _⟩ := dd
  exact ⟨ob, h1, h2.2.1⟩
 ·obtain ⟨_, hd, xs, _, dd⟩ := Uz I.hok e
  refine ⟨dd.typeIs, fun b q => ?_, hd⟩
  cases q
  obtain ⟨ob, _, _, h1, h2, _⟩ := dd
  exact ⟨ob, h1, h2.2.1⟩
section
variable {X : Cx} {pins : List (Addr × Obj)} {σ : St} {H : Hp} {s : Shared} {a : Addr} {y d : V} {u r : Value} {o : Option V} {A : Around} {E : Value -> Shared -> Prop}
theorem acM {Q : Value -> Shared -> Prop} (hu : A.units + 1 < cLine) (I : Inv X pins σ H s) (g : DGet H a y o) (ry : RelV y u) (rd : RelV d r) (h : ∀ w' s', Inv X pins σ H s' -> RelV (o.getD d) w' -> Q w' s') :
  wpAny (model X.prog X.w) A (call (.builtin "dict.get") [.ref a, u, r]) Q E s := by
 rcases g with ⟨kvs, k, e, ey, l⟩ | ⟨kvs, k, b, e, ey, eb, l⟩
 ·subst ey
  obtain ⟨z, hd, vs, rel, dd⟩ := Tg I.hok e
  refine call_meetsIn PySem.F.slot_dict_get dd.typeIs PySem.F.entry_dict_get (PySem.F.args_dict_get_3 _ _ _) (meets_dict_get_default (BR X.prog X.w) a (Us ry) hd r) ⟨_, dd.mapOf, h _ _ (I.tok _) ?_⟩
  rw [l]
  exact (rel.val k).getD rd
 ·subst ey
  cases (show u = Value.ref b from ry)
  obtain ⟨z, hd, xs, rel, dd⟩ := Uz I.hok e
  refine call_meetsIn PySem.F.slot_dict_get dd.typeIs PySem.F.entry_dict_get (PySem.F.args_dict_get_3 _ _ _) (meetsH_dict_get_default (tupleKind (BR X.prog X.w)) a b hd r) ⟨tupleKind_room_in1 hu, k, xs, Qm I.hok eb, dd, h _ _ (I.tok _) ?_⟩
  rw [l]
  exact (rel.val k).getD rd
end
def aaR (td ty tx : TE) : TE := fun σ H Q => td σ H fun x H1 => ∃ a, x = .ref a /\ IsD H1 a /\ ty σ H1 fun y H2 => tx σ H2 fun z H3 => ∃ o, DGet H3 a y o /\ Q (o.getD z) H3
def aaW (td ty : TE) : TE := fun σ H Q => td σ H fun x H1 => ∃ a, x = .ref a /\ IsD H1 a /\ ty σ H1 fun y H2 => ∃ kvs k v, H2 a = some (.dK kvs) /\ y = kV k /\ Gs kvs k = some v /\ Q v (upd H2 a (.dK (Il kvs k)))
section
variable {X : Cx} {o e f : Expr} {apos cpos : Pos} {td ty tx : TE}
theorem JT (hu : X.A.units + 1 < cLine) (ho : PE X o td) (he : PE X e ty) (hf : PE X f tx) (m : M2 X o "get" apos e f cpos) : PE X (.Call (.Attribute o "get" apos) [e, f] [] cpos) (aaR td ty tx) := by
 intro pins s σ H Q I h
 refine wpAny_Call_method m.base m.few m.line PySem.F.plainAttrs_dict PySem.F.slot_dict_get PySem.F.type_dict_get (thn (ho pins s σ H _ I h) fun u s1 ⟨x, H1, I1, rx, a, ex, d, q1⟩ => ?_)
 subst ex
 obtain rfl : u = Value.ref a := rx
 obtain ⟨t1, t2, _⟩ := aaH I1 d
 refine ⟨t1, t2, ?_⟩
 rw [m.trees]
 refine Calls.callWith_builtin rfl (Calls.evalArgs_plain (Calls.spliced_cons (thn (he pins s1 σ H1 _ I1 q1) fun iv s2 ⟨y, H2, I2, ry, q2⟩ =>
  Calls.spliced_cons (thn (hf pins s2 σ H2 _ I2 q2) fun fv s3 ⟨z, H3, I3, rz, ov, g, q3⟩ => Calls.spliced_nil ?_))))
 exact acM hu I3 g ry rz fun w' s4 I4 rw' => ⟨_, H3, I4, rw', q3⟩
theorem Wg (ho : PE X o td) (he : PE X e ty) (m : M1 X o "pop" apos e cpos) : PE X (.Call (.Attribute o "pop" apos) [e] [] cpos) (aaW td ty) := by
 intro pins s σ H Q I h
 refine wpAny_Call_method m.base m.few m.line PySem.F.plainAttrs_dict PySem.F.slot_dict_pop PySem.F.type_dict_pop (thn (ho pins s σ H _ I h) fun u s1 ⟨x, H1, I1, rx, a, ex, d, q1⟩ => ?_)
 subst ex
 obtain rfl : u = Value.ref a := rx
 obtain ⟨t1, t2, _⟩ := aaH I1 d
 refine ⟨t1, t2, ?_⟩
 rw [m.trees]
 refine Calls.callWith_builtin rfl (Calls.evalArgs_plain (Calls.spliced_cons (thn (he pins s1 σ H1 _ I1 q1) fun iv s2 ⟨y, H2, I2, ry, kvs, k, v, ea, ey, l, q2⟩ => Calls.spliced_nil ?_)))
 subst ey
 exact adT I2 ea ry l (.inl rfl) fun w' s3 I3 rw' => ⟨v, _, I3, rw', q2⟩
end
section
variable {X : Cx} {pins : List (Addr × Obj)} {σ : St} {H : Hp} {s : Shared} {a : Addr} {kvs : List (Key × V)} {A : Around} {E : Value -> Shared -> Prop}
theorem Zz {Q : Value -> Shared -> Prop} (I : Inv X pins σ H s) (e : Rd H a (.dK kvs)) (h : ∀ p s', H p = none -> Inv X pins σ (upd H p (.dK kvs)) s' -> Q (.ref p) s') : wpAny (model X.prog X.w) A (call (.type "dict") [.ref a]) Q E s := by
 obtain ⟨z, hd, vs, rel, dd⟩ := Tg I.hok e
 refine kt_call_dict hd dd (by rw [<- rel.length]; exact z) fun h' dd' hs => ?_
 refine h _ _ (I.hok.fresh (Nat.le_refl _)) (I.laid (a := s.heap.objs.size) (o := .dK kvs) (t' := s.toks) (fun b q hq => ?_) (Nat.le_refl _) (Xi z (beq_eq_false_iff_ne.mpr (Ne.symm (Nat.ne_of_lt I.big))) rel dd'))
 exact (hs.2 b (Nat.ne_of_lt (Heap.lt_size hq))).trans (Heap.get?_push_of_some _ hq)
end
end L2
namespace L2
open PySem PySem.Spec PyProof.Rows
section
variable {κ : Type} [DecidableEq κ]
theorem Zt {kvs : List (κ × V)} {k : κ} (h : Gs kvs k = none) : ¬ k ∈ kvs.map (·.1) := by
 intro m
 obtain ⟨p, hp, e⟩ := List.mem_map.mp m
 have q : (kvs.any fun kv => decide (kv.1 = k)) = true := List.any_eq_true.mpr ⟨p, hp, decide_eq_true e⟩
 rw [Fq, h] at q
 exact absurd q (by simp)
theorem Ze : ∀ {l : List κ} {k : κ}, l.Nodup -> ¬ k ∈ l -> (l ++ [k]).Nodup
 | [], k, _, _ => by simp
 | a :: r, k, h, hk => by
  obtain ⟨h1, h2⟩ := List.nodup_cons.mp h
  show (a :: (r ++ [k])).Nodup
  refine List.nodup_cons.mpr ⟨fun m => ?_, Ze h2 fun m => hk (List.mem_cons.mpr (Or.inr m))⟩
  rcases List.mem_append.mp m with q | q
  ·exact h1 q
  ·exact hk (List.mem_cons.mpr (Or.inl (List.mem_singleton.mp q).symm))
theorem abz {kvs : List (κ × V)} {k : κ} (v : V) (hn : (kvs.map (·.1)).Nodup) (h : Gs kvs k = none) : ((putK kvs k v).map (·.1)).Nodup := by
 rw [aam v h, List.map_append]
 exact Ze hn (Zt h)
theorem Yg {p : κ × V} {r : List (κ × V)} {k : κ} (e : p.1 = k) : Il (p :: r) k = Il r k := by
 unfold Il
 rw [List.filter_cons, if_neg (by simp [e])]
theorem RT {p : κ × V} {r : List (κ × V)} {k : κ} (e : ¬ p.1 = k) : Il (p :: r) k = p :: Il r k := by
 unfold Il
 rw [List.filter_cons, if_pos (by simp [e])]
end
end L2
namespace L2
open PySem PySem.Spec PyProof.Rows
structure FunD (K : Fg_) (x qual : Str) (st : Stmt) (f : Addr) (fd : FuncData) (dvs : List V) : Prop where
 ex : ∃ (oc : Value) (od : Option Addr) (Td : Addr) (kV doc pm : Value) (an : Option Addr) (cdv ct : Value) (osl : Array (Option Value)) (ot : Obj) (its : List Value) (nt : Nat),
  fd = PySem.W.fnOf x qual (Eg st) (CJ st) (Ag st) (.ref Td) kV doc pm an cdv ct /\ K.lookup f = some ⟨oc, od, .func fd, osl⟩ /\ PySem.W.codeIn K cdv qual = true /\ K.lookup Td = some ot /\ ot.data = .seq its.toArray nt /\ Vals dvs its
 kp : PySem.W.keepIn K (.ref f) = true
section
variable {P : Program} {w : World} {K : Fg_} {mg : Str -> Option Value} {base : Heap}
theorem FunD.ok {x qual : Str} {st : Stmt} {f : Addr} {fd : FuncData} {N ps : List Str} {k : Nat} {sp : Sp} {dvs : List V} (F : FunD K x qual st f fd dvs) (S : FnScope N ps (Ag st)) (len : ∀ vs H Q E, sp vs H Q E -> vs.length = ps.length)
  (hbody : ∀ (cdv : Value) (A : Around) (outer : List Env) (s : Shared) (H : Hp) (vs : List V) (Q : VK) (E : XK), Room k (A.deeper (envOfC qual (Ag st) s.heap.objs.size f cdv)) -> sp vs H Q E ->
   ∃ t, PSs (Lk CX0 P w K mg base N qual (Ag st) f cdv A outer s H E).nox (CJ st) t /\ t { nx := fun _ H' => Q .non H', rt := Q } (start N vs) H) : FnOk P w K mg base CX0 (k + 1) f fd ps sp := by
 obtain ⟨oc, od, Td, kV, doc, pm, an, cdv, ct, osl, ot, its, nt, rfl, lk, hcd, _⟩ := F.ex
 refine aaZ lk hcd S len fun A outer s H vs Q E hr hsp => ?_
 obtain ⟨t, h, q⟩ := hbody cdv A outer s H vs Q E hr hsp
 exact ⟨t, h.nox, q⟩
theorem FunD.binds {x qual : Str} {st : Stmt} {f : Addr} {fd : FuncData} {ps : List Str} {dvs : List V} (F : FunD K x qual st f fd dvs) (n : Nat)
  (h : ∀ (Td : Addr) (kV doc pm : Value) (an : Option Addr) (cdv ct : Value) (its us : List Value), its.length = dvs.length -> (us ++ its.drop n).length = ps.length ->
   ∃ k, bindArgs (PySem.W.fnOf x qual (Eg st) (CJ st) (Ag st) (.ref Td) kV doc pm an cdv ct) ⟨us, []⟩ = (seqItems? (.ref Td) >>= k) /\ k (some its.toArray) = pure (ps.zip (us ++ its.drop n))) : ∃ ds, Binds K fd ps ds /\ Vals (dvs.drop n) ds := by
 obtain ⟨oc, od, Td, kV, doc, pm, an, cdv, ct, osl, ot, its, nt, rfl, lk, hcd, lt, hdt, hv⟩ := F.ex
 refine ⟨its.drop n, fun s us X hl => ?_, hv.drop n⟩
 obtain ⟨k, e1, e2⟩ := h Td kV doc pm an cdv ct its us hv.length.symm hl
 exact PySem.W.binds_K X rfl lt hdt e1 e2
theorem Uu {x qual : Str} {st : Stmt} {f Td : Addr} {oc : Value} {od an : Option Addr} {osl : Array (Option Value)} {kV doc pm cdv ct : Value} {dvs : List V} {ot : Obj} {its : List Value} {nt : Nat} (l : K.lookup f = some ⟨oc, od, .func (PySem.W.fnOf x qual (Eg st) (CJ st) (Ag st) (.ref Td) kV doc pm an cdv ct), osl⟩)
  (c : PySem.W.codeIn K cdv qual = true) (k : PySem.W.keepIn K (.ref f) = true) (lt : K.lookup Td = some ot) (hd : ot.data = .seq its.toArray nt) (hv : Vals dvs its) : FunD K x qual st f (PySem.W.fnOf x qual (Eg st) (CJ st) (Ag st) (.ref Td) kV doc pm an cdv ct) dvs :=
 ⟨⟨oc, od, Td, kV, doc, pm, an, cdv, ct, osl, ot, its, nt, rfl, l, c, lt, hd, hv⟩, k⟩
end
structure ClsFn (K : Fg_) (C : Addr) (m : Str) (f : Addr) : Prop where
 ga : PySem.W.specialIn K (.ref C) "__getattribute__" = some (some (.builtin "type.__getattribute__"))
 rd : PySem.W.readsIn K C (.type "type") = true
 fi : PySem.W.findCls K (.ref C) (.type "type") m = some (.val (.ref f))
section
variable {X : Cx} {CX : CXT} {k : Nat} {f C : Addr} {fd : FuncData} {ps ks : List Str} {sp : Sp} {dvs : List V} {ds : List Value} {E : XK} {x m : Str} {p pos apos : Pos} {e o : Expr} {es : List Expr} {ta : TE} {t tk : TA} {kws : List Keyword}
theorem Fy {pl : Sem Bool} (Z : ClsFn X.K C m f) (F : FnOk X.prog X.w X.K X.mg X.base CX k f fd ps sp) (hr : Room k X.A) (hg : Gl X x) (hm : X.mg x = some (.ref C)) (hk : PySem.W.keepIn X.K (.ref f) = true) (hb : Binds X.K fd ps ds) (hd : Vals dvs ds) (hx : Jg CX X E)
  (ha : PA X (e :: es) t) (hdb : (x == ("__debug__" : Str)) = false := by decide) (he : starEach (e :: es) X.env = (false, eval e X.env) :: starEach es X.env := by rfl) (hpl : (backTo pos (starEach es X.env)).any (·.1) = false := by rfl)
  (ht : eval (.Call (.Attribute (.Name x p) m apos) (e :: es) [] pos) X.env = (do
   let ov <- eval (.Name x p) X.env
   standAt apos.atName
   let (f, first) <- holding [ov] (getMethod ov m pl)
   callWith pos f first (backTo pos (starEach (e :: es) X.env)) (backToKw pos (keywordEach [] X.env))) := by rfl) :
  PE X (.Call (.Attribute (.Name x p) m apos) (e :: es) [] pos) (abR sp dvs E t) := by
 intro pins s σ H Q I h
 refine PySem.W.methodCall_KW (pl := pl) (Jf I hg hm ?_ hdb) ht
 refine PySem.W.method_cls I.kIn Z.ga (PySem.W.cls_value I.kIn Z.rd Z.fi rfl ?_)
 have I' : Inv X pins σ H { s with toks := s.toks + 1 } := I.tok _
 refine PySem.W.callWith_K (first := []) (h₀ := X.base) I.ok.mod.kin hk (thn (ha pos pins _ σ H _ I' h) fun us s1 ⟨vs, H1, I1, r, q⟩ => ⟨I1.kIn, ?_⟩) he hpl
 exact Vt F hr hb hd hx I1 r q
inductive MTab (X : Cx) (CX : CXT) (m : Str) : List (Addr × Sp) -> Prop
 | nil : MTab X CX m []
 | cons {C f : Addr} {fd : FuncData} {ps : List Str} {sp : Sp} {k : Nat} {r : List (Addr × Sp)} (c : Cls X.K C) (hm : Meth X.K C m f) (F : FnOk X.prog X.w X.K X.mg X.base CX k f fd ps sp) (hr : Room k X.A) (hb : Binds X.K fd ps []) (t : MTab X CX m r) : MTab X CX m ((C, sp) :: r)
theorem MTab.get {tab : List (Addr × Sp)} (T : MTab X CX m tab) {C : Addr} {sp : Sp} (h : (C, sp) ∈ tab) : ∃ f fd ps k, Cls X.K C /\ Meth X.K C m f /\ FnOk X.prog X.w X.K X.mg X.base CX k f fd ps sp /\ Room k X.A /\ Binds X.K fd ps [] := by
 induction T with
 | nil => cases h
 | cons c hm F hr hb t ih =>
  rcases List.mem_cons.mp h with z | z
  ·cases z
   exact ⟨_, _, _, _, c, hm, F, hr, hb⟩
  ·exact ih z
def Qu (tab : List (Addr × Sp)) (m : Str) (E : XK) (ta : TE) (t : TA) : TE := fun σ H Q => ta σ H fun x H1 => ∃ a C dx fs sp, x = .ref a /\ H1 a = some (.ins C dx fs) /\ (C, sp) ∈ tab /\ fs.lookup m = none /\ t σ H1 fun vs H2 => sp (x :: vs) H2 Q E
theorem Jp {pl : Sem Bool} {tab : List (Addr × Sp)} (he : PE X o ta) (T : MTab X CX m tab) (hx : Jg CX X E) (ha : PA X (e :: es) t)
  (hst : starEach (e :: es) X.env = (false, eval e X.env) :: starEach es X.env := by rfl) (hpl : (backTo pos (starEach es X.env)).any (·.1) = false := by rfl)
  (ht : eval (.Call (.Attribute o m apos) (e :: es) [] pos) X.env = (do
   let ov <- eval o X.env
   standAt apos.atName
   let (f, first) <- holding [ov] (getMethod ov m pl)
   callWith pos f first (backTo pos (starEach (e :: es) X.env)) (backToKw pos (keywordEach [] X.env))) := by rfl) :
  PE X (.Call (.Attribute o m apos) (e :: es) [] pos) (Qu tab m E ta t) := by
 intro pins s σ H Q I h
 refine PySem.W.methodCall_KW (pl := pl) (thn (he pins s σ H _ I h) fun u s1 ⟨y, H1, I1, rx, a, C, dx, fs, sp, ex, ea, hmem, l, q⟩ => ?_) ht
 subst ex
 obtain rfl : u = Value.ref a := rx
 obtain ⟨f, fd, ps, k, c, hm, F, hr, hb⟩ := T.get hmem
 refine LR I1 ea c hm l ?_
 refine PySem.W.callWith_K (first := [.ref a]) (h₀ := X.base) I.ok.mod.kin hm.kp (thn (ha pos pins s1 σ H1 _ I1 q) fun us s2 ⟨vs, H2, I2, r, q2⟩ => ⟨I2.kIn, ?_⟩) hst hpl
 exact Vt (us := .ref a :: us) (vs := .ref a :: vs) (dvs := []) (ds := []) F hr hb .nil hx I2 (.cons rfl r) (by rw [List.append_nil]; exact q2)
theorem Bt {pl : Sem Bool} {tab : List (Addr × Sp)} (he : PE X o ta) (T : MTab X CX m tab) (hx : Jg CX X E)
  (ht : eval (.Call (.Attribute o m apos) [] [] pos) X.env = (do
   let ov <- eval o X.env
   standAt apos.atName
   let (f, first) <- holding [ov] (getMethod ov m pl)
   callWith pos f first (backTo pos (starEach [] X.env)) (backToKw pos (keywordEach [] X.env))) := by rfl) :
  PE X (.Call (.Attribute o m apos) [] [] pos) (Qu tab m E ta Vf) := by
 intro pins s σ H Q I h
 refine PySem.W.methodCall_KW (pl := pl) (thn (he pins s σ H _ I h) fun u s1 ⟨y, H1, I1, rx, a, C, dx, fs, sp, ex, ea, hmem, l, q⟩ => ?_) ht
 subst ex
 obtain rfl : u = Value.ref a := rx
 obtain ⟨f, fd, ps, k, c, hm, F, hr, hb⟩ := T.get hmem
 refine LR I1 ea c hm l ?_
 exact PySem.W.callWith_K0 (first := [.ref a]) I1.kIn hm.kp (Vt (us := [.ref a]) (vs := [.ref a]) (dvs := []) (ds := []) F hr hb .nil hx I1 (.cons rfl .nil) q)
variable {g : List Value -> List Value -> List Value} {gV : List V -> List V -> List V}
end
theorem QZ (f : Str) (v : V) : ∀ {fs : List (Str × V)}, (fs.map (·.1)).contains f = false -> Qs f v fs = fs ++ [(f, v)]
 | [], _ => rfl
 | (g, x) :: r, h => by
  rw [List.map_cons, List.contains_cons] at h
  have h1 : ¬ g = f := fun e => by rw [e] at h; simp at h
  have h2 : (r.map (·.1)).contains f = false := (Bool.or_eq_false_iff.mp h).2
  show (if g = f then (g, v) :: r else (g, x) :: Qs f v r) = _
  rw [if_neg h1, QZ f v h2]
  rfl
structure InsTy (K : Fg_) (C : Addr) : Prop where
 cl : Cls K C
 ha : PySem.W.findIn K (.ref C) "__class__" = some (some (.builtin "object.__class__"))
 hn : PySem.W.specialIn K (.builtin "object.__class__") "__get__" = some (some (.builtin "getset_descriptor.__get__"))
 htk : PySem.W.takesIn K (.builtin "object.__class__") = some true
 hm : PySem.W.mroIn K C (.type "object") = some true
theorem InsTy.of {K : Fg_} {C a dx : Addr} {H : Hp} {fs : List (Str × V)} (z : InsTy K C) (h : H a = some (.ins C dx fs)) : TyOf K H (.ref a) (.ref C) := .ins h z.cl z.ha z.hn z.htk z.hm
end L2
namespace L2
open PySem PySem.Spec PyProof.Rows
def signs (x : Str) : List V := x.cps.toList.map fun c => V.str ⟨#[c]⟩
def adl (x : Str) : It := ⟨fun i _ => i < x.cps.size, fun i H v H' => H' = H /\ (signs x)[i]? = some v, fun i _ => x.cps.size <= i⟩
theorem aaD {P : Program} {w : World} {K : Fg_} {tg : Expr} {ty : String} (hty : ty = "str_ascii_iterator" \/ ty = "str_iterator") (it : Addr) (x : Str) (t : Tok) : Turn P w K tg (adl x) [it] it (fun i h => h.IsStrIter it ty x t i) where
 mem := by simp
 obj := fun i h st b hb => by
  have e : b = it := by simpa using hb
  subst e
  obtain ⟨o, e, c, d⟩ := st
  exact ⟨o, e, fun v z => by rw [d] at z; cases z⟩
 keep := fun i h h' st k => by
  obtain ⟨o, e, r⟩ := st
  exact ⟨o, k it (by simp) o e, r⟩
 item := by
  intro X hP hw hK hc i pins s σ H E I hf st hg
  subst hP hw hK
  have hi : i < x.cps.size := hg
  have hx : x.cps[i]? = some x.cps[i] := Array.getElem?_eq_getElem hi
  have hs : (signs x)[i]? = some (.str ⟨#[x.cps[i]]⟩) := by
   unfold signs
   rw [List.getElem?_map, Array.getElem?_toList, hx]
   rfl
  rcases hty with rfl | rfl
  ·refine wpAny_pyNext_ascii_item st hx fun h' st' sb => ?_
   obtain ⟨o, e, c, d⟩ := id st'
   exact ⟨_, rfl, WL (s := { s with heap := h', toks := s.toks + 1 }) e c d (by decide) ⟨.str ⟨#[x.cps[i]]⟩, H, I.turnedN hf fun b o hb q => (sb.2 b (by simpa using hb)).trans q, ⟨_, rfl⟩, ⟨rfl, hs⟩, st', fun b hb => (hf b hb).1⟩⟩
  ·refine wpAny_pyNext_wide_item st hx fun h' st' sb => ?_
   obtain ⟨o, e, c, d⟩ := id st'
   exact ⟨_, rfl, WL (s := { s with heap := h', toks := s.toks + 1 }) e c d (by decide) ⟨.str ⟨#[x.cps[i]]⟩, H, I.turnedN hf fun b o hb q => (sb.2 b (by simpa using hb)).trans q, ⟨_, rfl⟩, ⟨rfl, hs⟩, st', fun b hb => (hf b hb).1⟩⟩
 done := by
  intro X hP hw hK hc i pins s σ H E I hf st hg
  subst hP hw hK
  have hx : x.cps[i]? = none := Array.getElem?_eq_none hg
  rcases hty with rfl | rfl
  ·exact wpAny_pyNext_ascii_end (I.ok.hd hc) st hx fun h' eb => ⟨rfl, I.turnedN (t' := s.toks) hf fun b o hb q => eb b o (by simpa using hb) q⟩
  ·exact wpAny_pyNext_wide_end (I.ok.hd hc) st hx fun h' eb => ⟨rfl, I.turnedN (t' := s.toks) hf fun b o hb q => eb b o (by simpa using hb) q⟩
 self := fun _ _ _ _ _ st h => by
  rcases hty with rfl | rfl
  ·exact wpAny_pyIter_striter_ascii st h
  ·exact wpAny_pyIter_striter_wide st h
section
variable {X : Cx} {K : Fg_} {tg : Expr}
def aej (tl : TE) : TI := fun σ H R => tl σ H fun x H1 => ∃ z, x = .str z /\ R (adl z) H1
theorem acR {l : Expr} {tl : TE} (hl : PE X l tl) : PI X tg l (aej tl) := by
 intro pins s σ H R I h
 refine thn (hl pins s σ H _ I h) fun v s1 ⟨x, H1, I1, r1, q1⟩ => ?_
 obtain ⟨z, e, q⟩ := q1
 subst e
 obtain ⟨t, rfl⟩ := r1
 have fin : ∀ (ty : String) (hty : ty = "str_ascii_iterator" \/ ty = "str_iterator"), PIE X pins σ tg R (.ref s1.heap.objs.size) { s1 with heap := s1.heap.push { cls := .type ty, data := .fields #[.str z t, .int 0 0] } } := fun ty hty => by
  refine ⟨s1.heap.objs.size, [s1.heap.objs.size], _, _, H1, rfl, I1.kept (t' := s1.toks) fun b o e => Heap.get?_push_of_some _ e, aaD hty _ z t, ⟨_, Heap.get?_push_size _ rfl, rfl, rfl⟩, fun b hb => ?_, q⟩
  have e : b = s1.heap.objs.size := by simpa using hb
  subst e
  exact I1.fpOk (Nat.le_refl _) (I1.hok.fresh (Nat.le_refl _))
 cases ha : z.cps.all (· < 128)
 ·exact wpAny_pyIter_wide ha (fin _ (.inr rfl))
 ·exact wpAny_pyIter_ascii ha (fin _ (.inl rfl))
variable {σ : St} {H : Hp} {R : It -> Hp -> Prop} {tl : TE} {cap : List (Option Nat)} {g : TG} {tt : TT} {te : TE} {Q : VK} {x : Str}
theorem ap_iStr : aej tl σ H R = tl σ H fun x H1 => ∃ z, x = .str z /\ R (adl z) H1 := rfl
theorem CompP.str (Sσ : St -> Prop) (p : V -> Bool) (F : V -> V) (h0 : Sσ (Im σ cap)) (hz : x.cps.size <= sizeLine)
  (hs : ∀ y ∈ signs x, ∀ (σ : St) (H5 : Hp) (R1 : St -> VK) (R2 : St -> Hp -> Prop), Sσ σ -> Same H H5 -> (p y = true -> ∀ σ4 H6, Sσ σ4 -> Same H5 H6 -> R1 σ4 (F y) H6) -> (p y = false -> ∀ σ4 H6, Sσ σ4 -> Same H5 H6 -> R2 σ4 H6) ->
   g y σ H5 fun σ4 H4 => tt σ4 H4 fun b H5 => if b = true then te σ4 H5 (R1 σ4) else R2 σ4 H5)
  (k : ∀ D H', H D = Option.none -> Same H H' -> H' D = some (.lst (((signs x).filter p).map F)) -> Q (.ref D) H') : CompP cap (adl x) g tt te σ H Q := fun D hD => by
 have hl : (signs x).length = x.cps.size := by simp [signs]
 refine Ph (xs := signs x) (adl x) Sσ p F hD h0 (by omega) (fun i y H' hy sm => ?_) (fun H' sm => ?_) hs fun H' s e => k D H' hD s e
 ·have hi : i < (signs x).length := (List.getElem?_eq_some_iff.mp hy).1
  exact ⟨by show i < x.cps.size; omega, fun z H2 hz => ⟨Option.some.inj (hz.2.symm.trans hy), hz.1⟩⟩
 ·show x.cps.size <= _
  omega
def aex : R2 := fun x y H Q => ∃ i j, x = .str i /\ y = .str j /\ Q (.bl (!decide (j.cps.toList < i.cps.toList))) H
theorem Tj : OpR X (compareOp .LtE) aex := by
 intro pins s σ H x y v u Q I rx ry h
 obtain ⟨i, j, rfl, rfl, q⟩ := h
 obtain ⟨t, rfl⟩ := rx
 obtain ⟨t', rfl⟩ := ry
 exact PySem.P.le_str ⟨.bl _, H, I, rfl, q⟩
def adQ (neg : Bool) : R2 := fun y x H Q => ∃ a o, x = .ref a /\ DGet H a y o /\ Q (.bl (if neg then !o.isSome else o.isSome)) H
theorem RK (hu : X.A.units + 1 < cLine) : OpR X (compareOp .In) (adQ false) := by
 intro pins s σ H y x v u Q I ry rx h
 obtain ⟨a, o, rfl, g, q⟩ := h
 cases rx
 exact aeF hu I g ry fun s' I' => ⟨.bl _, H, I', rfl, q⟩
theorem Sd (hu : X.A.units + 1 < cLine) : OpR X (compareOp .NotIn) (adQ true) := by
 intro pins s σ H y x v u Q I ry rx h
 obtain ⟨a, o, rfl, g, q⟩ := h
 cases rx
 exact abL hu I g ry fun s' I' => ⟨.bl _, H, I', rfl, q⟩
def Uh : List V -> Hp -> VK -> Prop := fun xs H Q => ∃ a kvs, xs = [.ref a] /\ Rd H a (.dK kvs) /\ ∀ p, H p = none -> Q (.ref p) (upd H p (.dK kvs))
theorem Ut : DQ X (.type "dict") Uh := by
 intro pins s σ H xs us Q I r h
 obtain ⟨a, kvs, rfl, e, q⟩ := h
 obtain ⟨u, rfl, ru⟩ := vals1 r
 cases ru
 exact Zz I e fun p s' hp I' => ⟨.ref p, _, I', rfl, q p hp⟩
theorem BP {o value : Expr} {f : Str} {ta tv : TE} {pos pos' : Pos} (ha : PE X o ta) (hv : PE X value tv) (hs : swapsWith value (some (.Attribute o f pos')) pos.line X.env = pure false) (hK : X.K = K := by rfl) : PS X (.Assign [.Attribute o f pos'] value pos) (adO K ta tv f) := hK ▸ acF ha hv hs
variable {ta tv ty td tx : TE} {f : Str} {D : Ends} {C : Addr} {tab : List (Addr × Sp)} {m : Str} {E : XK} {t tk : TA} {sp : Sp} {dvs : List V} {gV : List V -> List V -> List V}
theorem ap_fldK : adE K ta f σ H Q = ta σ H fun x H1 => ∃ a C dx fs v, x = .ref a /\ H1 a = some (.ins C dx fs) /\ Cls K C /\ NoAttr K C f /\ fs.lookup f = some v /\ Q v H1 := rfl
theorem ap_sFld : adO K ta tv f D σ H = tv σ H fun y H1 => ta σ H1 fun x H2 => ∃ a C dx fs, x = .ref a /\ H2 a = some (.ins C dx fs) /\ Cls K C /\ NoAttr K C f /\ fs.length < 1000 /\ D.nx σ (upd H2 a (.ins C dx (Qs f y fs))) := rfl
theorem ap_methD : Qu tab m E ta t σ H Q = ta σ H fun x H1 => ∃ a C dx fs sp, x = .ref a /\ H1 a = some (.ins C dx fs) /\ (C, sp) ∈ tab /\ fs.lookup m = none /\ t σ H1 fun vs H2 => sp (x :: vs) H2 Q E := rfl
theorem ap_make : abY C sp dvs E t σ H Q = t σ H fun vs H1 => ∀ x dx, H1 x = none -> H1 dx = none -> dx ≠ x -> sp (.ref x :: (vs ++ dvs)) (upd (upd H1 dx (.own x)) x (.ins C dx [])) (fun v H2 => v = .non /\ Q (.ref x) H2) E := rfl
theorem ap_dget2 : aaR td ty tx σ H Q = td σ H fun x H1 => ∃ a, x = .ref a /\ IsD H1 a /\ ty σ H1 fun y H2 => tx σ H2 fun z H3 => ∃ o, DGet H3 a y o /\ Q (o.getD z) H3 := rfl
theorem ap_dget : adv td ty σ H Q = td σ H fun x H1 => ty σ H1 fun y H2 => ∃ a v, x = .ref a /\ DGet H2 a y (some v) /\ Q v H2 := rfl
theorem ap_dput : adu td ty tv D σ H = tv σ H fun v H1 => td σ H1 fun x H2 => ty σ H2 fun y H3 => ∃ a H4, x = .ref a /\ DPut H3 a y v H4 /\ D.nx σ H4 := rfl
theorem ap_dnewK : aaT σ H Q = ∀ p, H p = none -> Q (.ref p) (upd H p (.dK [])) := rfl
theorem ap_dpop1 : aaW td ty σ H Q = td σ H fun x H1 => ∃ a, x = .ref a /\ IsD H1 a /\ ty σ H1 fun y H2 => ∃ kvs k v, H2 a = some (.dK kvs) /\ y = kV k /\ Gs kvs k = some v /\ Q v (upd H2 a (.dK (Il kvs k))) := rfl
theorem ap_dictOf {p : Addr} : Uh [.ref p] H Q = ∃ kvs, Rd H p (.dK kvs) /\ ∀ q, H q = none -> Q (.ref q) (upd H q (.dK kvs)) := by simp [Uh]
theorem ap_inD {neg : Bool} {x y : V} : adQ neg y x H Q = ∃ a o, x = .ref a /\ DGet H a y o /\ Q (.bl (if neg then !o.isSome else o.isSome)) H := rfl
theorem ap_leS {i j : Str} : aex (.str i) (.str j) H Q = Q (.bl (!decide (j.cps.toList < i.cps.toList))) H := propext ⟨fun ⟨i', j', e1, e2, q⟩ => by cases e1; cases e2; exact q, fun q => ⟨i, j, rfl, rfl, q⟩⟩
theorem ap_rIsC {y : V} : aem K [y, .ref C] H Q = ∃ t k, TyOf K H y t /\ PySem.W.kitOne K t (.ref C) = some k /\ Q (.bl k) H := propext ⟨fun ⟨x', C', t, k, e, r⟩ => by cases e; exact ⟨t, k, r⟩, fun ⟨t, k, r⟩ => ⟨y, C, t, k, rfl, r⟩⟩
theorem ap_ixT {x y : V} : adB K x y H Q = ∃ p xs i v, x = .ref p /\ y = .int i /\ SqT K H p xs /\ atI xs i = some v /\ Q v H := rfl
theorem ap_rTupOf {p : Addr} : Zq K [.ref p] H Q = ∃ ys, ((SqL K H p ys /\ ∀ l, H l = none -> Q (.ref l) (upd H l (.tup ys))) \/ (SqT K H p ys /\ Q (.ref p) H)) := by simp [Zq]
theorem ap_rIn {neg : Bool} {x y : V} : rIn K neg x y H Q = ∃ p xs, y = .ref p /\ (SqL K H p xs \/ SqT K H p xs) /\ Qd x = true /\ xs.all Qd = true /\ Q (.bl (if neg then !inV x xs else inV x xs)) H := rfl
theorem ap_lenS {z : Str} : (fun (xs : List V) (H : Hp) (Q : VK) => ∃ z, xs = [V.str z] /\ z.length <= sizeLine /\ Q (.int z.length) H) [.str z] H Q = (z.length <= sizeLine /\ Q (.int z.length) H) := propext ⟨fun ⟨z', e, r⟩ => by cases e; exact r, fun r => ⟨z, rfl, r⟩⟩
end
end L2
namespace L2
open PySem PySem.W PySem.Spec PyProof.Rows
section
variable {α β : Type} {lt : Nat -> Nat -> Bool} {n : Nat}
def Kok (lt : Nat -> Nat -> Bool) (n : Nat) (R : α -> Prop) : KasT α -> Prop
 | .ret a => R a
 | .ask i j k => i < n /\ j < n /\ Kok lt n R (k (lt i j))
theorem Kok.bind {R : α -> Prop} {S : β -> Prop} {f : α -> KasT β} : ∀ {t : KasT α}, Kok lt n R t -> (∀ a, R a -> Kok lt n S (f a)) -> Kok lt n S (t.bind f)
 | .ret a, h, k => k a h
 | .ask i j q, h, k => ⟨h.1, h.2.1, Kok.bind (t := q (lt i j)) h.2.2 k⟩
theorem Kok.wp {R : α -> Prop} {cmp : Nat -> Nat -> (Bool -> Shared -> Prop) -> Shared -> Prop} {s : Shared} {Q : α -> Shared -> Prop} (hc : ∀ i j (C : Bool -> Shared -> Prop), i < n -> j < n -> C (lt i j) s -> cmp i j C s) :
  ∀ {t : KasT α}, Kok lt n R t -> (∀ a, R a -> Q a s) -> t.kasWp cmp Q s
 | .ret a, h, k => k a h
 | .ask i j q, h, k => hc i j _ h.1 h.2.1 (Kok.wp hc (t := q (lt i j)) h.2.2 k)
def Prm (n : Nat) (p : Array Nat) : Prop := p.toList.Perm (List.range n)
theorem Prm.ltn {p : Array Nat} (h : Prm n p) (hn : 0 < n) (i : Nat) : p.getD i 0 < n := by
 by_cases hi : i < p.size
 ·have hm : p.getD i 0 ∈ p.toList := by simp [Array.getD, hi]
  exact List.mem_range.mp (h.mem_iff.mp hm)
 ·simp [Array.getD, hi, hn]
theorem Prm.rev {p : Array Nat} (h : Prm n p) (i j : Nat) : Prm n (kas_rev p i j) := (Array.perm_iff_toList_perm.mp (mirror_perm p i j _)).trans h
theorem Prm.bub {p : Array Nat} (h : Prm n p) (k d : Nat) : Prm n (bubble p k d) := (Array.perm_iff_toList_perm.mp (bubble_perm p k d)).trans h
theorem Va {p : Array Nat} (h : Prm n p) (hn : 0 < n) : ∀ f m, Kok lt n (fun _ => True) (kas_asc p f m)
 | 0, _ => trivial
 | f + 1, m => ⟨Prm.ltn h hn _, Prm.ltn h hn _, by
  dsimp only
  by_cases hc : lt (p.getD m 0) (p.getD (m - 1) 0) = true
  ·rw [if_pos hc]; trivial
  ·rw [if_neg hc]; exact Va h hn f (m + 1)⟩
theorem Nj (hn : 0 < n) : ∀ f {p : Array Nat} m q, Prm n p -> Kok lt n (fun r : Array Nat × Nat × Nat => Prm n r.1) (kas_desc f p m q)
 | 0, _, _, _, h => h
 | f + 1, p, m, q, h => ⟨Prm.ltn h hn _, Prm.ltn h hn _, by
  dsimp only
  by_cases hc : lt (p.getD m 0) (p.getD (m - 1) 0) = true
  ·rw [if_pos hc]
   by_cases hq : q > 0
   ·rw [if_pos hq]; exact Nj hn f _ _ (h.rev _ _)
   ·rw [if_neg hq]; exact Nj hn f _ _ h
  ·rw [if_neg hc]
   refine ⟨Prm.ltn h hn _, Prm.ltn h hn _, ?_⟩
   dsimp only
   by_cases hd : lt (p.getD (m - 1) 0) (p.getD m 0) = true
   ·rw [if_pos hd]; exact h
   ·rw [if_neg hd]; exact Nj hn f _ _ h⟩
theorem Wk {p : Array Nat} (h : Prm n p) (hn : 0 < n) (m r : Nat) : Kok lt n (fun r : Nat × Array Nat => Prm n r.2) (kas_tail3 m r p) :=
 Kok.bind (Va (h.rev _ _) hn _ _) fun _ _ => h.rev 0 m
theorem Wm {p : Array Nat} (h : Prm n p) (hn : 0 < n) (m r : Nat) : Kok lt n (fun r : Nat × Array Nat => Prm n r.2) (kas_descPart m r p) :=
 Kok.bind (Nj hn _ _ _ h) fun a ha => by
  by_cases hq : a.2.2 > 0
  ·rw [if_pos hq]; exact Wk (ha.rev _ _) hn _ _
  ·rw [if_neg hq]; exact Wk ha hn _ _
theorem Zb {p : Array Nat} (h : Prm n p) (hn : 0 < n) (r : Nat) : Kok lt n (fun r : Nat × Array Nat => Prm n r.2) (kas_count r p) :=
 Kok.bind (Va h hn _ _) fun m _ => by
  by_cases h1 : (m == r) = true
  ·rw [if_pos h1]; exact h
  ·rw [if_neg h1]
   by_cases h2 : m > 1
   ·rw [if_pos h2]
    refine ⟨Prm.ltn h hn _, Prm.ltn h hn _, ?_⟩
    dsimp only
    by_cases h3 : lt (p.getD 0 0) (p.getD (m - 1) 0) = true
    ·rw [if_pos h3]; exact h
    ·rw [if_neg h3]; exact Wm (h.rev _ _) hn _ _
   ·rw [if_neg h2]; exact Wm h hn _ _
theorem Ob {p : Array Nat} (h : Prm n p) (hn : 0 < n) (k : Nat) : ∀ f l r, Kok lt n (fun _ => True) (kas_place p k f l r)
 | 0, _, _ => trivial
 | f + 1, l, r => by
  show Kok lt n _ (if l >= r then _ else _)
  by_cases h1 : l >= r
  ·rw [if_pos h1]; trivial
  ·rw [if_neg h1]
   refine ⟨Prm.ltn h hn _, Prm.ltn h hn _, ?_⟩
   dsimp only
   by_cases h3 : lt (p.getD k 0) (p.getD ((l + r) / 2) 0) = true
   ·rw [if_pos h3]; exact Ob h hn k f _ _
   ·rw [if_neg h3]; exact Ob h hn k f _ _
theorem Xy (hn : 0 < n) : ∀ f {p : Array Nat} k, Prm n p -> Kok lt n (Prm n) (kas_bin f p k)
 | 0, _, _, h => h
 | f + 1, p, k, h => Kok.bind (Ob h hn k k 0 k) fun l _ => Xy hn f _ (h.bub _ _)
theorem ZV (hn : 0 < n) : Kok lt n (Prm n) (kas_sort n) :=
 Kok.bind (Zb (p := (List.range n).toArray) (by unfold Prm; simp) hn n) fun a ha => by
  by_cases h1 : a.1 < n
  ·rw [if_pos h1]; exact Xy hn _ _ ha
  ·rw [if_neg h1]; exact ha
end
section
variable {key : Nat -> Int} {n : Nat}
def Up (key : Nat -> Int) (p : Array Nat) (m : Nat) : Prop := ∀ a b, a < b -> b < m -> key (p.getD a 0) < key (p.getD b 0)
def Dn (key : Nat -> Int) (p : Array Nat) (m : Nat) : Prop := ∀ a b, a < b -> b < m -> key (p.getD b 0) < key (p.getD a 0)
theorem HD (p : Array Nat) (k : Nat) : p.getD k 0 = (p[k]?).getD 0 := by
 by_cases h : k < p.size
 ·simp [Array.getD, h]
 ·simp [Array.getD, h]
theorem Prm.size {p : Array Nat} (h : Prm n p) : p.size = n := by
 have := h.length_eq
 simpa using this
theorem Prm.unlike {p : Array Nat} (h : Prm n p) (hk : ∀ i j, i < n -> j < n -> key i = key j -> i = j) {a b : Nat} (ha : a < n) (hb : b < n) (hne : a ≠ b) : key (p.getD a 0) ≠ key (p.getD b 0) := fun e => by
 have hs := h.size
 have hn : 0 < n := by omega
 have e1 := hk _ _ (h.ltn hn a) (h.ltn hn b) e
 have hnd : p.toList.Nodup := h.nodup_iff.mpr List.nodup_range
 have e2 : p.toList[a]'(by simpa [hs] using ha) = p.toList[b]'(by simpa [hs] using hb) := by
  have q1 : p.getD a 0 = p[a]'(by omega) := by simp [Array.getD, hs, ha]
  have q2 : p.getD b 0 = p[b]'(by omega) := by simp [Array.getD, hs, hb]
  rw [q1, q2] at e1
  simpa using e1
 exact hne ((List.getElem_inj hnd).mp e2)
theorem Yc {p : Array Nat} {i j : Nat} (hj : j <= p.size) (k : Nat) : (kas_rev p i j).getD k 0 = if i <= k /\ k < j then p.getD (i + j - 1 - k) 0 else p.getD k 0 := by
 unfold kas_rev
 rw [HD, getElem?_mirror_all hj]
 by_cases c : i <= k /\ k < j
 ·rw [if_pos c, if_pos c, HD]
 ·rw [if_neg c, if_neg c, HD]
theorem Za {p : Array Nat} {k l : Nat} (hk : k < p.size) (hl : l <= k) (a : Nat) : (bubble p k (k - l)).getD a 0 = if a = l then p.getD k 0 else if l < a /\ a <= k then p.getD (a - 1) 0 else p.getD a 0 := by
 rw [HD, getElem?_bubble hk (k - l) (by omega), show k - (k - l) = l by omega]
 by_cases c1 : a = l
 ·rw [if_pos c1, if_pos c1, HD]
 ·rw [if_neg c1, if_neg c1]
  by_cases c2 : l < a /\ a <= k
  ·rw [if_pos c2, if_pos c2, HD]
  ·rw [if_neg c2, if_neg c2, HD]
theorem Kok.mono {α : Type} {lt : Nat -> Nat -> Bool} {R S : α -> Prop} (h : ∀ a, R a -> S a) : ∀ {t : KasT α}, Kok lt n R t -> Kok lt n S t
 | .ret a, q => h a q
 | .ask i j k, q => ⟨q.1, q.2.1, Kok.mono h q.2.2⟩
theorem Up.snoc {p : Array Nat} {m : Nat} (h : Up key p m) (h1 : 1 <= m) (hl : key (p.getD (m - 1) 0) < key (p.getD m 0)) : Up key p (m + 1) := fun a b hab hb => by
 by_cases e : b = m
 ·subst e
  by_cases e2 : a = b - 1
  ·subst e2; exact hl
  ·exact Int.lt_trans (h a (b - 1) (by omega) (by omega)) hl
 ·exact h a b hab (by omega)
theorem Dn.snoc {p : Array Nat} {m : Nat} (h : Dn key p m) (h1 : 1 <= m) (hl : key (p.getD m 0) < key (p.getD (m - 1) 0)) : Dn key p (m + 1) := fun a b hab hb => by
 by_cases e : b = m
 ·subst e
  by_cases e2 : a = b - 1
  ·subst e2; exact hl
  ·exact Int.lt_trans hl (h a (b - 1) (by omega) (by omega))
 ·exact h a b hab (by omega)
theorem abd (hk : ∀ i j, i < n -> j < n -> key i = key j -> i = j) {p : Array Nat} (h : Prm n p) : ∀ f m, 1 <= m -> m + f <= n -> Up key p m ->
  Kok (fun i j => decide (key i < key j)) n (fun r => m <= r /\ r <= m + f /\ Up key p r /\ (r < m + f -> key (p.getD r 0) < key (p.getD (r - 1) 0))) (kas_asc p f m)
 | 0, m, h1, h2, hu => ⟨Nat.le_refl _, Nat.le_refl _, hu, fun z => absurd z (by omega)⟩
 | f + 1, m, h1, h2, hu => ⟨Prm.ltn h (by omega) _, Prm.ltn h (by omega) _, by
  dsimp only
  by_cases hc : key (p.getD m 0) < key (p.getD (m - 1) 0)
  ·rw [if_pos (by simpa using hc)]
   exact ⟨Nat.le_refl _, by omega, hu, fun _ => hc⟩
  ·rw [if_neg (by simpa using hc)]
   have hne := h.unlike hk (show m - 1 < n by omega) (show m < n by omega) (by omega)
   refine Kok.mono (fun r hr => ?_) (abd hk h f (m + 1) (by omega) (by omega) (hu.snoc h1 (by omega)))
   exact ⟨by omega, by omega, hr.2.2.1, fun z => hr.2.2.2 (by omega)⟩⟩
theorem aaU (hk : ∀ i j, i < n -> j < n -> key i = key j -> i = j) {p : Array Nat} (h : Prm n p) : ∀ f m, 1 <= m -> m + f <= n -> Dn key p m ->
  Kok (fun i j => decide (key i < key j)) n (fun r : Array Nat × Nat × Nat => r.1 = p /\ r.2.2 = 0 /\ m <= r.2.1 /\ r.2.1 <= m + f /\ Dn key p r.2.1) (kas_desc f p m 0)
 | 0, m, h1, h2, hu => ⟨rfl, rfl, Nat.le_refl _, Nat.le_refl _, hu⟩
 | f + 1, m, h1, h2, hu => ⟨Prm.ltn h (by omega) _, Prm.ltn h (by omega) _, by
  dsimp only
  by_cases hc : key (p.getD m 0) < key (p.getD (m - 1) 0)
  ·rw [if_pos (by simpa using hc), if_neg (by omega)]
   refine Kok.mono (fun r hr => ?_) (aaU hk h f (m + 1) (by omega) (by omega) (hu.snoc h1 hc))
   exact ⟨hr.1, hr.2.1, by omega, by omega, hr.2.2.2.2⟩
  ·rw [if_neg (by simpa using hc)]
   have hne := h.unlike hk (show m - 1 < n by omega) (show m < n by omega) (by omega)
   refine ⟨Prm.ltn h (by omega) _, Prm.ltn h (by omega) _, ?_⟩
   dsimp only
   rw [if_pos (decide_eq_true (by omega))]
   exact ⟨rfl, rfl, Nat.le_refl _, by show m <= _; omega, hu⟩⟩
theorem acO (hk : ∀ i j, i < n -> j < n -> key i = key j -> i = j) {p : Array Nat} (h : Prm n p) {m : Nat} (h1 : 1 <= m) (h2 : m <= n) (hd : Dn key p m) :
  Kok (fun i j => decide (key i < key j)) n (fun r : Nat × Array Nat => Prm n r.2 /\ 1 <= r.1 /\ r.1 <= n /\ Up key r.2 r.1) (kas_tail3 m n p) := by
 have hs := h.size
 have hu : Up key (kas_rev p 0 m) m := fun a b hab hb => by
  rw [Yc (by omega), Yc (by omega), if_pos (by omega), if_pos (by omega)]
  exact hd _ _ (by omega) (by omega)
 refine Kok.bind (abd hk (h.rev 0 m) (n - m) m h1 (by omega) hu) fun r hr => ?_
 exact ⟨h.rev 0 m, by show 1 <= r; omega, by show r <= n; omega, hr.2.2.1⟩
theorem aco (hk : ∀ i j, i < n -> j < n -> key i = key j -> i = j) {p : Array Nat} (h : Prm n p) {m : Nat} (h2 : m + 1 <= n) (hd : Dn key p (m + 1)) :
  Kok (fun i j => decide (key i < key j)) n (fun r : Nat × Array Nat => Prm n r.2 /\ 1 <= r.1 /\ r.1 <= n /\ Up key r.2 r.1) (kas_descPart m n p) := by
 refine Kok.bind (aaU hk h (n - (m + 1)) (m + 1) (by omega) (by omega) hd) fun r hr => ?_
 obtain ⟨r1, r2, r3⟩ := r
 obtain ⟨e1, e2, e3, e4, e5⟩ := hr
 dsimp only at e1 e2 e3 e4 e5 ⊢
 subst e1 e2
 rw [if_neg (by omega)]
 exact acO hk h (by omega) (by omega) e5
theorem acd (hk : ∀ i j, i < n -> j < n -> key i = key j -> i = j) {p : Array Nat} (h : Prm n p) (hn : 1 <= n) :
  Kok (fun i j => decide (key i < key j)) n (fun r : Nat × Array Nat => Prm n r.2 /\ 1 <= r.1 /\ r.1 <= n /\ Up key r.2 r.1) (kas_count n p) := by
 refine Kok.bind (abd hk h (n - 1) 1 (by omega) (by omega) fun a b h1 h2 => absurd h1 (by omega)) fun m hm => ?_
 obtain ⟨m1, m2, m3, m4⟩ := hm
 by_cases h1 : (m == n) = true
 ·rw [if_pos h1]
  exact ⟨h, m1, by show m <= n; omega, m3⟩
 ·rw [if_neg h1]
  have h1 : m ≠ n := by simpa using h1
  by_cases h2 : m > 1
  ·rw [if_pos h2]
   refine ⟨Prm.ltn h (by omega) _, Prm.ltn h (by omega) _, ?_⟩
   dsimp only
   have := m3 0 (m - 1) (by omega) (by omega)
   rw [if_pos (by simpa using this)]
   exact ⟨h, m1, by show m <= n; omega, m3⟩
  ·rw [if_neg h2]
   have e : m = 1 := by omega
   subst e
   exact aco hk h (by omega) fun a b hab hb => by
    have : a = 0 := by omega
    have : b = 1 := by omega
    subst a b
    exact m4 (by omega)
theorem Ug {p : Array Nat} (h : Prm n p) {k : Nat} (hkn : k < n) (hu : Up key p k) : ∀ f l r, l <= r -> r <= k -> r - l <= f -> (∀ a, a < l -> key (p.getD a 0) <= key (p.getD k 0)) -> (∀ a, r <= a -> a < k -> key (p.getD k 0) < key (p.getD a 0)) ->
  Kok (fun i j => decide (key i < key j)) n (fun l' => l' <= k /\ (∀ a, a < l' -> key (p.getD a 0) <= key (p.getD k 0)) /\ (∀ a, l' <= a -> a < k -> key (p.getD k 0) < key (p.getD a 0))) (kas_place p k f l r)
 | 0, l, r, h1, h2, h3, ha, hb => ⟨by omega, ha, fun a q1 q2 => hb a (by omega) q2⟩
 | f + 1, l, r, h1, h2, h3, ha, hb => by
  show Kok _ n _ (if l >= r then _ else _)
  by_cases hc : l >= r
  ·rw [if_pos hc]
   exact ⟨by omega, ha, fun a q1 q2 => hb a (by omega) q2⟩
  ·rw [if_neg hc]
   refine ⟨Prm.ltn h (by omega) _, Prm.ltn h (by omega) _, ?_⟩
   dsimp only
   by_cases hd : key (p.getD k 0) < key (p.getD ((l + r) / 2) 0)
   ·rw [if_pos (by simpa using hd)]
    refine Ug h hkn hu f _ _ (by omega) (by omega) (by omega) ha fun a q1 q2 => ?_
    by_cases e : a = (l + r) / 2
    ·rw [e]; exact hd
    ·exact Int.lt_trans hd (hu _ _ (by omega) q2)
   ·rw [if_neg (by simpa using hd)]
    refine Ug h hkn hu f _ _ (by omega) (by omega) (by omega) (fun a q1 => ?_) hb
    by_cases e : a = (l + r) / 2
    ·rw [e]; omega
    ·have := hu a ((l + r) / 2) (by omega) (by omega)
     omega
theorem ack (hk : ∀ i j, i < n -> j < n -> key i = key j -> i = j) : ∀ f {p : Array Nat} k, Prm n p -> k + f = n -> Up key p k -> Kok (fun i j => decide (key i < key j)) n (fun p' => Prm n p' /\ Up key p' n) (kas_bin f p k)
 | 0, p, k, h, e, hu => ⟨h, by rwa [<- e]⟩
 | f + 1, p, k, h, e, hu => by
  refine Kok.bind (Ug h (by omega) hu k 0 k (by omega) (by omega) (by omega) (fun a q => absurd q (by omega)) (fun a q1 q2 => absurd q2 (by omega))) fun l hl => ?_
  obtain ⟨l1, l2, l3⟩ := hl
  have hs := h.size
  refine ack hk f (k + 1) (h.bub _ _) (by omega) fun a b hab hb => ?_
  have hlt : ∀ x, x < l -> key (p.getD x 0) < key (p.getD k 0) := fun x hx => by
   have := l2 x hx
   have := h.unlike hk (show x < n by omega) (show k < n by omega) (by omega)
   omega
  rw [Za (by omega) l1, Za (by omega) l1]
  by_cases c1 : a = l
  ·rw [if_pos c1, if_neg (by omega), if_pos (by omega)]
   exact l3 _ (by omega) (by omega)
  ·rw [if_neg c1]
   by_cases c2 : b = l
   ·rw [if_neg (by omega), if_pos c2]
    exact hlt _ (by omega)
   ·rw [if_neg c2]
    by_cases c3 : l < a
    ·rw [if_pos (by omega), if_pos (by omega)]
     exact hu _ _ (by omega) (by omega)
    ·rw [if_neg (by omega)]
     by_cases c4 : l < b
     ·rw [if_pos (by omega)]
      by_cases c5 : b - 1 = a
      ·omega
      ·exact hu _ _ (by omega) (by omega)
     ·rw [if_neg (by omega)]
      exact hu _ _ hab (by omega)
theorem ady (hk : ∀ i j, i < n -> j < n -> key i = key j -> i = j) (hn : 1 <= n) : Kok (fun i j => decide (key i < key j)) n (fun p => Prm n p /\ Up key p n) (kas_sort n) :=
 Kok.bind (acd hk (p := (List.range n).toArray) (by unfold Prm; simp) hn) fun a ha => by
  obtain ⟨a1, a2, a3, a4⟩ := ha
  by_cases h1 : a.1 < n
  ·rw [if_pos h1, show max a.1 1 = a.1 by omega]
   exact ack hk _ _ a1 (by omega) a4
  ·rw [if_neg h1]
   have e : a.1 = n := by omega
   exact ⟨a1, by rwa [e] at a4⟩
end
section
variable {n : Nat} {lt : Nat -> Nat -> Bool}
theorem VH {p q : Nat -> Bool} : ∀ {l : List Nat} {i : Nat}, i ∈ l -> (∀ x ∈ l, p x = true -> q x = true) -> p i = false -> q i = true -> l.countP p < l.countP q
 | [], _, h, _, _, _ => by cases h
 | a :: l, i, h, hpq, hp, hq => by
  rw [List.countP_cons, List.countP_cons]
  have hm : l.countP p <= l.countP q := List.countP_mono_left fun x hx => hpq x (List.mem_cons_of_mem _ hx)
  rcases List.mem_cons.mp h with rfl | h
  ·rw [hp, hq]
   simp
   omega
  ·have ih := VH h (fun x hx => hpq x (List.mem_cons_of_mem _ hx)) hp hq
   have := hpq a List.mem_cons_self
   cases hpa : p a with
   | true => rw [this hpa]; simp; exact ih
   | false => simp; split <;> omega
theorem Kok.congr {α : Type} {lt' : Nat -> Nat -> Bool} {R : α -> Prop} (h : ∀ i j, i < n -> j < n -> lt i j = lt' i j) : ∀ {t : KasT α}, Kok lt n R t -> Kok lt' n R t
 | .ret a, q => q
 | .ask i j k, q => ⟨q.1, q.2.1, h i j q.1 q.2.1 ▸ Kok.congr h q.2.2⟩
theorem abZ (irr : ∀ i, i < n -> lt i i = false) (tr : ∀ i j k, i < n -> j < n -> k < n -> lt i j = true -> lt j k = true -> lt i k = true) (tot : ∀ i j, i < n -> j < n -> i ≠ j -> lt i j = true \/ lt j i = true) (hn : 1 <= n) :
  Kok lt n (fun p => Prm n p /\ ∀ a b, a < b -> b < n -> lt (p.getD a 0) (p.getD b 0) = true) (kas_sort n) := by
 obtain ⟨key, hkey⟩ : ∃ key : Nat -> Int, ∀ i, key i = (((List.range n).countP fun x => lt x i : Nat) : Int) := ⟨_, fun _ => rfl⟩
 have up : ∀ i j, i < n -> j < n -> lt i j = true -> key i < key j := fun i j hi hj h => by
  rw [hkey, hkey]
  have := VH (p := fun x => lt x i) (q := fun x => lt x j) (l := List.range n) (i := i) (List.mem_range.mpr hi) (fun x hx hxi => tr x i j (List.mem_range.mp hx) hi hj hxi h) (irr i hi) h
  omega
 have eq : ∀ i j, i < n -> j < n -> lt i j = decide (key i < key j) := fun i j hi hj => by
  cases h : lt i j with
  | true => exact (decide_eq_true (up i j hi hj h)).symm
  | false =>
   refine (decide_eq_false fun z => ?_).symm
   by_cases e : i = j
   ·rw [e] at z; omega
   ·rcases tot i j hi hj e with t | t
    ·rw [h] at t; cases t
    ·have := up j i hj hi t
     omega
 have hk : ∀ i j, i < n -> j < n -> key i = key j -> i = j := fun i j hi hj e => by
  by_cases h : i = j
  ·exact h
  ·rcases tot i j hi hj h with t | t
   ·have := up i j hi hj t; omega
   ·have := up j i hj hi t; omega
 refine Kok.congr (lt := fun i j => decide (key i < key j)) (fun i j hi hj => (eq i j hi hj).symm) (Kok.mono (fun p hp => ⟨hp.1, fun a b hab hb => ?_⟩) (ady hk hn))
 rw [eq _ _ (hp.1.ltn (by omega) _) (hp.1.ltn (by omega) _)]
 exact decide_eq_true (hp.2 a b hab hb)
end
def Js : List Int -> List Int -> Bool -> Bool
 | x :: xs, y :: ys, f => if x = y then Js xs ys f else decide (x < y)
 | [], _, f => f
 | _ :: _, [], f => f
theorem Ux : ∀ a : List Int, Js a a false = false
 | [] => rfl
 | x :: a => by rw [Js, if_pos rfl, Ux a]
theorem aaK : ∀ {a b c : List Int}, a.length = b.length -> b.length = c.length -> Js a b false = true -> Js b c false = true -> Js a c false = true
 | [], _, _, _, _, h, _ => by simp [Js] at h
 | x :: a, [], _, h, _, _, _ => by simp at h
 | x :: a, y :: b, [], _, h, _, _ => by simp at h
 | x :: a, y :: b, z :: c, h1, h2, h, h' => by
  rw [Js] at h h' ⊢
  by_cases e1 : x = y
  ·subst e1
   rw [if_pos rfl] at h
   by_cases e2 : x = z
   ·subst e2
    rw [if_pos rfl] at h' ⊢
    exact aaK (by simpa using h1) (by simpa using h2) h h'
   ·rw [if_neg e2] at h' ⊢
    exact h'
  ·rw [if_neg e1] at h
   have h := of_decide_eq_true h
   by_cases e2 : y = z
   ·subst e2
    rw [if_neg e1]
    exact decide_eq_true h
   ·rw [if_neg e2] at h'
    have h' := of_decide_eq_true h'
    rw [if_neg (by omega)]
    exact decide_eq_true (by omega)
theorem Yt : ∀ {a b : List Int}, a.length = b.length -> a ≠ b -> Js a b false = true \/ Js b a false = true
 | [], [], _, h => (h rfl).elim
 | [], y :: b, h, _ => by simp at h
 | x :: a, [], h, _ => by simp at h
 | x :: a, y :: b, h, hne => by
  rw [Js, Js]
  by_cases e : x = y
  ·subst e
   rw [if_pos rfl, if_pos rfl]
   exact Yt (by simpa using h) fun z => hne (by rw [z])
  ·rw [if_neg e, if_neg (Ne.symm e)]
   rcases Int.lt_or_gt_of_ne e with q | q
   ·exact .inl (decide_eq_true q)
   ·exact .inr (decide_eq_true q)
section
variable {P : Program} {w : World} {A : Around} {E : Value -> Shared -> Prop} {s : Shared}
theorem Wl {b f : Bool} {Q : Bool -> Shared -> Prop} : ∀ {ms ns : List Int} {xs ys : List Value}, Vals (ms.map V.int) xs -> Vals (ns.map V.int) ys -> ∀ i, Q (Js ms ns f) s -> KatLex P w A b f Q (xs.zip ys) i s
 | [], _, _, _, r, _, i, h => by
  cases r
  exact h
 | m :: ms, [], _, _, r, r', i, h => by
  cases r'
  rw [List.zip_nil_right]
  exact h
 | m :: ms, n :: ns, _, _, r, r', i, h => by
  rw [List.map_cons] at r r'
  cases r with
  | cons a1 a2 =>
  cases r' with
  | cons b1 b2 =>
  obtain ⟨t, rfl⟩ := a1
  obtain ⟨t', rfl⟩ := b1
  rw [List.zip_cons_cons]
  refine kat_cons (wpAny_eqBool_int ?_)
  by_cases e : m = n
  ·rw [show (m == n) = true by simp [e]]
   refine kat_yes (Wl a2 b2 (i + 1) ?_)
   rwa [Js, if_pos e] at h
  ·rw [show (m == n) = false by simp [e]]
   refine kat_no ?_
   rw [Js, if_neg e] at h
   cases hf : (b && i == 0) with
   | true => exact oneLt_int h
   | false => exact kat_one _ _ (lt_int h)
theorem Uw {h : Heap} : ∀ {us : List Value}, (∀ v ∈ us, ∃ b o xs m i t, v = .ref b /\ h.get? b = some o /\ o.cls = .type "tuple" /\ o.data = .seq xs m /\ xs[0]? = some (Value.int i t)) ->
  ∃ fs, KatTups h us fs /\ fs.length = us.length /\ ∀ f ∈ fs, ∃ i t, f = Value.int i t
 | [], _ => ⟨[], trivial, rfl, fun _ h => by cases h⟩
 | v :: us, hv => by
  obtain ⟨b, o, xs, m, i, t, rfl, h1, h2, h3, h4⟩ := hv v (.head _)
  obtain ⟨fs, k1, k2, k3⟩ := Uw (us := us) fun v hm => hv v (.tail _ hm)
  exact ⟨_ :: fs, KatTups.cons h1 h2 h3 h4 k1, by rw [List.length_cons, List.length_cons, k2], fun f hf => (List.mem_cons.mp hf).elim (fun e => ⟨i, t, e⟩) (k3 f)⟩
end
section
variable {X : Cx}
theorem Kq : ∀ {ys : List V} {us : List Value} {i : Nat}, Vals ys us -> i < ys.length -> RelV (ys.getD i .non) (us.getD i Value.none)
 | _, _, _, .nil, h => by simp at h
 | _, _, 0, .cons r _, _ => r
 | _, _, i + 1, .cons _ t, h => by
  simp only [List.getD_cons_succ]
  exact Kq t (by simpa using h)
theorem PJ {ys : List V} {us : List Value} (r : Vals ys us) : ∀ {l : List Nat}, (∀ i ∈ l, i < ys.length) -> Vals (l.map fun i => ys.getD i .non) (l.map fun i => us.getD i Value.none)
 | [], _ => .nil
 | i :: l, h => .cons (Kq r (h i (.head _))) (PJ r fun j hj => h j (.tail _ hj))
theorem Od (ys : List V) : ((List.range ys.length).map fun i => ys.getD i V.non) = ys := by
 refine List.ext_getElem (by simp) fun i h1 h2 => ?_
 simp [h2]
def VV (ys : List V) (ts : V -> List Int) (p : Array Nat) : Prop := ∀ m, (∀ y ∈ ys, (ts y).length = m) -> (ys.map ts).Nodup -> ∀ a b, a < b -> b < ys.length -> Js (ts (ys.getD (p.getD a 0) .non)) (ts (ys.getD (p.getD b 0) .non)) false = true
theorem YQ {ys : List V} {ts : V -> List Int} (hn : 1 <= ys.length) : Kok (fun i j => Js (ts (ys.getD i .non)) (ts (ys.getD j .non)) (decide ((ts (ys.getD i .non)).length < (ts (ys.getD j .non)).length))) ys.length (fun p => Prm ys.length p /\ VV ys ts p) (kas_sort ys.length) := by
 by_cases h : ∃ m, (∀ y ∈ ys, (ts y).length = m) /\ (ys.map ts).Nodup
 ·obtain ⟨m, h1, h2⟩ := h
  have hm : ∀ i, i < ys.length -> (ts (ys.getD i .non)).length = m := fun i hi => h1 _ (by simp [hi])
  have hf : ∀ i j, i < ys.length -> j < ys.length -> decide ((ts (ys.getD i .non)).length < (ts (ys.getD j .non)).length) = false := fun i j hi hj => by
   rw [hm i hi, hm j hj]; simp
  refine Kok.mono (fun p hp => ⟨hp.1, fun _ _ _ a b hab hb => ?_⟩) (abZ (n := ys.length) (lt := fun i j => Js (ts (ys.getD i .non)) (ts (ys.getD j .non)) (decide ((ts (ys.getD i .non)).length < (ts (ys.getD j .non)).length))) (fun i hi => ?_) (fun i j k hi hj hk h h' => ?_) (fun i j hi hj hne => ?_) hn)
  ·rw [hf i i hi hi]; exact Ux _
  ·rw [hf i j hi hj] at h
   rw [hf j k hj hk] at h'
   rw [hf i k hi hk]
   exact aaK ((hm i hi).trans (hm j hj).symm) ((hm j hj).trans (hm k hk).symm) h h'
  ·rw [hf i j hi hj, hf j i hj hi]
   refine Yt ((hm i hi).trans (hm j hj).symm) fun e => hne ?_
   refine (List.getElem?_inj (by rw [List.length_map]; exact hi) h2).mp ?_
   rw [List.getElem?_map, List.getElem?_map, List.getElem?_eq_getElem hi, List.getElem?_eq_getElem hj]
   have q1 : ys.getD i .non = ys[i] := by simp [hi]
   have q2 : ys.getD j .non = ys[j] := by simp [hj]
   rw [q1, q2] at e
   exact congrArg some e
  ·have := hp.2 a b hab hb
   rwa [hf _ _ (hp.1.ltn (by omega) _) (hp.1.ltn (by omega) _)] at this
 ·exact Kok.mono (fun p hp => ⟨hp, fun m h1 h2 => absurd ⟨m, h1, h2⟩ h⟩) (ZV hn)
end
def But (D : Addr) (H H' : Hp) : Prop := ∀ b u, b ≠ D -> H b = some u -> H' b = some u
section
variable {K : Fg_} {a : Addr} {xs : List V} {g : TG} {te : TE} {σ : St} {H : Hp} {Q : VK} {cap : List (Option Nat)}
theorem CompP.listE (Sσ : St -> Prop) (F : Nat -> V -> Hp -> Prop) (hS : SqL K H a xs) (h0 : Sσ (Im σ cap)) (hz : xs.length <= sizeLine)
  (hs : ∀ D i x, xs[i]? = some x -> ∀ (σ : St) (H5 : Hp) (R : St -> VK), Sσ σ -> Same H H5 -> H D = Option.none -> (∃ acc, H5 D = some (.lst acc)) -> (∀ v σ4 H6, Sσ σ4 -> Same H5 H6 -> (∀ H', But D H6 H' -> F i v H') -> R σ4 v H6) ->
   g x σ H5 fun σ4 H4 => te σ4 H4 (R σ4))
  (k : ∀ D H' acc, H D = Option.none -> Same H H' -> H' D = some (.lst acc) -> acc.length = xs.length -> (∀ i v, acc[i]? = some v -> F i v H') -> Q (.ref D) H') : CompP cap (Itl K a) g QD te σ H Q := by
 intro D hD
 refine ⟨fun i m acc σ H2 => m = xs.length - i /\ i <= xs.length /\ Sσ σ /\ Same H H2 /\ acc.length = i /\ ∀ j v, acc[j]? = some v -> ∀ H', But D H2 H' -> F j v H', ⟨xs.length, rfl, Nat.zero_le _, h0, Same.new hD, rfl, fun j v e => by simp at e⟩, ?_⟩
 rintro i m acc σ1 H2 ⟨rfl, hi, hσ, sm, hal, hF⟩ hA
 by_cases hlt : i < xs.length
 ·have hx : xs[i]? = some xs[i] := by simp [hlt]
  refine .inr ⟨⟨xs, xs[i], sm.seq hS, hx⟩, fun y H3 hy => ?_⟩
  obtain rfl : H3 = H2 := hy.1
  obtain rfl : y = xs[i] := Option.some.inj ((hy.2 xs (sm.seq hS)).symm.trans hx)
  simp only [ap_noIf, if_true]
  refine hs D i _ hx σ1 H3 _ hσ sm hD ⟨_, hA⟩ fun v σ4 H6 hσ4 s6 hF6 => ?_
  have hA6 := s6 _ _ hA
  refine ⟨acc, hA6, by omega, xs.length - (i + 1), by omega, rfl, hlt, hσ4, (sm.trans s6).upd hD, by rw [List.length_append, hal]; rfl, fun j u hj H' hb => ?_⟩
  have hb6 : But D H6 H' := fun b o hne e => hb b o hne ((Aj hne).trans e)
  by_cases hjl : j < acc.length
  ·rw [List.getElem?_append_left hjl] at hj
   exact hF j u hj H' fun b o hne e => hb6 b o hne (s6 _ _ e)
  ·rw [List.getElem?_append_right (by omega)] at hj
   have hj0 : j - acc.length = 0 := by
    have := (List.getElem?_eq_some_iff.mp hj).1
    simp at this
    omega
   rw [hj0] at hj
   cases hj
   obtain rfl : j = i := by omega
   exact hF6 H' hb6
 ·obtain rfl : i = xs.length := by omega
  exact .inl ⟨⟨xs, sm.seq hS, Nat.le_refl _⟩, k D H2 acc hD sm hA hal fun j v e => hF j v e H2 fun b o _ e => e⟩
end
end L2
namespace L2
open PySem PySem.Spec PyProof.Rows
structure Mk0 (K : Fg_) (C : Addr) : Prop where
 makes : PySem.W.makesIn K C = true
 init : PySem.W.findIn K (.ref C) "__init__" = some (some (.builtin "object.__init__"))
 kp : PySem.W.keepIn K (.ref C) = true
end L2
namespace PySem
open PySem.Spec PyProof.Rows
end PySem
namespace L2
open PySem PySem.Spec PyProof.Rows
section
variable {X : Cx}
theorem Lh {α β : Type} {Pr : α -> β -> Prop} : ∀ {ys : List α} {ps : List β} {i : Nat} {p : β}, Paired Pr ys ps -> ps[i]? = some p -> ∃ y, ys[i]? = some y /\ Pr y p
 | _, _, _, _, .nil, h => by simp at h
 | _, _, 0, _, .cons r _, h => by cases h; exact ⟨_, rfl, r⟩
 | _, _, i + 1, _, .cons _ t, h => Lh (i := i) t h
end
end L2
namespace L2
open PySem PySem.Spec PyProof.Rows
def Rj (v a : Addr) : HO := .ext fun h => h.IsValuesView v a
def Itv (a : Addr) (o : Obj) (kvs : List (Key × V)) : It := ⟨fun i H => H a = some (.frz o (.dK kvs)) /\ i < kvs.length, fun i H x H' => H' = H /\ (kvs.map (·.2))[i]? = some x, fun i H => H a = some (.frz o (.dK kvs)) /\ kvs.length <= i⟩
theorem ZL : entryFor table "dict_valueiterator.__iter__" = some Builtin.«dict_keyiterator.__iter__» := entryFor_alias (id' := "dict_keyiterator.__iter__") (by kernel_rfl) (by decide +kernel) (by decide +kernel) (by kernel_rfl)
theorem Xx {P : Program} {w : World} {A : Around} {E : Value -> Shared -> Prop} {s : Shared} {it d : Addr} {i n ep : Nat} {Q : Value -> Shared -> Prop} (hit : s.heap.IsValIter it d i n ep) (h : Q (.ref it) s) : wpAny (model P w) A (pyIter (.ref it)) Q E s := by
 refine wpAny_pyIter_slot hit.typeIs F.slot_dict_valueiterator_iter (wpAny_call_entry F.slot_dict_valueiterator_iter hit.typeIs ZL ?_ (F.args_dict_valueiterator_iter_1 _))
 show wpAny _ _ (ret (.ref it)) _ _ s; exact wpAny_pure ⟨_, rfl, "dict_valueiterator", _, hit.typeIs, F.slot_dict_valueiterator_next.lookup, h⟩
theorem Vo {X : Cx} {pins : List (Addr × Obj)} {σ : St} {H : Hp} {s : Shared} {a : Addr} {o : Obj} {kvs : List (Key × V)} {es : Array DictEntry} {ep : Nat} (I : Inv X pins σ H s) (e : H a = some (.frz o (.dK kvs))) (hdat : o.data = .dict es ep) :
  ∃ vs, KV kvs vs /\ s.heap.DictAt (BR X.prog X.w) a vs ep := by
 obtain ⟨h0, _, _, vs, rel, o', es', ep', q1, q2, q3, q4⟩ := (show ObjOk X.prog X.w H s.heap a (.frz o (.dK kvs)) from I.hok a _ e)
 rw [h0] at q1
 cases q1
 rw [hdat] at q3
 cases q3
 exact ⟨vs, rel, o, es, h0, q2, hdat, q4⟩
theorem Yp {P : Program} {w : World} {K : Fg_} {tg : Expr} {a it : Addr} {o : Obj} {kvs : List (Key × V)} {es : Array DictEntry} {ep : Nat} (hdat : o.data = .dict es ep) : Turn P w K tg (Itv a o kvs) [it] it (fun i h => h.IsValIter it a i kvs.length ep) where
 mem := by simp
 obj := fun i h st b hb => by
  obtain rfl : b = it := by simpa using hb
  obtain ⟨oi, e, c, dd⟩ := st
  exact ⟨oi, e, fun v z => by rw [dd] at z; cases z⟩
 keep := fun i h h' st k => let ⟨oi, e, r⟩ := st; ⟨oi, k it (by simp) oi e, r⟩
 item := by
  intro X hP hw hK hc i pins s σ H E I hf st hg
  subst hP hw hK
  obtain ⟨hg1, hg2⟩ := hg
  obtain ⟨vs, rel, hat⟩ := Vo I hg1 hdat
  have hvl : kvs.length = vs.length := Paired.length rel
  obtain ⟨f0, f1, f2, f3, f4, f5⟩ := hf it (by simp)
  have hx : vs[i]? = some (vs[i]'(by omega)) := by simp
  obtain ⟨p, hp, e1, e2⟩ := Lh rel hx
  rw [hvl] at st
  refine wpAny_pyNext_values_item st hat (k := (vs[i]'(by omega)).1) (v := (vs[i]'(by omega)).2) hx fun h' st' sb => ?_
  have I1 : Inv X pins σ H { s with heap := h' } := I.turned (t' := s.toks) (fun b o hb e => (sb.2 b hb).trans e) f0 f1 f3 f4 f5
  obtain ⟨oi, e, c, dd⟩ := id st'
  rw [<- hvl] at st'
  exact ⟨_, rfl, WL (s := { s with heap := h' }) e c dd (by decide) ⟨p.2, H, I1, e2, ⟨rfl, by rw [List.getElem?_map, hp]; rfl⟩, st', fun b hb => (hf b hb).1⟩⟩
 done := by
  intro X hP hw hK hc i pins s σ H E I hf st hg
  subst hP hw hK
  obtain ⟨hg1, hg2⟩ := hg
  obtain ⟨vs, rel, hat⟩ := Vo I hg1 hdat
  have hvl : kvs.length = vs.length := Paired.length rel
  obtain ⟨f0, f1, f2, f3, f4, f5⟩ := hf it (by simp)
  rw [hvl] at st
  exact wpAny_pyNext_values_end (I.ok.hd hc) st hat (by simp; omega) fun h' eb => ⟨rfl, I.turned (t' := s.toks) (fun b o hb e => eb b o hb e) f0 f1 f3 f4 f5⟩
 self := fun _ _ _ _ _ st h => Xx st h
section
variable {X : Cx} {tg : Expr}
def acP (tl : TE) : TI := fun σ H R => tl σ H fun x H1 => ∃ v a kvs, x = .ref v /\ H1 v = some (Rj v a) /\ H1 a = some (.dK kvs) /\ ∀ o, R (Itv a o kvs) (upd H1 a (.frz o (.dK kvs)))
theorem acg {l : Expr} {tl : TE} (hl : PE X l tl) : PI X tg l (acP tl) := by
 intro pins s σ H R I h
 refine thn (hl pins s σ H _ I h) fun u s1 ⟨x, H1, I1, r1, v, a, kvs, ex, hv, ha, q⟩ => ?_
 subst ex
 cases r1
 obtain ⟨hview, _, _⟩ := (show ObjOk X.prog X.w H1 s1.heap v (Rj v a) from I1.hok v _ hv)
 obtain ⟨z, hsys, vs, rel, o, es, ep, q1, q2, q3, q4⟩ := (show ObjOk X.prog X.w H1 s1.heap a (.dK kvs) from I1.hok a _ ha)
 have hvl : kvs.length = vs.length := Paired.length rel
 have hat : s1.heap.DictAt (BR X.prog X.w) a vs ep := ⟨o, es, q1, q2, q3, q4⟩
 refine wpAny_pyIter_values hview hat ?_
 have I2 : Inv X pins σ (upd H1 a (.frz o (.dK kvs))) s1 := I1.write (t' := s1.toks) (h' := s1.heap) (by rw [ha]; exact True.intro) (.inl rfl) (fun b u _ e => e) ⟨o, q1⟩ (show ObjOk X.prog X.w _ s1.heap a (.frz o (.dK kvs)) from ⟨q1, z, hsys, vs, rel, o, es, ep, q1, q2, q3, q4⟩)
 refine ⟨s1.heap.objs.size, [s1.heap.objs.size], _, _, _, rfl, I2.kept (t' := s1.toks) fun b o e => Heap.get?_push_of_some _ e, Yp q3, ⟨_, Heap.get?_push_size _ rfl, rfl, by rw [hvl]; rfl⟩, fun b hb => ?_, q o⟩
 obtain rfl : b = s1.heap.objs.size := by simpa using hb
 exact I2.fpOk (Nat.le_refl _) (I2.hok.fresh (Nat.le_refl _))
def abb : V -> List V -> Hp -> VK -> Prop := fun x vs H Q => ∃ a kvs, x = .ref a /\ vs = [] /\ H a = some (.dK kvs) /\ ∀ v, H v = none -> Q (.ref v) (upd H v (Rj v a))
theorem Xm : MtR X "dict.values" abb := by
 intro pins s σ H x vs v us Q I rx rv h
 obtain ⟨a, kvs, rfl, rfl, ha, q⟩ := h
 cases rx
 have hus := rv.zero
 subst hus
 obtain ⟨z, hsys, ws, rel, dd⟩ := acf I.hok ha
 refine call_meetsIn PySem.F.slot_dict_values dd.typeIs PySem.F.entry_dict_values (PySem.F.args_dict_values_1 _) (meets_dict_values (BR X.prog X.w) a hsys) ⟨⟨ws, dd⟩, ?_⟩
 have hg : (s.heap.push { cls := .type "dict_values", data := .fields #[.ref a] }).IsValuesView s.heap.objs.size a := ⟨_, Heap.get?_push_size _ rfl, rfl, rfl⟩
 exact ⟨.ref s.heap.objs.size, _, I.laid (a := s.heap.objs.size) (o := Rj s.heap.objs.size a) (t' := s.toks) (fun b o e => Heap.get?_push_of_some _ e) (Nat.le_refl _) ⟨hg, ⟨_, Heap.get?_push_size _ rfl⟩, fun h1 h2 ⟨ov, e1, e2⟩ k => ⟨ov, k ov e1, e2⟩⟩, rfl, q _ (I.hok.fresh (Nat.le_refl _))⟩
end
end L2
namespace L2
open PySem PySem.Spec PyProof.Rows
section
variable {X : Cx} {K : Fg_} {σ : St} {H : Hp} {Q : VK} {R : It -> Hp -> Prop} {tl td ty : TE} {g : TG} {tt : TT} {te : TE} {cap : List (Option Nat)} {a : Addr} {o : Obj} {kvs : List (Key × V)}
theorem ap_iVals : acP tl σ H R = tl σ H fun x H1 => ∃ v a kvs, x = .ref v /\ H1 v = some (Rj v a) /\ H1 a = some (.dK kvs) /\ ∀ o, R (Itv a o kvs) (upd H1 a (.frz o (.dK kvs))) := rfl
theorem ap_rVals : abb (.ref a) [] H Q = ∃ kvs, H a = some (.dK kvs) /\ ∀ v, H v = none -> Q (.ref v) (upd H v (Rj v a)) := by simp [abb]
end
end L2
namespace L2
open PySem PySem.W PySem.Spec PyProof.Rows
section
variable {X : Cx} {pins : List (Addr × Obj)} {σ : St} {H : Hp} {s : Shared} {h' : Heap}
theorem Inv.adopt {t' c : Nat} {D : Addr} {zs : List V} {its : List Value} (I : Inv X pins σ H s) (hf : Wd X pins H D) (k : ∀ b o, b ≠ D -> s.heap.get? b = some o -> h'.get? b = some o)
  (hD : h'.get? D = some { cls := .type "list", data := .seq its.toArray c }) (hv : Vals zs its) (hz : zs.length <= sizeLine) : Inv X pins σ (upd H D (.lst zs)) { s with heap := h', toks := t' } := by
 obtain ⟨hn, hL, hfs, h1, h2, h3⟩ := hf
 have nit : ∀ b u, H b = some u -> b ≠ D := fun b u e z => by rw [z, hn] at e; cases e
 refine I.step (g' := s.gens) (d' := s.drawn) (ch := [D]) (fun b hb => ?_) (fun b o _ _ hc e _ => k b o (fun z => hc (by simp [z])) e) (fun b o _ _ hc e _ => ⟨o.slots, k b o (fun z => hc (by simp [z])) e⟩) (fun b o hc e n => (Aj fun z => hc (by simp [z])).trans n)
  (fun b o hc e => ⟨o, k b o (fun z => hc (by simp [z])) e⟩) (fun b xs e => (Aj (nit b _ e)).trans e) (fun b o u e => (Aj (nit b _ e)).trans e) (fun b ps e => ⟨#[], by rw [Aj (nit b _ e), e]; simp⟩) (fun m hm => ?_) (fun b u e => ?_) I.bare
 ·have e : b = D := by simpa using hb
  subst e
  exact ⟨h1, hL, h2, h3⟩
 ·obtain ⟨o, es, ep, ho, r⟩ := hm
  exact ⟨o, es, ep, k _ o (Ne.symm hL) ho, r⟩
 ·by_cases z : b = D
  ·subst z
   rw [Ae] at e
   cases e
   exact ⟨hz, its, c, hv, hD⟩
  ·rw [Aj z] at e
   refine (I.hok b u e).stay (fun c v hc q => k c v ?_ q) (fun c q => ?_) fun c v q => ?_
   ·rcases hc with y | y
    ·rw [y]; exact nit b u e
    ·exact nit c _ y
   ·exact (Aj (nit c _ q)).trans q
   ·exact (Aj (nit c _ q)).trans q
end
section
variable {X : Cx} {pins : List (Addr × Obj)} {σ : St} {H : Hp} {s : Shared} {k : Nat} {f : Addr} {fd : FuncData} {ps : List Str} {sp : Sp}
theorem abU {Q : VK} {v : V} {u : Value} (F : FnOk X.prog X.w X.K X.mg X.base CX0 k f fd ps sp) (hr : Room (k + 2) X.A) (hb : Binds X.K fd ps []) (I : Inv X pins σ H s) (r : RelV v u) (h : sp [v] H Q E0) :
  wpAny (model X.prog X.w) X.A.in1.in1 (call (.ref f) [u]) (EP X pins σ Q) (fun _ _ => False) s := by
 have r2 : Vals [v] [u] := .cons r .nil
 have hl : ([u] ++ ([] : List Value)).length = ps.length := by
  have := F.len _ _ _ _ h
  rw [<- this]; rfl
 refine wpAny_call (codeAny_mono (F.run X.A.in1.in1 X.stack s H ⟨[u], []⟩ [u] [v] Q E0 hr.in1.in1 I.env0.in1.in1 (hb s [u] I.kIn hl) r2 h) fun r s' hq => ?_)
 cases r with
 | error e => exact hq.elim
 | ok fl =>
  cases fl with
  | ret u => exact I.after hq
  | next => exact False.elim hq
  | brk => exact False.elim hq
  | cont => exact False.elim hq
theorem Paired.imp {α β : Type} {P P' : α -> β -> Prop} (h : ∀ a b, P a b -> P' a b) : ∀ {xs : List α} {ys : List β}, Paired P xs ys -> Paired P' xs ys
 | _, _, .nil => .nil
 | _, _, .cons a t => .cons (h _ _ a) (Paired.imp h t)
def KeyAt (kf : V -> List Int) (H : Hp) (y v : V) : Prop := ∃ t, v = .ref t /\ H t = some (.tup ((kf y).map V.int))
theorem KeyAt.same {kf : V -> List Int} {H H' : Hp} {y v : V} (h : KeyAt kf H y v) (e : ∀ t xs, H t = some (.tup xs) -> H' t = some (.tup xs)) : KeyAt kf H' y v := let ⟨t, a, b⟩ := h; ⟨t, a, e _ _ b⟩
def abJ (sp : Sp) (kf : V -> List Int) (H : Hp) (y : V) : Prop := ∀ H1, Same H H1 -> ∀ R : VK, (∀ t H2, Same H1 H2 -> H2 t = some (.tup ((kf y).map V.int)) -> R (.ref t) H2) -> sp [y] H1 R E0
theorem Wj {E : Value -> Shared -> Prop} {kf : V -> List Int} {H0 : Hp} {kS : Addr} {Q' : Shared -> Prop} {body : Value -> PUnit -> Sem (ForInStep PUnit)} (F : FnOk X.prog X.w X.K X.mg X.base CX0 k f fd ps sp) (hr : Room (k + 2) X.A) (hb : Binds X.K fd ps [])
  (hbody : ∀ x s (D' : Shared -> Prop), wpAny (model X.prog X.w) X.A.in1.in1 (call (.ref f) [x]) (fun k s' => ∃ its n, s'.heap.get? kS = some { cls := .type "list", data := .seq its n } /\ its.size < 64 /\ D' { s' with heap := s'.heap.update kS (Obj.mapSeq (·.push k)) }) (fun _ _ => False) s ->
   wpAny (model X.prog X.w) X.A.in1.in1 (body x ⟨⟩) (fun r s' => r = .yield ⟨⟩ /\ D' s') E s) (hS0 : H0 kS = none) :
  ∀ (ys : List V) (us : List Value) (ys0 kvs : List V) (H1 : Hp) (s1 : Shared), Vals ys us -> ys0.length + ys.length < 64 -> Inv X pins σ H1 s1 -> H1 kS = some (.lst kvs) -> Same H0 H1 -> (∀ y ∈ ys, abJ sp kf H0 y) -> Paired (KeyAt kf H1) ys0 kvs ->
   (∀ kvs2 H2 s2, Inv X pins σ H2 s2 -> H2 kS = some (.lst kvs2) -> Same H0 H2 -> Paired (KeyAt kf H2) (ys0 ++ ys) kvs2 -> Q' s2) -> wpAny (model X.prog X.w) X.A.in1.in1 (forIn us PUnit.unit body) (fun _ s2 => Q' s2) E s1
 | _, _, ys0, kvs, H1, s1, .nil, hl, I, hH, sm, hk, hp, fin => by
  rw [List.forIn_nil]
  rw [List.append_nil] at fin
  exact wpAny_pure (fin kvs H1 s1 I hH sm hp)
 | y :: ys, u :: us, ys0, kvs, H1, s1, .cons ru rus, hl, I, hH, sm, hk, hp, fin => by
  rw [List.forIn_cons]
  rw [List.length_cons] at hl
  have hkl : ys0.length = kvs.length := Paired.length hp
  have h1 := abU F hr hb I ru (hk y List.mem_cons_self H1 sm (fun v H2 => ∃ t, v = .ref t /\ Same H1 H2 /\ H2 t = some (.tup ((kf y).map V.int))) fun t H2 s2 ht => ⟨t, rfl, s2, ht⟩)
  refine wpAny_bind (wpAny_mono (hbody u s1 (fun s2 => ∃ kvs' H3, Inv X pins σ H3 s2 /\ H3 kS = some (.lst kvs') /\ Same H0 H3 /\ Paired (KeyAt kf H3) (ys0 ++ [y]) kvs') (wpAny_mono h1 (fun kv s2 hq => ?_) fun _ _ x => x)) (fun r s2 hq => ?_) fun _ _ x => x)
  ·obtain ⟨v, H2, I2, rv, t, rfl, s12, ht⟩ := hq
   have hH2 := s12 _ _ hH
   obtain ⟨z, its, n, r, hl2, e⟩ := I2.lstM hH2
   refine ⟨its.toArray, n, e, by rw [List.size_toArray]; omega, kvs ++ [.ref t], _, I2.lset (t' := s2.toks) (its' := its ++ [kv]) hH2 e (by simp) (r.append (.cons rv .nil)) (by rw [List.length_append, List.length_singleton, sizeLine_eq]; omega), Ae, ?_, ?_⟩
   ·exact (sm.trans s12).upd hS0
   ·have up : ∀ b xs, H2 b = some (.tup xs) -> (upd H2 kS (.lst (kvs ++ [V.ref t]))) b = some (.tup xs) := fun b xs q => (Aj fun z => by rw [z, hH2] at q; cases q).trans q
    exact Paired.snoc (Paired.imp (fun a b q => q.same fun t xs h => up _ _ (s12 _ _ h)) hp) ⟨t, rfl, up _ _ ht⟩
  ·obtain ⟨rfl, kvs', H3, I3, hH3, sm3, hp3⟩ := hq
   refine Wj F hr hb hbody hS0 ys us (ys0 ++ [y]) kvs' H3 s2 rus (by rw [List.length_append, List.length_singleton]; omega) I3 hH3 sm3 (fun z hz => hk z (List.mem_cons_of_mem _ hz)) hp3 fun kvs2 H4 s4 I4 hH4 sm4 hp4 => fin kvs2 H4 s4 I4 hH4 sm4 ?_
   rwa [List.append_assoc] at hp4
end
section
variable {P : Program} {w : World} {A : Around} {E : Value -> Shared -> Prop} {s : Shared}
theorem Ym {G : Array Nat -> Prop} {ks us : List Value} {a kS : Addr} {e1 nk : Nat} {R : PySem.Fin -> Shared -> Prop} (fs : Nat -> List Int) (hkl : ks.length = us.length) (hlen : us.length < 64) (hk : s.heap.get? kS = some (seqObj "list" ks.toArray nk)) (ho : s.heap.get? a = some (seqObj "list" #[] e1)) (hak : a ≠ kS)
  (hT : ∀ i, i < us.length -> fs i ≠ [] /\ ∃ b o xs m, ks.getD i Value.none = .ref b /\ s.heap.get? b = some o /\ o.cls = .type "tuple" /\ o.data = .seq xs m /\ Vals ((fs i).map V.int) xs.toList)
  (hG : 0 < us.length -> Kok (fun i j => Js (fs i) (fs j) (decide ((fs i).length < (fs j).length))) us.length G (kas_sort us.length)) (hG0 : us.length < 2 -> G (List.range us.length).toArray) (hGP : ∀ p, G p -> Prm us.length p)
  (fin : ∀ p : Array Nat, G p -> R (.done (.ret .none)) { s with heap := (s.heap.update kS (Obj.mapSeq fun _ => #[])).update a (Obj.mapSeq fun _ => List.toArray (p.toList.map fun i => us.getD i Value.none)) }) :
  wpAny (model P w) A (ksk_end a false us.toArray e1 (.ref kS) ks.toArray) R E s := by
 have hus : us.toArray.size = us.length := by simp
 have tail : ∀ st' (p : Array Nat), arrOf st' = p.map (kas_item (ks.toArray.zip us.toArray)) -> failedOf st' = none -> G p -> wpAny (model P w) A (ksk_tail a false e1 (.ref kS) st') R E s := fun st' p har hf hp => by
  have hpl : (p.toList.map fun i => us.getD i Value.none).length = us.length := by rw [List.length_map, (hGP p hp).length_eq]; simp
  have ho2 : (s.heap.update kS (Obj.mapSeq fun _ => #[])).get? a = some (seqObj "list" #[] e1) := (Heap.get?_update_ne _ _ _ _ hak).trans ho
  unfold ksk_tail
  try dsimp only
  rw [kat_snds hkl har]
  refine wpAny_bind (listUpdate_at hk rfl ?_ (by rw [List.size_toArray, sizeLine_eq]; omega) (Nat.zero_le _))
  refine wpAny_bind (wpAny_letGo ?_)
  refine wpAny_bind (seqEpoch_at ho2 rfl ?_)
  refine wpAny_bind (listUpdate_at ho2 rfl ?_ (Nat.zero_le _) (by simp only [Bool.false_eq_true, if_false]; rw [List.size_toArray, hpl, sizeLine_eq]; omega))
  rw [hf]
  simp only [bne_self_eq_false, Bool.false_eq_true, if_false]
  exact wpAny_pure (fin p hp)
 unfold ksk_end
 try dsimp only
 rw [if_neg (by decide)]
 by_cases h2 : us.toArray.size < 2
 ·rw [if_pos h2, if_pos h2]
  refine wpAny_bind (wpAny_pure ?_); rw [StateT.run_pure]; refine wpAny_bind (wpAny_pure ?_); dsimp only
  refine tail _ (List.range us.length).toArray ?_ rfl (hG0 (by rw [<- hus]; exact h2))
  have e := kas_range (ks.toArray.zip us.toArray)
  rw [show (ks.toArray.zip us.toArray).size = us.length by simp [hkl]] at e
  exact e.symm
 ·rw [if_neg h2, if_neg h2]
  have hn : 0 < us.length := by omega
  obtain ⟨ff, k1, k2, k3⟩ := Uw (h := s.heap) (us := ks) (by
   intro v hv
   obtain ⟨i, hi, e⟩ := List.getElem_of_mem hv
   obtain ⟨g0, b, o, xs, m, g1, g3, g4, g5, g6⟩ := hT i (by omega)
   have e2 : ks.getD i Value.none = v := by rw [<- e]; simp [hi]
   cases hq : fs i with
   | nil => exact (g0 hq).elim
   | cons z zs =>
    rw [hq, List.map_cons] at g6
    cases hx : xs.toList with
    | nil => rw [hx] at g6; cases g6
    | cons u ur =>
     rw [hx] at g6
     cases g6 with
     | cons r1 r2 =>
     obtain ⟨t, rfl⟩ := r1
     refine ⟨b, o, xs, m, z, t, e2.symm.trans g1, g3, g4, g5, ?_⟩
     rw [<- Array.getElem?_toList, hx]; rfl)
  refine wpAny_bind (kat_kind k1 (by omega) (fun v hv => ?_) (T := .type "int") rfl ?_)
  ·obtain ⟨i, t, rfl⟩ := k3 v hv
   exact Looks.of_pure rfl
  refine wpAny_bind (wpAny_mono (kat_run (ks := ks) (vs := us) (Q := fun st' s' => ∃ p : Array Nat, arrOf st' = p.map (kas_item (ks.toArray.zip us.toArray)) /\ failedOf st' = none /\ G p /\ s' = s)
   (G := fun p s' => G p /\ s' = s) hkl (by omega) hlen (fun p st' s' a1 a2 a3 a4 => ⟨p, a2, a3, a4.1, a4.2⟩)
   (Kok.wp (lt := fun i j => Js (fs i) (fs j) (decide ((fs i).length < (fs j).length))) (fun i j C hi hj hC => ?_) (hG hn) fun p hp => ⟨hp, rfl⟩)) ?_ fun _ _ e => e)
  ·obtain ⟨_, b, o, xs, m, g1, g3, g4, g5, g6⟩ := hT i hi
   obtain ⟨_, b', o', xs', m', g1', g3', g4', g5', g6'⟩ := hT j hj
   show wpAny _ _ (keyLt' _ (ks.getD i Value.none) (ks.getD j Value.none)) _ _ _
   rw [g1, g1']
   refine kat_lt g3 g5 g3' g5' (Wl g6 g6' 0 ?_)
   have z1 : (fs i).length = xs.size := by simpa using g6.length
   have z2 : (fs j).length = xs'.size := by simpa using g6'.length
   rw [<- z1, <- z2]
   exact hC
  ·rintro ⟨⟨⟩, st'⟩ s' ⟨p, har, hf, hp, rfl⟩
   dsimp only
   exact tail st' p har hf hp
end
theorem abO (a v : Value) : argsOk "list.sort" ⟨[a], [(Str.ofString "key", v)]⟩ := by unfold argsOk; kernel_rfl
section
variable {X : Cx} {pins : List (Addr × Obj)} {σ : St} {H : Hp} {s : Shared} {k : Nat} {f : Addr} {fd : FuncData} {ps : List Str} {sp : Sp}
def RW (K : Fg_) (sp : Sp) : V -> Hp -> VK -> Prop := fun x H Q => ∃ (a : Addr) (ys : List V) (kf : V -> List Int), x = .ref a /\ SqL K H a ys /\ ys.length < 64 /\ (∀ y ∈ ys, kf y ≠ [] /\ abJ sp kf H y) /\
 ∀ p zs H', Same H H' -> H p = none -> H' p = some (.lst zs) -> zs.Perm ys -> (∀ m, (∀ y ∈ ys, (kf y).length = m) -> (ys.map kf).Nodup -> zs.Pairwise fun y z => Js (kf y) (kf z) false = true) -> Q (.ref p) H'
theorem Py {α β : Type} {Pr : α -> β -> Prop} {d1 : α} {d2 : β} : ∀ {xs : List α} {ys : List β} {i : Nat}, Paired Pr xs ys -> i < xs.length -> Pr (xs.getD i d1) (ys.getD i d2)
 | _, _, _, .nil, h => by simp at h
 | _, _, 0, .cons r _, _ => r
 | _, _, i + 1, .cons _ t, h => by
  simp only [List.getD_cons_succ]
  exact Py t (by simpa using h)
theorem Ws {Q : VK} {x : V} {u : Value} (F : FnOk X.prog X.w X.K X.mg X.base CX0 k f fd ps sp) (hr : Room (k + 2) X.A) (hb : Binds X.K fd ps []) (I : Inv X pins σ H s) (rx : RelV x u) (h : RW X.K sp x H Q) :
  wpAny (model X.prog X.w) X.A (call (.builtin "sorted") [u] [(Str.ofString "key", .ref f)]) (EP X pins σ Q) X.xe s := by
 obtain ⟨a, ys, kf, rfl, hq, hlen, hK, q⟩ := h
 cases rx
 obtain ⟨its, rv, pl, hz⟩ := I.list hq
 have hil : ys.length = its.length := rv.length
 have hl := pl.isList
 refine call_function_entry_kw kind_sorted plain_sorted entry_sorted (ksk_s1 _ _) ?_
 unfold Builtin.«sorted»; refine wpAny_bind (m := checkCount "sorted" 1 1 _) (wpAny_pure ?_); refine wpAny_bind (collect_list hl ?_ (by omega)); refine wpAny_bind (wpAny_newList ?_ (by omega))
 have hsz : ((s.heap.push (seqObj "list" #[] 0)).update s.heap.objs.size (Obj.mapSeq (· ++ its.toArray))).objs.size = s.heap.objs.size + 1 := by rw [Heap.size_update, size_push']
 have hob : (((s.heap.push (seqObj "list" #[] 0)).update s.heap.objs.size (Obj.mapSeq (· ++ its.toArray))).push (seqObj "list" its.toArray 0)).get? (s.heap.objs.size + 1) = some (seqObj "list" its.toArray 0) := by rw [<- hsz]; exact Heap.get?_push_size _ rfl
 have keep : ∀ b o, s.heap.get? b = some o -> (((s.heap.push (seqObj "list" #[] 0)).update s.heap.objs.size (Obj.mapSeq (· ++ its.toArray))).push (seqObj "list" its.toArray 0)).get? b = some o := fun b o e =>
  Heap.get?_push_of_some _ ((Heap.get?_update_ne _ _ _ _ (Nat.ne_of_lt (Heap.lt_size e))).trans (Heap.get?_push_of_some _ e))
 have hsz2 : (((s.heap.push (seqObj "list" #[] 0)).update s.heap.objs.size (Obj.mapSeq (· ++ its.toArray))).push (seqObj "list" its.toArray 0)).objs.size = s.heap.objs.size + 2 := by rw [size_push', hsz]
 show wpAny _ _ _ _ _ { s with heap := ((s.heap.push (seqObj "list" #[] 0)).update s.heap.objs.size (Obj.mapSeq (· ++ its.toArray))).push (seqObj "list" its.toArray 0) }
 rw [hsz]
 generalize ((s.heap.push (seqObj "list" #[] 0)).update s.heap.objs.size (Obj.mapSeq (· ++ its.toArray))).push (seqObj "list" its.toArray 0) = h2 at hob keep hsz2
 obtain ⟨D, hDe⟩ : ∃ D : Nat, s.heap.objs.size + 1 = D := ⟨_, rfl⟩
 rw [hDe] at hob ⊢
 refine wpAny_bind (wpAny_holding (wpAny_call_entry_kw slot_list_sort ⟨_, hob, rfl⟩ entry_list_sort ?body (abO _ _)))
 case body =>
  show wpAny (model X.prog X.w) X.A.in1.in1 (Builtin.«list.sort» ⟨[.ref D], [(Str.ofString "key", .ref f)]⟩) _ _ _
  rw [ksk_t1]
  unfold ksk_tree
  refine wpAny_bind (listItems_at hob rfl ?_)
  refine wpAny_bind (listUpdate_at hob rfl ?_ (by rw [List.size_toArray, sizeLine_eq]; omega) (Nat.zero_le _))
  obtain ⟨e1, hob1⟩ : ∃ e1, (h2.update D (Obj.mapSeq fun _ => #[])).get? D = some (seqObj "list" #[] e1) := ⟨_, get?_update_seq hob (fun _ => #[])⟩
  refine wpAny_bind (seqEpoch_at hob1 rfl ?_); refine wpAny_bind (wpAny_newTuple ?_ (by show its.length <= _; rw [sizeLine_eq]; omega)); refine wpAny_bind (wpAny_newList ?_ (Nat.zero_le _)); refine wpAny_holding ?_
  have hkS : ((h2.update D (Obj.mapSeq fun _ => #[])).push (seqObj "tuple" its.toArray 0)).objs.size = s.heap.objs.size + 3 := by rw [size_push', Heap.size_update, hsz2]
  have keep4 : ∀ b o, s.heap.get? b = some o -> (((h2.update D (Obj.mapSeq fun _ => #[])).push (seqObj "tuple" its.toArray 0)).push (seqObj "list" #[] 0)).get? b = some o := fun b o e => by
   have h9 : b < s.heap.objs.size := Heap.lt_size e
   have hb : b ≠ D := Nat.ne_of_lt (Nat.lt_trans h9 (by omega))
   exact Heap.get?_push_of_some _ (Heap.get?_push_of_some _ ((Heap.get?_update_ne _ _ _ _ hb).trans (keep b o e)))
  have hD4 : (((h2.update D (Obj.mapSeq fun _ => #[])).push (seqObj "tuple" its.toArray 0)).push (seqObj "list" #[] 0)).get? D = some (seqObj "list" #[] e1) := Heap.get?_push_of_some _ (Heap.get?_push_of_some _ hob1)
  have hk4 : (((h2.update D (Obj.mapSeq fun _ => #[])).push (seqObj "tuple" its.toArray 0)).push (seqObj "list" #[] 0)).get? (s.heap.objs.size + 3) = some (seqObj "list" #[] 0) := by rw [<- hkS]; exact Heap.get?_push_size _ rfl
  show wpAny _ _ _ _ _ { s with heap := ((h2.update D (Obj.mapSeq fun _ => #[])).push (seqObj "tuple" its.toArray 0)).push (seqObj "list" #[] 0) }
  dsimp only
  rw [hkS]
  generalize ((h2.update D (Obj.mapSeq fun _ => #[])).push (seqObj "tuple" its.toArray 0)).push (seqObj "list" #[] 0) = h4 at keep4 hD4 hk4
  obtain ⟨kS, hkSe⟩ : ∃ kS : Nat, s.heap.objs.size + 3 = kS := ⟨_, rfl⟩
  rw [hkSe] at hk4 ⊢
  have hDk : D ≠ kS := Nat.ne_of_lt (by omega)
  have hDn : H D = none := I.hok.fresh (by omega)
  have hkn : H kS = none := I.hok.fresh (by omega)
  have I4 : Inv X pins σ (upd H kS (.lst [])) { s with heap := h4, toks := s.toks } := I.laid (t' := s.toks) keep4 (by omega) ⟨Nat.zero_le _, [], 0, .nil, hk4⟩
  have hFp : Wd X pins (upd H kS (.lst [])) D := I.fpOk (by omega) ((Aj hDk).trans hDn)
  have I5 : Inv X (pins ++ [(D, seqObj "list" #[] e1)]) σ (upd H kS (.lst [])) { s with heap := h4, toks := s.toks } := I4.pins_of fun p hp => by
   rcases List.mem_append.mp hp with hp | hp
   ·exact I4.pin p (List.mem_append_right _ hp)
   ·obtain rfl := List.mem_singleton.mp hp
    exact ⟨hD4, hFp.1, hFp.2.1, hFp.2.2.1, fun v z => by cases z⟩
  unfold ksk_rest
  refine wpAny_bind (wpAny_rule ?_)
  first | rw [List.forIn_toArray] | rw [<- Array.forIn_toList]
  refine wpAny_bind (Wj (kf := kf) (H0 := H) (kS := kS) F hr hb (fun x s' D' hx => ?_) hkn ys its [] [] _ _ rv (by rw [List.length_nil]; omega) I5 Ae (Same.new hkn) (fun y hy => (hK y hy).2) .nil fun kvs H2 s2 I2 hH2 sm2 hp2 => ?_)
  ·refine wpAny_bind (wpAny_attempt (wpAny_mono hx (fun kv s'' hk => ?_) fun _ _ hF => hF.elim))
   obtain ⟨its', n', e', hs', hD'⟩ := hk
   try dsimp only
   refine wpAny_bind (listUpdate_at e' rfl ?_ (by rw [sizeLine_eq]; omega) (Nat.le_trans (Nat.le_of_eq (Array.size_push ..)) (by rw [sizeLine_eq]; omega)))
   exact wpAny_pure ⟨rfl, hD'⟩
  ·obtain ⟨z, ks, n, rk, hkl0, e⟩ := I2.lstM hH2
   have hkl : ys.length = kvs.length := Paired.length hp2
   try dsimp only
   refine wpAny_bind (listItems_at e rfl ?_)
   have hpD := I2.pin (D, seqObj "list" #[] e1) (List.mem_append_right _ (List.mem_append_right _ (List.mem_singleton.mpr rfl)))
   refine Ym (G := fun p => Prm its.length p /\ VV ys kf p) (fun i => kf (ys.getD i .non)) (by omega) (by omega) e hpD.1 hDk (fun i hi => ?_) (fun hn => hil ▸ YQ (by omega)) (fun h2 => ⟨List.Perm.refl _, fun m _ _ a b hab hb => absurd hab (by omega)⟩) (fun p hp => hp.1) fun p hp3 => ⟨_, rfl, wpAny_pure ⟨_, rfl, ?_⟩⟩
   ·have hm : ys.getD i .non ∈ ys := by
     have : i < ys.length := by omega
     simp [this]
    obtain ⟨t, e2, e3⟩ := Py (d1 := V.non) (d2 := V.non) hp2 (i := i) (by rw [List.nil_append]; omega)
    rw [List.nil_append] at e3
    obtain ⟨tv, rt, it, hz'⟩ := I2.tuple (SqT.of e3)
    obtain ⟨o, ho, hc, m, hd⟩ := it
    refine ⟨(hK _ hm).1, t, o, tv.toArray, m, ?_, ho, hc, hd, rt⟩
    have := Kq rk (i := i) (by omega)
    rw [e2] at this
    exact this
   ·obtain ⟨hp, hord⟩ := hp3
    have hin : ∀ i ∈ p.toList, i < ys.length := fun i hi => by
     have := List.mem_range.mp (hp.mem_iff.mp hi)
     omega
    have hpl : p.toList.length = its.length := by rw [hp.length_eq]; simp
    have hzs : (p.toList.map fun i => ys.getD i V.non).Perm ys := by
     have := hp.map fun i => ys.getD i V.non
     rw [<- hil, Od] at this
     exact this
    have I3 := (I2.lset (t' := s2.toks) (its' := []) (f := fun _ => #[]) hH2 e rfl .nil (Nat.zero_le _)).unpinned
    have hFp3 : Wd X pins (upd H2 kS (.lst [])) D := ⟨(Aj hDk).trans hpD.2.1, hFp.2⟩
    have hD3 : (s2.heap.update kS (Obj.mapSeq fun _ => #[])).get? D = some (seqObj "list" #[] e1) := (Heap.get?_update_ne _ _ _ _ hDk).trans hpD.1
    obtain ⟨c, hc⟩ : ∃ c, ((s2.heap.update kS (Obj.mapSeq fun _ => #[])).update D (Obj.mapSeq fun _ => List.toArray (p.toList.map fun i => its.getD i Value.none))).get? D = some (seqObj "list" (List.toArray (p.toList.map fun i => its.getD i Value.none)) c) := ⟨_, get?_update_seq hD3 _⟩
    refine ⟨.ref D, _, I3.adopt (t' := s2.toks) (zs := p.toList.map fun i => ys.getD i V.non) hFp3 (fun b o hb e => (Heap.get?_update_ne _ _ _ _ hb).trans e) hc (PJ rv hin) (by rw [List.length_map, hpl, sizeLine_eq]; omega), rfl, q _ _ _ ?_ hDn Ae hzs fun m h1 h2 => ?_⟩
    ·exact ((sm2.upd hkn).upd hDn)
    ·refine List.pairwise_iff_getElem.mpr fun i j hi hj hij => ?_
     rw [List.length_map, hpl, <- hil] at hj
     have h3 := hord m h1 h2 i j hij hj
     have hs : p.size = ys.length := by rw [<- Array.length_toList, hpl, hil]
     have e1 : p.getD i 0 = p.toList[i]'(by rw [Array.length_toList]; omega) := by simp [Array.getD, show i < p.size by omega]
     have e2 : p.getD j 0 = p.toList[j]'(by rw [Array.length_toList]; omega) := by simp [Array.getD, show j < p.size by omega]
     rw [e1, e2] at h3
     rw [List.getElem_map, List.getElem_map]
     exact h3
def VP (K : Fg_) (sp : Sp) (t : TA) : TE := fun σ H Q => t σ H fun vs H1 => ∃ x, vs = [x] /\ RW K sp x H1 Q
theorem WT {e : Expr} {t : TA} {g : Str} {p kp kpos pos : Pos} (F : FnOk X.prog X.w X.K X.mg X.base CX0 k f fd ps sp) (hr : Room (k + 2) X.A) (hb : Binds X.K fd ps []) (hgs : Gl X "sorted") (hms : X.mg "sorted" = none) (hvs : bootBuiltins "sorted" = some (.builtin "sorted"))
  (hg : Gl X g) (hm : X.mg g = some (.ref f)) (ha : PA X [e] t) (hdb : (g == ("__debug__" : Str)) = false := by decide)
  (he : backTo pos (starEach [e] X.env) = (false, eval e X.env) :: backTo pos (starEach [] X.env) := by rfl) (hpl : (backTo pos (starEach [e] X.env)).any (·.1) = false := by rfl) :
  PE X (.Call (.Name "sorted" p) [e] [⟨some "key", .Name g kp, kpos⟩] pos) (VP X.K sp t) := by
 intro pins s σ H Q I h
 refine wpAny_Call_Name_kw (Qq I hgs hms hvs ?_)
 refine callWith_kw (thn (ha pos pins s σ H _ I h) fun us s1 ⟨vs, H1, I1, r, x, ex, q⟩ => ?_) he hpl
 subst ex
 obtain ⟨u, rfl, rx⟩ := vals1 r
 have hk : PK X [⟨some "key", .Name g kp, kpos⟩] (Dt (tC (.ref f)) Vf) := abA (Bl hg hm rfl hdb) acU
 refine thn (hk pos pins s1 σ H1 (fun zs H2 => zs = [.ref f] /\ H2 = H1) I1 ⟨rfl, rfl⟩) fun ws s2 ⟨zs, H2, I2, rz, e1, e2⟩ => ?_
 subst e1 e2
 obtain ⟨w1, rfl, rw1⟩ := vals1 rz
 cases rw1
 exact Ws F hr hb I2 rx q
theorem Ub {K : Fg_} {e : Expr} {t : TA} {g : Str} {p kp kpos pos : Pos} (hK : X.K = K) (h : PE X (.Call (.Name "sorted" p) [e] [⟨some "key", .Name g kp, kpos⟩] pos) (VP X.K sp t)) : PE X (.Call (.Name "sorted" p) [e] [⟨some "key", .Name g kp, kpos⟩] pos) (VP K sp t) := hK ▸ h
theorem ap_tSortK {K : Fg_} {sp : Sp} {t : TA} {σ : St} {H : Hp} {Q : VK} : VP K sp t σ H Q = t σ H fun vs H1 => ∃ x, vs = [x] /\ RW K sp x H1 Q := rfl
theorem ap_rSortK {K : Fg_} {sp : Sp} {a : Addr} {H : Hp} {Q : VK} : RW K sp (.ref a) H Q = ∃ (ys : List V) (kf : V -> List Int), SqL K H a ys /\ ys.length < 64 /\ (∀ y ∈ ys, kf y ≠ [] /\ abJ sp kf H y) /\
  ∀ p zs H', Same H H' -> H p = none -> H' p = some (.lst zs) -> zs.Perm ys -> (∀ m, (∀ y ∈ ys, (kf y).length = m) -> (ys.map kf).Nodup -> zs.Pairwise fun y z => Js (kf y) (kf z) false = true) -> Q (.ref p) H' := by simp [RW]
end
section
variable {X : Cx}
def abv : V -> List V -> Hp -> VK -> Prop := fun x vs H Q => ∃ (l : Addr) (xs : List V) (i : Int) (y : V), x = .ref l /\ vs = [.int i, y] /\ H l = some (.lst xs) /\ 0 <= i /\ i <= xs.length /\ i < 1000000 /\ xs.length + 1 <= sizeLine /\ Q .non (upd H l (.lst (xs.take i.toNat ++ y :: xs.drop i.toNat)))
theorem Xq : MtM X "list.insert" abv := by
 intro pins s σ H x vs v us Q I rx rv h
 obtain ⟨l, xs, i, y, rfl, rfl, hH, hk0, hk, hk2, hz, q⟩ := h
 cases rx
 obtain ⟨iv, u, rfl, r1, ru⟩ := rv.two
 obtain ⟨t, rfl⟩ := r1
 obtain ⟨z, its, n, r, hl, e⟩ := I.lstM hH
 have hfit : ¬ (!Builtin.List.listFitsIndex i) = true := by
  rw [fitsIndex_both (Int.le_trans (by decide) hk0) (Int.lt_trans hk2 (by decide))]
  exact Bool.false_ne_true
 have hsz : its.toArray.size <= sizeLine := by rw [List.size_toArray, <- hl]; exact z
 refine call_meets F.slot_list_insert ⟨_, e, rfl⟩ F.entry_list_insert (F.args_list_insert_3 _ _ _) (PySem.AutoSeq1.list_insert_list_int_val_1 l its.toArray n i t u hfit hsz) ⟨e, ?_⟩
 refine ⟨.non, _, I.lset (its' := its.take i.toNat ++ u :: its.drop i.toNat) hH e ?_ ((r.take i.toNat).append (.cons ru (r.drop i.toNat))) ?_, rfl, q⟩
 ·have hm : (if i < 0 then (i + (its.toArray.size : Int)).toNat else min i.toNat its.toArray.size) = i.toNat := by
   rw [if_neg (by omega), List.size_toArray]
   omega
  show (its.toArray.extract 0 (if i < 0 then (i + (its.toArray.size : Int)).toNat else min i.toNat its.toArray.size)).push u ++ its.toArray.extract (if i < 0 then (i + (its.toArray.size : Int)).toNat else min i.toNat its.toArray.size) = _
  rw [hm]
  apply Array.toList_inj.mp
  simp
  exact List.take_of_length_le (by rw [List.length_drop]; omega)
 ·rw [List.length_append, List.length_cons, List.length_take, List.length_drop]
  omega
end
end L2
namespace L2
open PySem PySem.Spec PyProof.Rows
section
theorem Zx {M : Model} {A : Around} {E : Value -> Shared -> Prop} {nm q nm' q' : Str} {C N D N' : Addr} {bs bm bs' bm' : List Value} {hdct hdct' : Bool} {sn sn' : List Str} {sub sub' : List Value} {ab ab' : Bool} {col col' : Option Bool}
  {dd dd' : Option Addr} {k0 k1 k2 k3 k5 k0' k1' k2' k3' k5' : Option Value} {newId newId' : String} {h : Heap} {g : Array GenState} {d : Drawn} {t : Nat} {os : OsState} {e : Addr} {oe : Obj} {Q : Bool -> Shared -> Prop}
  (gC : h.get? C = some (excClassObj nm q C N bs bm hdct sn sub ab col dd k0 k1 k2 k3 k5 newId)) (gD : h.get? D = some (excClassObj nm' q' D N' bs' bm' hdct' sn' sub' ab' col' dd' k0' k1' k2' k3' k5' newId'))
  (he : h.get? e = some oe) (hc : oe.cls = .ref C) (hB : bm'.contains (.type "BaseException") = true) (hs : (Value.ref C :: bm).contains (.ref D) = true) (hQ : Q true ⟨h, g, d, t, os⟩) :
  wpAny M A (excMatches (.ref e) (.ref D)) Q E ⟨h, g, d, t, os⟩ := by
 unfold excMatches isInstance isExcClass
 refine wpAny_bind (wpAny_bind (wpAny_typeOf (T := "type") ?_ ?_))
 ·exact ⟨_, gD, rfl⟩
 rw [show isSubtype (.type "type") (.type "tuple") = pure false from isSubtype_of_subB (by rfl)]
 refine wpAny_pure ?_
 try dsimp only
 rw [if_neg (by decide)]
 refine wpAny_bind (wpAny_pure ?_)
 rw [List.forIn_cons]
 unfold isType
 refine wpAny_bind (wpAny_bind (wpAny_bind (wpAny_bind (wpAny_bind (show wpAny _ _ (loadPart D (some headPart)) _ _ _ from wpAny_loadPart gD ?_)))))
 refine wpAny_pure ?_
 try dsimp only
 rw [if_pos rfl]
 refine wpAny_isSubtype_exc gD ?_
 rw [show (Value.ref D :: bm').contains (.type "BaseException") = true by rw [List.contains_cons, hB, Bool.or_true]]
 try dsimp only
 rw [if_neg (by decide)]
 refine wpAny_pure ?_
 try dsimp only
 rw [List.forIn_nil]
 refine wpAny_pure ?_
 refine wpAny_bind (wpAny_typeOf_ref he ?_)
 rw [hc, List.forIn_cons]
 refine wpAny_bind (wpAny_bind (wpAny_bind (wpAny_isSubtype_exc gC ?_)))
 rw [hs]
 try dsimp only
 rw [if_pos rfl]
 refine wpAny_pure ?_
 try dsimp only
 refine wpAny_pure ?_
 exact wpAny_pure hQ
theorem adf {K : Fg_} {C D N : Addr} {h : Heap} {nm q : Str} {bs bm : List Value} {hdct : Bool} {sn : List Str} {sub : List Value} {ab : Bool} {col : Option Bool} {dd : Option Addr} {k0 k1 k2 k3 k5 : Option Value} {newId : String} (X : K.In h) (hs : PySem.W.kitOne K (.ref C) (.ref D) = some true)
  (gC : h.get? C = some (excClassObj nm q C N bs bm hdct sn sub ab col dd k0 k1 k2 k3 k5 newId)) : (Value.ref C :: bm).contains (.ref D) = true := by
 unfold PySem.W.kitOne at hs
 split at hs
 ·rename_i e
  have e : C = D := by simpa using e
  subst e
  simp
 ·unfold PySem.W.kitCls at hs
  dsimp only at hs
  split at hs
  ·unfold PySem.W.subIn at hs
   dsimp only at hs
   unfold PySem.W.mroIn PySem.W.clsIn at hs
   split at hs
   ·rename_i oc od cd sl hl
    have hh := X _ _ hl
    rw [gC] at hh
    cases hh
    simp only [Option.bind_some] at hs
    split at hs
    ·cases hs
    ·exact Option.some.inj hs
   ·cases hs
  ·cases hs
end
end L2
namespace L2
open PySem PySem.W PySem.Spec PySem.Calls PyProof.Rows
def SameX (Pt : Addr) (H H' : Hp) : Prop := ∀ b o, b ≠ Pt -> H b = some o -> H' b = some o
theorem SameX.of {Pt : Addr} {H H' : Hp} (h : Same H H') : SameX Pt H H' := fun b o _ e => h b o e
theorem SameX.trans {Pt : Addr} {H H1 H2 : Hp} (h : SameX Pt H H1) (k : SameX Pt H1 H2) : SameX Pt H H2 := fun b o n e => k b o n (h b o n e)
end L2
namespace L2
open PySem PySem.W PySem.Spec PySem.Calls PyProof.Rows
structure Apart3 (z TI TO i1 i2 i3 l1 l2 l3 : Addr) : Prop where
 zz : TI ≠ z /\ TO ≠ z /\ i1 ≠ z /\ i2 ≠ z /\ i3 ≠ z /\ l1 ≠ z /\ l2 ≠ z /\ l3 ≠ z
 to : TI ≠ TO /\ i1 ≠ TO /\ i2 ≠ TO /\ i3 ≠ TO /\ l1 ≠ TO /\ l2 ≠ TO /\ l3 ≠ TO
 ii : i1 ≠ i2 /\ i1 ≠ i3 /\ i2 ≠ i3
 j1 : TI ≠ i1 /\ l1 ≠ i1 /\ l2 ≠ i1 /\ l3 ≠ i1
 j2 : TI ≠ i2 /\ l1 ≠ i2 /\ l2 ≠ i2 /\ l3 ≠ i2
 j3 : TI ≠ i3 /\ l1 ≠ i3 /\ l2 ≠ i3 /\ l3 ≠ i3
end L2
namespace L2
open PySem PySem.W PySem.Spec PyProof.Rows
section
variable {P : Program} {w : World} {A : Around} {E : Value -> Shared -> Prop} {s : Shared}
theorem Vz {b f : Bool} {Q : Bool -> Shared -> Prop} : ∀ (xs : List Value) (i : Nat), Q f s -> KatLex P w A b f Q (xs.zip xs) i s
 | [], i, h => h
 | x :: xs, i, h => kat_cons (SeqAt.EqAt.same x P w _ _ (kat_yes (Vz xs (i + 1) h)))
end
section
variable {X : Cx}
theorem abu {ys : List V} {ts : V -> List Int} {m : Nat} (h1 : ∀ y ∈ ys, (ts y).length = m) (h2 : (ys.map ts).Nodup) (hn : 1 <= ys.length) :
  Kok (fun i j => Js (ts (ys.getD i .non)) (ts (ys.getD j .non)) false) ys.length (fun p => Prm ys.length p /\ VV ys ts p) (kas_sort ys.length) := by
 have hm : ∀ i, i < ys.length -> (ts (ys.getD i .non)).length = m := fun i hi => h1 _ (by simp [hi])
 refine Kok.congr (fun i j hi hj => ?_) (YQ (ts := ts) hn)
 rw [hm i hi, hm j hj, decide_eq_false (Nat.lt_irrefl _)]
end
end L2
namespace L2
open PySem PySem.W PySem.Spec PySem.Calls PyProof.Rows
section
variable {X : Cx}
def VD (K : Fg_) : List V -> Hp -> VK -> Prop := fun xs H Q => ∃ (a : Addr) (ns : List Int), xs = [.ref a] /\ SqL K H a (ns.map V.int) /\ ns.length < 64 /\
 ∀ p (ms : List Int), H p = none -> ms.Perm ns -> (ms.Pairwise fun x y => x <= y) -> Q (.ref p) (upd H p (.lst (ms.map V.int)))
theorem Wz : DQ X (.builtin "sorted") (VD X.K) := by
 intro pins s σ H xs us Q I r h
 obtain ⟨a, ns, rfl, hq, hlen, q⟩ := h
 obtain ⟨u, rfl, rx⟩ := vals1 r
 cases rx
 obtain ⟨its, rv, pl, hz⟩ := I.list hq
 have hi : IntsAre its ns := intsAre_of rv
 have hil : its.length = ns.length := by rw [<- rv.length, List.length_map]
 refine sorted_ints pl.isList hi (by omega) fun out ms h1 h2 h3 => ?_
 obtain ⟨c, hc⟩ := sortedAll_at s.heap its out
 refine ⟨.ref (s.heap.objs.size + 1), _, I.laid (t' := s.toks) (o := .lst (ms.map V.int)) (fun b o e => sortedAll_old e) (Nat.le_succ _) ?_, rfl, q _ _ (I.hok.fresh (Nat.le_succ _)) h2 h3⟩
 refine ⟨by rw [List.length_map, h2.length_eq, sizeLine_eq]; omega, out.toList, c, Kh h1, ?_⟩
 rw [hc, Array.toArray_toList]
theorem Ui {K : Fg_} (hK : X.K = K := by rfl) : DQ X (.builtin "sorted") (VD K) := hK ▸ Wz
theorem ap_rSortI {K : Fg_} {a : Addr} {H : Hp} {Q : VK} : VD K [.ref a] H Q = ∃ (ns : List Int), SqL K H a (ns.map V.int) /\ ns.length < 64 /\
 ∀ p (ms : List Int), H p = none -> ms.Perm ns -> (ms.Pairwise fun x y => x <= y) -> Q (.ref p) (upd H p (.lst (ms.map V.int))) := by simp [VD]
end
end L2
namespace L2
open PySem PySem.W PySem.Spec PySem.Calls PyProof.Rows
theorem aaY {P : Program} {w : World} {k : Key} {u : Value} (h : (BR P w).is k u = true) : RelV (kV k) u := by
 rcases BZ h with ⟨i, t, rfl, rfl⟩ | ⟨x, t, rfl, rfl⟩
 ·exact ⟨t, rfl⟩
 ·exact ⟨t, rfl⟩
end L2
namespace L2
open PySem PySem.W PySem.Spec PySem.Calls PyProof.Rows
def Itk (a : Addr) (o : Obj) (kvs : List (Key × V)) : It := ⟨fun i H => H a = some (.frz o (.dK kvs)) /\ i < kvs.length, fun i H x H' => H' = H /\ ∃ kv, kvs[i]? = some kv /\ x = kV kv.1, fun i H => H a = some (.frz o (.dK kvs)) /\ kvs.length <= i⟩
theorem Xv {P : Program} {w : World} {A : Around} {E : Value -> Shared -> Prop} {s : Shared} {it d : Addr} {i n ep : Nat} {Q : Value -> Shared -> Prop} (hit : s.heap.IsKeyIter it d i n ep) (h : Q (.ref it) s) : wpAny (model P w) A (pyIter (.ref it)) Q E s := by
 refine wpAny_pyIter_slot hit.typeIs F.slot_dict_keyiterator_iter (wpAny_call_entry F.slot_dict_keyiterator_iter hit.typeIs F.entry_dict_keyiterator_iter ?_ (F.args_dict_keyiterator_iter_1 _))
 show wpAny _ _ (ret (.ref it)) _ _ s; exact wpAny_pure ⟨_, rfl, "dict_keyiterator", _, hit.typeIs, F.slot_dict_keyiterator_next.lookup, h⟩
theorem Yw {P : Program} {w : World} {K : Fg_} {tg : Expr} {a it : Addr} {o : Obj} {kvs : List (Key × V)} {es : Array DictEntry} {ep : Nat} (hdat : o.data = .dict es ep) : Turn P w K tg (Itk a o kvs) [it] it (fun i h => h.IsKeyIter it a i kvs.length ep) where
 mem := by simp
 obj := fun i h st b hb => by
  obtain rfl : b = it := by simpa using hb
  obtain ⟨oi, e, c, dd⟩ := st
  exact ⟨oi, e, fun v z => by rw [dd] at z; cases z⟩
 keep := fun i h h' st k => let ⟨oi, e, r⟩ := st; ⟨oi, k it (by simp) oi e, r⟩
 item := by
  intro X hP hw hK hc i pins s σ H E I hf st hg
  subst hP hw hK
  obtain ⟨hg1, hg2⟩ := hg
  obtain ⟨vs, rel, hat⟩ := Vo I hg1 hdat
  have hvl : kvs.length = vs.length := Paired.length rel
  obtain ⟨f0, f1, f2, f3, f4, f5⟩ := hf it (by simp)
  obtain ⟨⟨k0, v0⟩, hx⟩ : ∃ q, vs[i]? = some q := ⟨_, List.getElem?_eq_getElem (by omega)⟩
  obtain ⟨p, hp, e1, e2⟩ := Lh rel hx
  rw [hvl] at st
  refine wpAny_pyNext_dict_item st hat (k := k0) (v := v0) hx fun key h' hkey st' sb => ?_
  have I1 : Inv X pins σ H { s with heap := h' } := I.turned (t' := s.toks) (fun b o hb e => (sb.2 b hb).trans e) f0 f1 f3 f4 f5
  obtain ⟨oi, e, c, dd⟩ := id st'
  rw [<- hvl] at st'
  exact ⟨_, rfl, WL (s := { s with heap := h' }) e c dd (by decide) ⟨kV p.1, H, I1, aaY (by rw [show p.1 = k0 from e1]; exact hkey), ⟨rfl, p, hp, rfl⟩, st', fun b hb => (hf b hb).1⟩⟩
 done := by
  intro X hP hw hK hc i pins s σ H E I hf st hg
  subst hP hw hK
  obtain ⟨hg1, hg2⟩ := hg
  obtain ⟨vs, rel, hat⟩ := Vo I hg1 hdat
  have hvl : kvs.length = vs.length := Paired.length rel
  obtain ⟨f0, f1, f2, f3, f4, f5⟩ := hf it (by simp)
  rw [hvl] at st
  exact wpAny_pyNext_dict_end (I.ok.hd hc) st hat (by simp; omega) fun h' eb => ⟨rfl, I.turned (t' := s.toks) (fun b o hb e => eb b o hb e) f0 f1 f3 f4 f5⟩
 self := fun _ _ _ _ _ st h => Xv st h
section
variable {X : Cx} {tg : Expr}
def adh (tl : TE) : TI := fun σ H R => tl σ H fun x H1 => ∃ a kvs, x = .ref a /\ H1 a = some (.dK kvs) /\ ∀ o, R (Itk a o kvs) (upd H1 a (.frz o (.dK kvs)))
theorem Xw {l : Expr} {tl : TE} (hl : PE X l tl) : PI X tg l (adh tl) := by
 intro pins s σ H R I h
 refine thn (hl pins s σ H _ I h) fun u s1 ⟨x, H1, I1, r1, a, kvs, ex, ha, q⟩ => ?_
 subst ex
 cases r1
 obtain ⟨z, hsys, vs, rel, o, es, ep, q1, q2, q3, q4⟩ := (show ObjOk X.prog X.w H1 s1.heap a (.dK kvs) from I1.hok a _ ha)
 have hvl : kvs.length = vs.length := Paired.length rel
 have hat : s1.heap.DictAt (BR X.prog X.w) a vs ep := ⟨o, es, q1, q2, q3, q4⟩
 refine wpAny_pyIter_dict hsys hat ?_
 have I2 : Inv X pins σ (upd H1 a (.frz o (.dK kvs))) s1 := I1.write (t' := s1.toks) (h' := s1.heap) (by rw [ha]; exact True.intro) (.inl rfl) (fun b u _ e => e) ⟨o, q1⟩ (show ObjOk X.prog X.w _ s1.heap a (.frz o (.dK kvs)) from ⟨q1, z, hsys, vs, rel, o, es, ep, q1, q2, q3, q4⟩)
 refine ⟨s1.heap.objs.size, [s1.heap.objs.size], _, _, _, rfl, I2.kept (t' := s1.toks) fun b o e => Heap.get?_push_of_some _ e, Yw q3, ⟨_, Heap.get?_push_size _ rfl, rfl, by rw [hvl]; rfl⟩, fun b hb => ?_, q o⟩
 obtain rfl : b = s1.heap.objs.size := by simpa using hb
 exact I2.fpOk (Nat.le_refl _) (I2.hok.fresh (Nat.le_refl _))
end
section
variable {K : Fg_} {σ : St} {H : Hp} {R : It -> Hp -> Prop} {tl : TE} {g : TG} {tb : TS} {D : Ends} {a : Addr} {o : Obj} {kvs : List (Key × V)}
theorem ap_iKeys : adh tl σ H R = tl σ H fun x H1 => ∃ a kvs, x = .ref a /\ H1 a = some (.dK kvs) /\ ∀ o, R (Itk a o kvs) (upd H1 a (.frz o (.dK kvs))) := rfl
end
end L2
namespace L2
open PySem PySem.W PySem.Spec PySem.Calls PyProof.Rows
section
variable {X : Cx}
theorem Inv.thaw {pins : List (Addr × Obj)} {σ : St} {H : Hp} {s : Shared} {a : Addr} {o : Obj} {kvs : List (Key × V)} (I : Inv X pins σ H s) (hH : H a = some (.frz o (.dK kvs))) (hn : ∀ o u, X.H₀ a ≠ some (.frz o u)) : Inv X pins σ (upd H a (.dK kvs)) s := by
 have ne : ∀ b, H b = none -> b ≠ a := fun b n z => by rw [z, hH] at n; cases n
 have nt : ∀ b xs, H b = some (.tup xs) -> b ≠ a := fun b xs n z => by rw [z, hH] at n; cases n
 have nw : ∀ b y, H b = some (.own y) -> b ≠ a := fun b y n z => by rw [z, hH] at n; cases n
 have ntb : ∀ b ps, H b = some (.tbl ps) -> b ≠ a := fun b y n z => by rw [z, hH] at n; cases n
 refine ⟨I.ok, I.os, I.bare, ⟨I.base.keep, I.base.slot, fun b ob q n hx => ?_, I.base.there, fun b xs q => ?_, fun b ob u q => ?_, fun b ps q => ?_⟩, I.loc, I.cell, ?_, fun x c e => ?_, fun p hp => ?_, fun b u e => ?_, I.len⟩
 ·have h := I.base.free b ob q n hx; rw [Aj (ne b h)]; exact h
 ·have h := I.base.tups b xs q; rw [Aj (nt b xs h)]; exact h
 ·have h := I.base.frzs b ob u q; rw [Aj (fun z : b = a => hn ob u (by rw [<- z]; exact q))]; exact h
 ·obtain ⟨m, h⟩ := I.base.tbls b ps q; exact ⟨m, by rw [Aj (ntb b _ h)]; exact h⟩
 ·rw [Aj (ne _ I.free)]; exact I.free
 ·rw [Aj (ne _ (I.freeC x c e))]; exact I.freeC x c e
 ·obtain ⟨p1, p2, p3⟩ := I.pin p hp; exact ⟨p1, by rw [Aj (ne _ p2)]; exact p2, p3⟩
 ·by_cases hb : b = a
  ·subst hb
   rw [Ae] at e; cases e
   obtain ⟨_, q⟩ := (show ObjOk X.prog X.w H s.heap b (.frz o (.dK kvs)) from I.hok b _ hH)
   exact ObjOk.stay q (fun _ _ _ q => q) (fun c q => by rw [Aj (nw c _ q)]; exact q) fun c xs q => by rw [Aj (nt c xs q)]; exact q
  ·rw [Aj hb] at e
   exact (I.hok b u e).stay (fun _ _ _ q => q) (fun c q => by rw [Aj (nw c _ q)]; exact q) fun c xs q => by rw [Aj (nt c xs q)]; exact q
end
end L2
namespace L2
open PySem PySem.Spec PyProof.Rows
section
variable {prog : Program} {w : World} {A : Around} {E : Value -> Shared -> Prop} {h : Heap} {g : Array GenState} {d : Drawn} {t : Nat} {os : OsState} {a : Addr} {o : Obj}
 {nm q : Str} {C N : Addr} {bs bm bmB : List Value} {hdct : Bool} {sn : List Str} {sub : List Value} {ab : Bool} {col : Option Bool} {dd : Option Addr} {k0 k1 k2 k3 k5 : Option Value} {B newId initId : String} {K : Fg_}
theorem TQ {rest : List Value} {fI : Addr} {oI : Obj} {Q : Fin -> Shared -> Prop} (KX : K.In h) (F : ExcBaseFacts B newId initId bmB) (T : OwnTail h bmB bm)
  (hC : h.get? C = some (excClassObj nm q C N bs bm hdct sn sub ab col dd k0 k1 k2 k3 k5 newId)) (hi : PySem.W.findIn K (.ref C) "__init__" = some (some (.ref fI))) (hf : h.get? fI = some oI) (hfc : oI.cls = .type "function") (hz : rest.length <= sizeLine)
  (k : ∀ h', Heap.MadeExcOf h h' (h.objs.size + 1) (.ref C) rest -> codeAny (model prog w) A (Code.call (.ref fI) ⟨.ref (h.objs.size + 1) :: rest, []⟩) (fun r s' => match r with | .ok (.ret v) => v = .none /\ Q (.done (.ret (.ref (h.objs.size + 1)))) s' | .ok _ => False | .error x => E x s') ⟨h', g, d, t, os⟩) :
  wpAny (model prog w) A (Builtin.«type.__call__» ⟨.ref C :: rest, []⟩) Q E ⟨h, g, d, t, os⟩ := by
 have hM := fun {M : Model} {A : Around} {E} {Q : Option String -> Shared -> Prop} (k : Q (some newId) ⟨h, g, d, t, os⟩) => wpAny_madeBy_exc (M := M) (A := A) (E := E) (Q := Q) hC k
 repeat (any_goals (first | assumption | (with_reducible refine wpAny_loadPart_at hC ?_) | with_reducible refine hM ?_ | wp_step))
 refine codeAny_call_builtin_code (Code.quiet_builtin _ F.quiet) (wpAny_check_new_subT F T hC (codeAny_exc_new_subT F T hC ?_ hz))
 have e1 : ∀ b o, h.get? b = some o -> ((h.push { cls := Value.type "tuple", data := Data.seq rest.toArray }).push { cls := Value.ref C, data := Data.fields #[Value.ref h.objs.size, Value.none, Value.none, Value.none, Value.bool false, Value.none] }).get? b = some o := fun b o e => Heap.get?_push_of_some _ (Heap.get?_push_of_some _ e)
 have e2 : ((h.push { cls := Value.type "tuple", data := Data.seq rest.toArray }).push { cls := Value.ref C, data := Data.fields #[Value.ref h.objs.size, Value.none, Value.none, Value.none, Value.bool false, Value.none] }).get? (h.objs.size + 1) = some { cls := Value.ref C, data := Data.fields #[Value.ref h.objs.size, Value.none, Value.none, Value.none, Value.bool false, Value.none] } := Heap.get?_push_at (by rw [Heap.size_push]) rfl
 have e3 : ((h.push { cls := Value.type "tuple", data := Data.seq rest.toArray }).push { cls := Value.ref C, data := Data.fields #[Value.ref h.objs.size, Value.none, Value.none, Value.none, Value.bool false, Value.none] }).get? h.objs.size = some { cls := Value.type "tuple", data := Data.seq rest.toArray } := Heap.get?_push_of_some _ (Heap.get?_push_at rfl rfl)
 have mk : Heap.MadeExcOf h ((h.push { cls := Value.type "tuple", data := Data.seq rest.toArray }).push { cls := Value.ref C, data := Data.fields #[Value.ref h.objs.size, Value.none, Value.none, Value.none, Value.bool false, Value.none] }) (h.objs.size + 1) (.ref C) rest := ⟨e1, Heap.get?_none_of_le (by omega), _, e2, Heap.get?_none_of_le (Nat.le_refl _), e3⟩
 have k' := k _ mk
 generalize ((h.push { cls := Value.type "tuple", data := Data.seq rest.toArray }).push { cls := Value.ref C, data := Data.fields #[Value.ref h.objs.size, Value.none, Value.none, Value.none, Value.bool false, Value.none] }) = h2 at *
 have hC2 := e1 _ _ hC
 have hf2 := e1 _ _ hf
 have LK := PySem.W.looks_findIn (M := model prog w) (KX.keeps e1) hi
 have hcB : (Value.ref C :: bm).contains (.ref C) = true := by simp
 repeat (any_goals (first | assumption | (with_reducible refine wpAny_loadPart_at hC2 ?_) | (with_reducible refine wpAny_loadPart_at e2 ?_) | (with_reducible refine wpAny_isSubtype_exc hC2 ?_; rw [hcB]) | with_reducible refine LK.at ?_ | wp_step))
 unfold bindSpecial
 repeat (any_goals (first | assumption | (with_reducible refine wpAny_loadPart_at hf2 ?_; rw [hfc]) | wp_step))
 refine codeAny_mono k' (fun r s' hr => ?_)
 cases r with
 | error x => exact hr
 | ok fl =>
  cases fl with
  | ret v =>
   obtain ⟨rfl, hq⟩ := hr
   refine wpAny_pure ?_
   dsimp only
   rw [if_neg (by decide)]
   exact wpAny_pure hq
  | next => exact hr
  | brk => exact hr
  | cont => exact hr
theorem adG {rest : List Value} {fI : Addr} {oI : Obj} {Q : Value -> Shared -> Prop} (KX : K.In h) (F : ExcBaseFacts B newId initId bmB) (T : OwnTail h bmB bm)
  (hC : h.get? C = some (excClassObj nm q C N bs bm hdct sn sub ab col dd k0 k1 k2 k3 k5 newId)) (hi : PySem.W.findIn K (.ref C) "__init__" = some (some (.ref fI))) (hf : h.get? fI = some oI) (hfc : oI.cls = .type "function") (hz : rest.length <= sizeLine)
  (k : ∀ h', Heap.MadeExcOf h h' (h.objs.size + 1) (.ref C) rest -> codeAny (model prog w) (A.under (.builtin "type.__call__" ⟨.ref C :: rest, []⟩)) (Code.call (.ref fI) ⟨.ref (h.objs.size + 1) :: rest, []⟩) (fun r s' => match r with | .ok (.ret v) => v = .none /\ Q (.ref (h.objs.size + 1)) s' | .ok _ => False | .error x => E x s') ⟨h', g, d, t, os⟩) :
  wpAny (model prog w) A (call (.ref C) rest) Q E ⟨h, g, d, t, os⟩ := by
 refine wpAny_call (codeAny_of_tree ?_)
 rw [show (model prog w).den (Code.call (.ref C) ⟨rest, []⟩) = callAny (.ref C) ⟨rest, []⟩ from by with_unfolding_all rfl]
 unfold callAny
 try dsimp only
 have hT : (⟨h, g, d, t, os⟩ : Shared).TypeIs (.ref C) "type" := ⟨_, hC, rfl⟩
 have L := tc_lookup
 repeat (any_goals (first | assumption | (with_reducible refine wpAny_loadPart_at hC ?_) | (with_reducible refine wpAny_load' hC ?_) | wp_step))
 rw [tc_bind]
 refine wpAny_pure ?_
 dsimp only [callAny.plainCallee]
 refine wpAny_bind (wpAny_pure ?_)
 rw [if_pos (by decide)]
 refine wpAny_pure ⟨rfl, codeAny_call_builtin_at (Code.quiet_builtin _ (by decide +kernel)) entry_typeCall (wpAny_check_type_call_sub hC (TQ KX F T hC hi hf hfc hz fun h' mk => codeAny_mono (k h' mk) fun r s' hr => ?_))⟩
 cases r with
 | error x => exact hr
 | ok fl => cases fl <;> exact hr
theorem abG {tk : Tok} {z : Str} {t0 : Value} {R : Result -> Shared -> Prop} (F : ExcBaseFacts B newId initId bmB) (T : OwnTail h bmB bm) (hC : h.get? C = some (excClassObj nm q C N bs bm hdct sn sub ab col dd k0 k1 k2 k3 k5 newId))
  (hx : h.get? a = some ⟨.ref C, none, .fields #[t0, .none, .none, .none, .bool false, .none], #[]⟩)
  (hq : ∀ h', h' = (h.push { cls := Value.type "tuple", data := Data.seq #[Value.str z tk] }).update a (Obj.mapFields fun x => x.setIfInBounds 0 (Value.ref h.objs.size)) -> R (.ok (.ret .none)) ⟨h', g, d, t, os⟩) :
  codeAny (model prog w) A (.call (.builtin initId) ⟨[.ref a, .str z tk], []⟩) R ⟨h, g, d, t, os⟩ := by
 refine codeAny_call_builtin F.init.plain F.initEntry (wpAny_check_init_subT F T hC hx rfl ?_)
 repeat (any_goals (first | assumption | (with_reducible refine wpAny_loadPart_at hx ?_) | wp_step))
 split
 ·exact wpAny_letGo (wpAny_pure (hq _ rfl))
 ·exact wpAny_pure (wpAny_pure (hq _ rfl))
theorem aaB {tk : Tok} {f : Str} {dx : Addr} {mA : Str -> Option Value} {v : Value} {vs : Array Value} {Q : Fin -> Shared -> Prop} (KX : K.In h) (Zf : PySem.W.findIn K (.ref C) f = some none) (hC : h.get? C = some (excClassObj nm q C N bs bm true sn sub ab col dd k0 k1 k2 k3 k5 newId))
  (hx : h.get? a = some o) (hc : o.cls = .ref C) (hd : o.dict = some dx) (hda : o.data = .fields vs) (hN : h.Ns1 dx mA) (hv : mA f = some v) (hq : Q (.done (.ret v)) ⟨h, g, d, t, os⟩) :
  wpAny (model prog w) A (Builtin.«object.__getattribute__» ⟨[.ref a, .str f tk], []⟩) Q E ⟨h, g, d, t, os⟩ := by
 have LK := PySem.W.looks_findIn (M := model prog w) KX Zf
 have hN' : h.Ns dx mA := by obtain ⟨o, es, ep, e1, e2, e3, e4, e5⟩ := hN; exact ⟨o, es, ep, e1, e2, e3, e5⟩
 repeat (any_goals (first | assumption | (with_reducible refine wpAny_loadPart_at hx ?_; rw [hc]) | with_reducible refine LK.at ?_ | wp_step))
 rw [hda]
 try dsimp only
 unfold instanceDict
 repeat (any_goals (first | assumption | (with_reducible refine wpAny_loadPart_at hx ?_; rw [hc]) | with_reducible refine LK.at ?_ | wp_step))
 rw [hd]
 refine wpAny_pure ?_
 unfold Builtin.ObjectAttr.inDict
 try dsimp only
 refine wpAny_nsGet (s := ⟨h, g, d, t, os⟩) hN' ?_
 rw [hv]
 repeat (any_goals (first | assumption | wp_step))
theorem abq {tk : Tok} {f : Str} {dx : Addr} {mA : Str -> Option Value} {v : Value} {vs : Array Value} {R : Result -> Shared -> Prop} (KX : K.In h) (Zf : PySem.W.findIn K (.ref C) f = some none) (hC : h.get? C = some (excClassObj nm q C N bs bm true sn sub ab col dd k0 k1 k2 k3 k5 newId)) (hbe : bm.contains (.type "BaseException") = true)
  (hx : h.get? a = some o) (hc : o.cls = .ref C) (hd : o.dict = some dx) (hda : o.data = .fields vs) (hN : h.Ns1 dx mA) (hv : mA f = some v) (hq : R (.ok (.ret v)) ⟨h, g, d, t, os⟩) :
  codeAny (model prog w) A (.call (.builtin "BaseException.__getattribute__") ⟨[.ref a, .str f tk], []⟩) R ⟨h, g, d, t, os⟩ := by
 have hcB : (Value.ref C :: bm).contains (.type "BaseException") = true := by rw [List.contains_cons, hbe, Bool.or_true]
 have hk : builtinKind "BaseException.__getattribute__" = some .slot := by decide +kernel
 have hsplit : splitId "BaseException.__getattribute__" = some ("BaseException", "__getattribute__") := by decide +kernel
 have hargs := F.args_bexc_ga (.ref a) (.str f tk)
 have ck : ∀ {M : Model} {A' : Around} {E' : Value -> Shared -> Prop} {Q' : Unit -> Shared -> Prop}, Q' () ⟨h, g, d, t, os⟩ -> wpAny M A' (checkBuiltinCall "BaseException.__getattribute__" ⟨[.ref a, .str f tk], []⟩) Q' E' ⟨h, g, d, t, os⟩ := by
  intro M A' E' Q' hq'
  simp only [checkBuiltinCall, hk, hsplit]
  refine wpAny_bind ?_
  unfold isInstance
  repeat (first | (with_reducible refine wpAny_loadPart_at hx ?_; rw [hc]) | (with_reducible refine wpAny_isSubtype_exc hC ?_; rw [hcB]) | wp_step)
  exact hq'
 exact codeAny_call_builtin (by decide +kernel) F.entry_bexc_ga (ck (aaB KX Zf hC hx hc hd hda hN hv hq))
theorem acq {f : Str} {dx : Addr} {mA : Str -> Option Value} {v : Value} {vs : Array Value} {Q : Value -> Shared -> Prop} (KX : K.In h) (Z : XAsk K C) (Zf : PySem.W.findIn K (.ref C) f = some none) (hC : h.get? C = some (excClassObj nm q C N bs bm true sn sub ab col dd k0 k1 k2 k3 k5 newId)) (hbe : bm.contains (.type "BaseException") = true)
  (hx : h.get? a = some o) (hc : o.cls = .ref C) (hd : o.dict = some dx) (hda : o.data = .fields vs) (hN : h.Ns1 dx mA) (hv : mA f = some v) (hvb : ∀ id, v ≠ .builtin id) (hq : Q v ⟨h, g, d, t + 1, os⟩) :
  wpAny (model prog w) A (getAttr (.ref a) f true) Q E ⟨h, g, d, t, os⟩ := by
 have f3 := PySem.F.excAttr_ValueError.ga.bind (.ref a)
 have hx2 : (Value.builtin "BaseException.__getattribute__" == Value.builtin "object.__getattribute__") = false := by decide +kernel
 have hx1 : (onTheHeap (Value.ref C) && Value.builtin "BaseException.__getattribute__" == Value.builtin "object.__getattribute__") = false := by rw [hx2]; rfl
 have L1 := PySem.W.looks_findIn (M := model prog w) KX Z.ga
 have L2 := PySem.W.looks_findIn (M := model prog w) KX Z.gh
 unfold getAttr
 repeat (any_goals (first | assumption | (with_reducible refine wpAny_loadPart_at hx ?_; rw [hc]) | with_reducible refine L1.at ?_ | with_reducible refine L2.at ?_ | wp_step))
 refine abq KX Zf hC hbe hx hc hd hda hN hv ?_
 repeat (any_goals (first | assumption | wp_step))
 cases v <;> first | exact wpAny_pure hq | exact absurd rfl (hvb _)
theorem Wo {M : Model} {Q : Unit -> Shared -> Prop} (T : OwnTail h [.type "ValueError", .type "Exception", .type "BaseException", .type "object"] bm) (hC : h.get? C = some (excClassObj nm q C N bs bm hdct sn sub ab col dd k0 k1 k2 k3 k5 newId))
  (hx : h.get? a = some o) (hc : o.cls = .ref C) (hq : Q () ⟨h, g, d, t, os⟩) : wpAny M A (Builtin.ObjectAttr.refuseIfOverridden (.ref a) "__setattr__") Q E ⟨h, g, d, t, os⟩ := by
 have key : ∀ {tl : List Value}, OwnTail h [.type "ValueError", .type "Exception", .type "BaseException", .type "object"] tl -> ∀ (bd : Value -> Option Unit × Unit -> Sem (ForInStep (Option Unit × Unit))) (R : Option Unit × Unit -> Shared -> Prop), (∀ b r, bd (.ref b) r = pure (ForInStep.yield (none, ()))) ->
   wpAny M A (forIn [.type "ValueError", .type "Exception", .type "BaseException", .type "object"] (none, ()) bd) R E ⟨h, g, d, t, os⟩ -> wpAny M A (forIn tl (none, ()) bd) R E ⟨h, g, d, t, os⟩ := by
  intro tl T bd R hb hw
  induction T with
  | base => exact hw
  | own _ _ _ _ ih =>
   rw [List.forIn_cons, hb]
   exact wpAny_bind (wpAny_pure ih)
 unfold Builtin.ObjectAttr.refuseIfOverridden typeOf
 repeat (any_goals (first | assumption | (with_reducible refine wpAny_loadPart_at hx ?_; rw [hc]) | with_reducible refine wpAny_mroOf_exc hC ?_ | with_reducible refine wpAny_bind ?_))
 refine wpAny_pure (wpAny_bind (wpAny_mroOf_exc hC (wpAny_bind ?_)))
 rw [List.forIn_cons]
 refine wpAny_bind (wpAny_pure ?_)
 try dsimp only
 refine key T _ _ (fun b r => rfl) ?_
 have own1 : ∀ n, n = "ValueError" \/ n = "Exception" \/ n = "BaseException" -> classOwn (.type n) (Str.ofString "__setattr__") = pure none := by
  rintro n (rfl | rfl | rfl) <;> with_unfolding_all rfl
 have o1 := own1 "ValueError" (by simp)
 have o2 := own1 "Exception" (by simp)
 have o3 := own1 "BaseException" (by simp)
 have o4 := F.own_object_setattr
 repeat (any_goals (first | assumption | wp_step))
theorem ZC {tk : Tok} {f : Str} {v : Value} {vs : Array Value} {Q : Fin -> Shared -> Prop} (KX : K.In h) (T : OwnTail h [.type "ValueError", .type "Exception", .type "BaseException", .type "object"] bm) (Zf : PySem.W.findIn K (.ref C) f = some none) (hC : h.get? C = some (excClassObj nm q C N bs bm true sn sub ab col dd k0 k1 k2 k3 k5 newId))
  (hx : h.get? a = some ⟨.ref C, none, .fields vs, #[]⟩) (hq : ∀ h' tk', (∀ b o, b ≠ a -> h.get? b = some o -> h'.get? b = some o) -> h'.get? a = some ⟨.ref C, some h.objs.size, .fields vs, #[]⟩ -> h'.Ns1 h.objs.size (fun y => if y = f then some v else none) -> Q (.done (.ret .none)) ⟨h', g, d, tk', os⟩) :
  wpAny (model prog w) A (Builtin.«object.__setattr__» ⟨[.ref a, .str f tk, v], []⟩) Q E ⟨h, g, d, t, os⟩ := by
 have LK := PySem.W.looks_findIn (M := model prog w) KX Zf
 unfold Builtin.«object.__setattr__»
 dsimp only [List.isEmpty]
 rw [if_neg (by decide)]
 refine wpAny_bind (Wo T hC hx rfl ?_)
 have hlt : a < h.objs.size := Heap.lt_size hx
 have e1 : ((h.push { cls := Value.type "dict", data := Data.dict #[] }).update a fun o => { cls := o.cls, dict := some h.objs.size, data := o.data, slots := o.slots }).get? h.objs.size = some { cls := Value.type "dict", data := Data.dict #[] } :=
  Heap.get?_update_of_ne _ (Nat.ne_of_lt hlt) (Heap.get?_push_at rfl rfl)
 have e2 : ((h.push { cls := Value.type "dict", data := Data.dict #[] }).update a fun o => { cls := o.cls, dict := some h.objs.size, data := o.data, slots := o.slots }).get? a = some ⟨.ref C, some h.objs.size, .fields vs, #[]⟩ :=
  Heap.get?_update_self _ (Heap.get?_push_of_some _ hx) rfl
 have e3 : ∀ b o, b ≠ a -> h.get? b = some o -> ((h.push { cls := Value.type "dict", data := Data.dict #[] }).update a fun o => { cls := o.cls, dict := some h.objs.size, data := o.data, slots := o.slots }).get? b = some o := fun b o hb e =>
  Heap.get?_update_of_ne _ (Ne.symm hb) (Heap.get?_push_of_some _ e)
 have n1 : ((h.push { cls := Value.type "dict", data := Data.dict #[] }).update a fun o => { cls := o.cls, dict := some h.objs.size, data := o.data, slots := o.slots }).Ns1 h.objs.size (fun _ => none) := ⟨_, #[], 0, e1, rfl, by intro e he; simp at he, by simp [UniqKeys], fun _ => rfl⟩
 repeat (any_goals (first | assumption | (with_reducible refine wpAny_nsSet1 (m := fun _ => none) ?_ ?_) | (with_reducible refine wpAny_loadPart_at hx ?_) | with_reducible refine LK.at ?_ | wp_step))
 intro h' hn sb
 obtain ⟨o', es, ep, g1, g2, hcnt⟩ := hn.count (ns := [f]) (fun y hy => by
  by_cases e : y = f
  ·rw [e]; simp
  ·exact absurd (if_neg e) hy)
 refine wpAny_bind (wpAny_lookBehind g1 (by rw [g2]; exact pastItsLine_dict (Nat.le_trans hcnt (by simp))) (wpAny_pure (hq h' _ (fun b o hb e => ?_) ?_ hn)))
 ·rw [sb.2 b (Nat.ne_of_lt (Heap.lt_size e))]
  exact e3 b o hb e
 ·rw [sb.2 a (Nat.ne_of_lt hlt)]
  exact e2
theorem acC {f : Str} {v : Value} {vs : Array Value} {Q : Unit -> Shared -> Prop} (KX : K.In h) (T : OwnTail h [.type "ValueError", .type "Exception", .type "BaseException", .type "object"] bm) (Zf : PySem.W.findIn K (.ref C) f = some none) (Zs : PySem.W.findIn K (.ref C) "__setattr__" = some (some (.builtin "object.__setattr__"))) (hC : h.get? C = some (excClassObj nm q C N bs bm true sn sub ab col dd k0 k1 k2 k3 k5 newId))
  (hx : h.get? a = some ⟨.ref C, none, .fields vs, #[]⟩) (hq : ∀ h' tk', (∀ b o, b ≠ a -> h.get? b = some o -> h'.get? b = some o) -> h'.get? a = some ⟨.ref C, some h.objs.size, .fields vs, #[]⟩ -> h'.Ns1 h.objs.size (fun y => if y = f then some v else none) -> Q () ⟨h', g, d, tk', os⟩) :
  wpAny (model prog w) A (setAttr (.ref a) f v) Q E ⟨h, g, d, t, os⟩ := by
 have L1 := PySem.W.looks_findIn (M := model prog w) KX Zs
 have hcB : (Value.ref C :: bm).contains (.type "object") = true := by rw [List.contains_cons, T.hasType (by decide : _ = true), Bool.or_true]
 have f3 := F.slot_object_setattr.bind (.ref a)
 unfold setAttr
 repeat (any_goals (first | assumption | (with_reducible refine wpAny_loadPart_at hx ?_) | with_reducible refine L1.at ?_ | wp_step))
 have hk := F.bk_object_setattr
 have hsplit := F.sp_object_setattr
 have hargs := F.args_object_setattr_3 (.ref a) (.str f t) v
 have ck : ∀ {M : Model} {A' : Around} {E' : Value -> Shared -> Prop} {Q' : Unit -> Shared -> Prop} {t' : Nat}, Q' () ⟨h, g, d, t', os⟩ -> wpAny M A' (checkBuiltinCall "object.__setattr__" ⟨[.ref a, .str f t, v], []⟩) Q' E' ⟨h, g, d, t', os⟩ := by
  intro M A' E' Q' t' hq'
  simp only [checkBuiltinCall, hk, hsplit]
  refine wpAny_bind ?_
  unfold isInstance
  repeat (first | (with_reducible refine wpAny_loadPart_at hx ?_) | (with_reducible refine wpAny_isSubtype_exc hC ?_; rw [hcB]) | wp_step)
  exact hq'
 refine codeAny_call_builtin (by decide +kernel) F.entry_object_setattr (ck (ZC KX T Zf hC hx fun h' tk' q1 q2 q3 => ?_))
 exact wpAny_pure (wpAny_pure (hq h' tk' q1 q2 q3))
theorem Xc {M : Model} {env : Env} {s : Shared} {x : Sem Value} {Q : Flow -> Shared -> Prop} (hB : bm.contains (.type "BaseException") = true) (hh : A.handled = none)
  (hx : wpAny M A x (fun v s₁ => ∃ e oe vs, v = .ref e /\ s₁.heap.get? C = some (excClassObj nm q C N bs bm hdct sn sub ab col dd k0 k1 k2 k3 k5 newId) /\ s₁.heap.get? e = some oe /\ oe.cls = .ref C /\ oe.data = .fields vs /\ vs[1]? = some .none /\ E (.ref e) s₁) E s) :
  wpAny M A (raiseStmt env (some x) none) Q E s := by
 unfold raiseStmt
 refine wpAny_bind (wpAny_mono hx (fun v s₁ hv => ?_) fun _ _ z => z)
 obtain ⟨e, oe, vs, rfl, gC, ge, gc, gd, g1, hE⟩ := hv
 obtain ⟨h, g, d, t, os⟩ := s₁
 have hcB : (Value.ref C :: bm).contains (.type "BaseException") = true := by rw [List.contains_cons, hB, Bool.or_true]
 repeat (any_goals (first | assumption | (with_reducible refine wpAny_loadPart_at ge ?_; try rw [gc]) | (with_reducible refine wpAny_loadPart_at gC ?_) | (with_reducible refine wpAny_isSubtype_exc gC ?_; rw [hcB]) | wp_step))
 rw [gd]
 refine wpAny_pure ?_
 try dsimp only
 rw [g1]
 refine wpAny_pure ?_
 try dsimp only
 rw [if_neg (by decide)]
 exact wpAny_pure (wpAny_raiseNew_none hh hE)
end
end L2
namespace L2
open PySem PySem.Spec PyProof.Rows
structure XClsI (K : Fg_) (C fI : Addr) : Prop where
 ex : ∃ (nm qn : Str) (N : Addr) (bs bm : List Value) (sn : List Str) (sub : List Value) (ab : Bool) (col : Option Bool) (dd : Option Addr) (k0 k1 k2 k3 k5 : Option Value), K.lookup C = some (excClassObj nm qn C N bs bm true sn sub ab col dd k0 k1 k2 k3 k5 "ValueError.__new__") /\ PySem.W.tailIn K [.type "ValueError", .type "Exception", .type "BaseException", .type "object"] bm = true
 ini : PySem.W.findIn K (.ref C) "__init__" = some (some (.ref fI))
 fn : PySem.W.isFn K (.ref fI) = true
 sa : PySem.W.findIn K (.ref C) "__setattr__" = some (some (.builtin "object.__setattr__"))
 kp : PySem.W.keepIn K (.ref C) = true
theorem XClsI.obj {K : Fg_} {C fI : Addr} {h : Heap} (c : XClsI K C fI) (X : K.In h) : ∃ (nm qn : Str) (N : Addr) (bs bm : List Value) (sn : List Str) (sub : List Value) (ab : Bool) (col : Option Bool) (dd : Option Addr) (k0 k1 k2 k3 k5 : Option Value),
  h.get? C = some (excClassObj nm qn C N bs bm true sn sub ab col dd k0 k1 k2 k3 k5 "ValueError.__new__") /\ OwnTail h [.type "ValueError", .type "Exception", .type "BaseException", .type "object"] bm := by
 obtain ⟨nm, qn, N, bs, bm, sn, sub, ab, col, dd, k0, k1, k2, k3, k5, e1, e2⟩ := c.ex
 exact ⟨nm, qn, N, bs, bm, sn, sub, ab, col, dd, k0, k1, k2, k3, k5, X _ _ e1, PySem.W.tail_of_in X e2⟩
theorem XClsI.fun_ {K : Fg_} {C fI : Addr} {h : Heap} (c : XClsI K C fI) (X : K.In h) : ∃ o, h.get? fI = some o /\ o.cls = .type "function" := by
 have e : PySem.W.typeIn K (.ref fI) = some (.type "function") := beq_iff_eq.mp c.fn
 unfold PySem.W.typeIn at e
 dsimp only at e
 cases q : List.lookup fI K with
 | none => rw [q] at e; cases e
 | some o => rw [q] at e; exact ⟨o, X _ _ q, Option.some.inj e⟩
def VJ (C e : Addr) : HO := .ext fun h => ∃ t0, h.get? e = some ⟨.ref C, none, .fields #[t0, .none, .none, .none, .bool false, .none], #[]⟩
def NZ (C e d : Addr) : HO := .ext fun h => ∃ t0, h.get? e = some ⟨.ref C, some d, .fields #[t0, .none, .none, .none, .bool false, .none], #[]⟩
def Qg (C e d : Addr) : HO := .ext fun h => ∃ o vs, h.get? e = some o /\ o.cls = .ref C /\ o.dict = some d /\ o.data = .fields vs
def del (H : Hp) (a : Addr) : Hp := fun b => if b = a then none else H b
theorem QS {H : Hp} {a : Addr} : del H a a = none := by unfold del; rw [if_pos rfl]
theorem Nr {H : Hp} {a b : Addr} (h : b ≠ a) : del H a b = H b := by unfold del; rw [if_neg h]
section
variable {X : Cx} {CX : CXT} {k : Nat} {f C : Addr} {fd : FuncData} {ps ks : List Str} {sp : Sp} {dvs : List V} {ds : List Value} {E : XK} {x m fn : Str} {p np cpos pos apos : Pos} {e o : Expr} {es : List Expr} {ta tv : TE} {t tk : TA}
theorem Inv.drop {pins : List (Addr × Obj)} {σ : St} {H : Hp} {s : Shared} {a : Addr} {φ : Heap -> Prop} (I : Inv X pins σ H s) (hH : H a = some (.ext φ)) : Inv X pins σ (del H a) s := by
 have nt : ∀ b xs, H b = some (.tup xs) -> b ≠ a := fun b xs n z => by rw [z, hH] at n; cases n
 have nw : ∀ b y, H b = some (.own y) -> b ≠ a := fun b y n z => by rw [z, hH] at n; cases n
 have ntb : ∀ b ps, H b = some (.tbl ps) -> b ≠ a := fun b y n z => by rw [z, hH] at n; cases n
 have nf : ∀ b o u, H b = some (.frz o u) -> b ≠ a := fun b o u n z => by rw [z, hH] at n; cases n
 have dn : ∀ b, H b = none -> del H a b = none := fun b n => by unfold del; split; rfl; exact n
 refine ⟨I.ok, I.os, I.bare, ⟨I.base.keep, I.base.slot, fun b ob q n hx => dn b (I.base.free b ob q n hx), I.base.there, fun b xs q => ?_, fun b ob u q => ?_, fun b ps q => ?_⟩, I.loc, I.cell, dn _ I.free, fun x c e => dn _ (I.freeC x c e), fun p hp => ?_, fun b u e => ?_, I.len⟩
 ·have h := I.base.tups b xs q; rw [Nr (nt b xs h)]; exact h
 ·have h := I.base.frzs b ob u q; rw [Nr (nf b ob u h)]; exact h
 ·obtain ⟨m, h⟩ := I.base.tbls b ps q; exact ⟨m, by rw [Nr (ntb b _ h)]; exact h⟩
 ·obtain ⟨p1, p2, p3⟩ := I.pin p hp; exact ⟨p1, dn _ p2, p3⟩
 ·have hb : b ≠ a := fun z => by rw [z, QS] at e; cases e
  rw [Nr hb] at e
  exact (I.hok b u e).stay (fun _ _ _ q => q) (fun c q => by rw [Nr (nw c _ q)]; exact q) fun c xs q => by rw [Nr (nt c xs q)]; exact q
theorem Inv.track {pins : List (Addr × Obj)} {σ : St} {H : Hp} {s : Shared} {a : Addr} {u : HO} (I : Inv X pins σ H s) (hn : H a = none) (h0 : X.s₀.heap.objs.size <= a) (hL : a ≠ X.env.locals) (hc : ∀ x c, X.env.cells.lookup x = some c -> c ≠ a) (hp : ∀ p ∈ X.pn ++ pins, p.1 ≠ a) (ok : ObjOk X.prog X.w (upd H a u) s.heap a u) :
  Inv X pins σ (upd H a u) s := by
 have ns : ∀ b v, H b = some v -> b ≠ a := fun b v q z => by rw [z, hn] at q; cases q
 refine ⟨I.ok, I.os, I.bare, ⟨I.base.keep, I.base.slot, fun b ob q n hx => ?_, I.base.there, fun b xs q => ?_, fun b ob v q => ?_, fun b ps q => ?_⟩, I.loc, I.cell, ?_, fun x c e => ?_, fun p hp' => ?_, fun b v e => ?_, I.len⟩
 ·rw [Aj (Nat.ne_of_lt (Nat.lt_of_lt_of_le (Heap.lt_size q) h0))]; exact I.base.free b ob q n hx
 ·have h := I.base.tups b xs q; rw [Aj (ns _ _ h)]; exact h
 ·have h := I.base.frzs b ob v q; rw [Aj (ns _ _ h)]; exact h
 ·obtain ⟨m, h⟩ := I.base.tbls b ps q; exact ⟨m, by rw [Aj (ns _ _ h)]; exact h⟩
 ·rw [Aj (Ne.symm hL)]; exact I.free
 ·rw [Aj (hc x c e)]; exact I.freeC x c e
 ·obtain ⟨p1, p2, p3⟩ := I.pin p hp'; exact ⟨p1, by rw [Aj (hp p hp')]; exact p2, p3⟩
 ·by_cases hb : b = a
  ·subst hb; rw [Ae] at e; cases e; exact ok
  ·rw [Aj hb] at e
   exact (I.hok b v e).stay (fun _ _ _ q => q) (fun c q => by rw [Aj (ns _ _ q)]; exact q) fun c xs q => by rw [Aj (ns _ _ q)]; exact q
theorem Yq {pins : List (Addr × Obj)} {σ : St} {H : Hp} {s : Shared} {Q : Addr -> Hp -> Prop} {us : List Value} {vs : List V} (M : XClsI X.K C f) (F : FnOk X.prog X.w X.K X.mg X.base CX0 k f fd ps sp) (hr : Room (k + 1) X.A) (hb : Binds X.K fd ps ds) (hd : Vals dvs ds)
  (I : Inv X pins σ H s) (r : Vals vs us) (hz : vs.length <= sizeLine)
  (h : ∀ e, H e = none -> sp (.ref e :: (vs ++ dvs)) (upd H e (VJ C e)) (fun v H2 => v = .non /\ Q e H2) E0) :
  wpAny (model X.prog X.w) X.A (call (.ref C) us) (fun u s' => ∃ e H', u = .ref e /\ X.s₀.heap.objs.size <= e /\ Inv X pins σ H' s' /\ Q e H') X.xe s := by
 obtain ⟨nm, qn, N, bs, bm, sn, sub, ab, col, dd, k0, k1, k2, k3, k5, g1, g2⟩ := M.obj I.kIn
 obtain ⟨oI, g3, g4⟩ := M.fun_ I.kIn
 have hsz := I.sz
 have hkin := I.kIn
 have hq := h (s.heap.objs.size + 1) (I.hok.fresh (Nat.le_succ _))
 obtain ⟨h0, g, d, tt, os⟩ := s
 refine adG (K := X.K) hkin PySem.F.excBase_ValueError g2 g1 M.ini g3 g4 (by rw [<- r.length]; exact hz) fun h' mk => ?_
 obtain ⟨t0, q1, q2, q3⟩ := mk.there
 have I2 : Inv X pins σ (upd H (h0.objs.size + 1) (VJ C (h0.objs.size + 1))) ⟨h', g, d, tt, os⟩ := I.laid (t' := tt) mk.keeps (Nat.le_succ _) (show ObjOk _ _ _ _ _ (VJ C _) from ⟨⟨_, q1⟩, ⟨_, q1⟩, fun h1 h2 ⟨t1, z⟩ kk => ⟨t1, kk _ z⟩⟩)
 have r2 : Vals (V.ref (h0.objs.size + 1) :: (vs ++ dvs)) (Value.ref (h0.objs.size + 1) :: (us ++ ds)) := .cons rfl (r.append hd)
 have hl : (Value.ref (h0.objs.size + 1) :: us ++ ds).length = ps.length := by
  have e := r2.length
  rw [F.len _ _ _ _ hq] at e
  exact e.symm
 refine codeAny_mono (F.run _ X.stack _ _ ⟨Value.ref (h0.objs.size + 1) :: us, []⟩ (Value.ref (h0.objs.size + 1) :: (us ++ ds)) _ _ E0 (hr.make C us []) (I2.env0.make C us []) (hb _ (Value.ref (h0.objs.size + 1) :: us) I2.kIn hl) r2 hq) fun r s' hq' => ?_
 cases r with
 | error e => exact False.elim hq'
 | ok fl =>
  cases fl with
  | ret u =>
   obtain ⟨v, H', I3, rv, ev, q3⟩ := I2.after hq'
   subst ev
   exact ⟨rv, ⟨_, H', rfl, Nat.le_trans hsz (Nat.le_succ _), I3, q3⟩⟩
  | next => exact False.elim hq'
  | brk => exact False.elim hq'
  | cont => exact False.elim hq'
def Zc (X : Cx) (E : XK) : Prop := ∀ (pins : List (Addr × Obj)) (σ : St) (H : Hp) (s : Shared) (e C d : Addr) (t0 : Value), Inv X pins σ H s -> s.heap.get? e = some ⟨.ref C, some d, .fields #[t0, .none, .none, .none, .bool false, .none], #[]⟩ -> H e = none -> X.s₀.heap.get? e = none -> E (.ref C) (some d) H -> X.xe (.ref e) s
theorem Qp {P : Program} {w : World} {K : Fg_} {mg : Str -> Option Value} {base : Heap} {N : List Str} {qual : Str} {scope : Scope} {f : Addr} {cd : Value} {A : Around} {outer : List Env} {s₀ : Shared} {H₀ : Hp} {E : XK} : Zc (Lk (CX1 P w) P w K mg base N qual scope f cd A outer s₀ H₀ E) E :=
 fun pins σ H s e C d t0 I he hH hs hE => WR I he rfl rfl rfl rfl hH hs hE
def Uy (C : Addr) (fn : Str) : Sp := fun vs H Q _ => ∃ (e : Addr) (n : Int), vs = [.ref e, .int n] /\ n.natAbs < 2 ^ 300 /\ H e = some (VJ C e) /\ ∀ d, H d = none -> d ≠ e -> Q .non (upd (upd H e (NZ C e d)) d (.xd [(fn, .int n)]))
def YG (C : Addr) (fn : Str) (E : XK) (t : TA) : TS := fun _ σ H => t σ H fun vs H1 => ∃ n : Int, vs = [.int n] /\ n.natAbs < 2 ^ 300 /\ ∀ d, H1 d = none -> E (.ref C) (some d) (upd H1 d (.xd [(fn, .int n)]))
theorem TJ (hR : Zc X E) (hc : X.calm = true) (M : XClsI X.K C f) (F : FnOk X.prog X.w X.K X.mg X.base CX0 k f fd ps (Uy C fn)) (hr : Room (k + 1) X.A) (hg : Gl X x) (hm : X.mg x = some (.ref C)) (hb : Binds X.K fd ps [])
  (ha : PA X (e :: es) t) (hdb : (x == ("__debug__" : Str)) = false := by decide) (he : starEach (e :: es) X.env = (false, eval e X.env) :: starEach es X.env := by rfl) (hpl : (backTo cpos (starEach es X.env)).any (·.1) = false := by rfl) :
  PS X (.Raise (some (.Call (.Name x np) (e :: es) [] cpos)) none pos) (YG C fn E t) := by
 intro pins s σ H D I h
 rw [arm_exec_Raise]
 obtain ⟨nm, qn, N, bs, bm, sn, sub, ab, col, dd, k0, k1, k2, k3, k5, g1, g2⟩ := M.obj I.ok.mod.kin
 refine wpAny_bind (wpAny_standAt (Xc (C := C) (nm := nm) (q := qn) (N := N) (bs := bs) (bm := bm) (hdct := true) (sn := sn) (sub := sub) (ab := ab) (col := col) (dd := dd) (k0 := k0) (k1 := k1) (k2 := k2) (k3 := k3) (k5 := k5) (newId := "ValueError.__new__") (g2.hasType (by rfl)) (I.ok.hd hc) ?_))
 refine wpAny_bind (wpAny_Call_Name_kw (Jf I hg hm ?_ hdb))
 refine PySem.W.callWith_K (h₀ := X.base) I.ok.mod.kin M.kp (thn (ha cpos pins s σ H _ I h) fun us s1 ⟨vs, H1, I1, r, n, ev, hn, q⟩ => ⟨I1.kIn, ?_⟩) he hpl
 refine thn (Yq (dvs := []) (ds := []) (Q := fun e H2 => ∃ d, H2 e = some (NZ C e d) /\ E (.ref C) (some d) (del H2 e)) M F hr hb .nil I1 r (by rw [ev, sizeLine_eq]; show 1 <= _; omega) fun e he => ?_) fun u s2 ⟨e, H2, eu, hsz, I2, d, q2, q3⟩ => ?_
 ·subst ev
  refine ⟨e, n, rfl, hn, Ae, fun d hd hde => ⟨rfl, d, ?_, ?_⟩⟩
  ·rw [Aj (Ne.symm hde), Ae]
  ·have hd' : H1 d = none := by rw [Aj hde] at hd; exact hd
   have e1 : del (upd (upd (upd H1 e (VJ C e)) e (NZ C e d)) d (.xd [(fn, .int n)])) e = upd H1 d (.xd [(fn, .int n)]) := by
    funext b
    by_cases hb : b = e
    ·subst hb
     rw [QS, Aj (Ne.symm hde), he]
    ·rw [Nr hb]
     by_cases hb2 : b = d
     ·subst hb2; rw [Ae, Ae]
     ·rw [Aj hb2, Aj hb2, Aj hb, Aj hb]
   rw [e1]
   exact q d hd'
 ·subst eu
  refine wpAny_bind (wpAny_standAt (wpAny_pure ?_))
  obtain ⟨⟨t0, gx⟩, _, _⟩ := (show ObjOk X.prog X.w H2 s2.heap e (NZ C e d) from I2.hok e _ q2)
  exact ⟨e, _, _, rfl, I2.bk _ _ g1, gx, rfl, rfl, rfl, hR pins σ (del H2 e) s2 e C d t0 (I2.drop q2) gx QS (Heap.get?_none_of_le hsz) q3⟩
structure XIni (K : Fg_) (B : Addr) : Prop where
 ga : PySem.W.specialIn K (.ref B) "__getattribute__" = some (some (.builtin "type.__getattribute__"))
 rd : PySem.W.readsIn K B (.type "type") = true
 fi : PySem.W.findCls K (.ref B) (.type "type") "__init__" = some (.val (.builtin "ValueError.__init__"))
def abn (K : Fg_) (t : TA) : TE := fun σ H Q => t σ H fun vs H1 => ∃ e C fI z, vs = [.ref e, .str z] /\ H1 e = some (VJ C e) /\ XClsI K C fI /\ Q .non H1
theorem abC {B : Addr} {pl : Sem Bool} (Z : XIni X.K B) (hg : Gl X x) (hm : X.mg x = some (.ref B))
  (ha : PA X (e :: es) t) (hdb : (x == ("__debug__" : Str)) = false := by decide) (he : starEach (e :: es) X.env = (false, eval e X.env) :: starEach es X.env := by rfl) (hpl : (backTo pos (starEach es X.env)).any (·.1) = false := by rfl)
  (ht : eval (.Call (.Attribute (.Name x p) "__init__" apos) (e :: es) [] pos) X.env = (do
   let ov <- eval (.Name x p) X.env
   standAt apos.atName
   let (f, first) <- holding [ov] (getMethod ov "__init__" pl)
   callWith pos f first (backTo pos (starEach (e :: es) X.env)) (backToKw pos (keywordEach [] X.env))) := by rfl) :
  PE X (.Call (.Attribute (.Name x p) "__init__" apos) (e :: es) [] pos) (abn X.K t) := by
 intro pins s σ H Q I h
 refine PySem.W.methodCall_KW (pl := pl) (Jf I hg hm ?_ hdb) ht
 refine PySem.W.method_cls I.kIn Z.ga (PySem.W.cls_value I.kIn Z.rd Z.fi rfl ?_)
 have I' : Inv X pins σ H { s with toks := s.toks + 1 } := I.tok _
 refine PyProof.Rows.callWith_builtin1 (thn (ha pos pins _ σ H _ I' h) fun us s1 ⟨vs, H1, I1, r, ea, C, fI, z, ev, hH, M, q⟩ => ?_) he hpl
 subst ev
 obtain ⟨u1, u2, rfl, r1, r2⟩ := vals2 r
 cases r1
 obtain ⟨tk, rfl⟩ := r2
 obtain ⟨nm, qn, N, bs, bm, sn, sub, ab, col, dd, k0, k1, k2, k3, k5, g1, g2⟩ := M.obj I1.kIn
 obtain ⟨⟨t0, gx⟩, _, _⟩ := (show ObjOk X.prog X.w H1 s1.heap ea (VJ C ea) from I1.hok ea _ hH)
 have hlt := Heap.lt_size gx
 obtain ⟨h0, g, d, tt, os⟩ := s1
 refine wpAny_call (abG (z := z) (tk := tk) PySem.F.excBase_ValueError g2 g1 gx fun h' eh => ?_)
 have e1 : h'.get? ea = some ⟨.ref C, none, .fields #[.ref h0.objs.size, .none, .none, .none, .bool false, .none], #[]⟩ := by
  rw [eh]
  exact Heap.get?_update_self (o := ⟨.ref C, none, .fields #[t0, .none, .none, .none, .bool false, .none], #[]⟩) _ (Heap.get?_push_of_some _ gx) rfl
 have e2 : ∀ b u, b ≠ ea -> h0.get? b = some u -> h'.get? b = some u := fun b u hb e => by
  rw [eh]
  exact Heap.get?_update_of_ne _ (Ne.symm hb) (Heap.get?_push_of_some _ e)
 have I2 : Inv X pins σ (upd H1 ea (VJ C ea)) ⟨h', g, d, tt, os⟩ := I1.write (t' := tt) (x := ea) (e := ea) (by rw [hH]; exact True.intro) (.inl rfl) e2 ⟨_, e1⟩ (show ObjOk _ _ _ _ _ (VJ C ea) from ⟨⟨_, e1⟩, ⟨_, e1⟩, fun h1 h2 ⟨t1, z⟩ kk => ⟨t1, kk _ z⟩⟩)
 have eH : upd H1 ea (VJ C ea) = H1 := by
  funext b
  by_cases hb : b = ea
  ·subst hb; rw [Ae, hH]
  ·rw [Aj hb]
 rw [eH] at I2
 exact ⟨.non, H1, I2, rfl, q⟩
def abo (K : Fg_) (ta tv : TE) (f : Str) : TS := fun D σ H => tv σ H fun y H1 => ta σ H1 fun x H2 => ∃ e C fI, x = .ref e /\ H2 e = some (VJ C e) /\ XClsI K C fI /\ NoAttr K C f /\ ∀ d, H2 d = none -> d ≠ e -> D.nx σ (upd (upd H2 e (NZ C e d)) d (.xd [(f, y)]))
theorem ace {pos' : Pos} {value : Expr} (ha : PE X o ta) (hv : PE X value tv) (hs : swapsWith value (some (.Attribute o fn pos')) pos.line X.env = pure false) : PS X (.Assign [.Attribute o fn pos'] value pos) (abo X.K ta tv fn) := by
 intro pins s σ H D I h
 refine plainObj_wpAny_Assign_Attribute (thn (hv pins s σ H _ I h) fun u s1 ⟨y, H1, I1, ry, q⟩ => thn (ha pins s1 σ H1 _ I1 q) fun ov s2 ⟨x, H2, I2, rx, a, C, fI, ex, hH, M, n, q2⟩ => ?_) hs
 subst ex
 obtain rfl : ov = Value.ref a := rx
 obtain ⟨nm, qn, N, bs, bm, sn, sub, ab, col, dd, k0, k1, k2, k3, k5, g1, g2⟩ := M.obj I2.kIn
 obtain ⟨⟨t0, gx⟩, _, _⟩ := (show ObjOk X.prog X.w H2 s2.heap a (VJ C a) from I2.hok a _ hH)
 have hkin := I2.kIn
 have hlt := Heap.lt_size gx
 have hfr : H2 s2.heap.objs.size = none := I2.hok.fresh (Nat.le_refl _)
 obtain ⟨h0, g, d, tt, os⟩ := s2
 have hlt : a < h0.objs.size := hlt
 refine acC (K := X.K) hkin g2 n M.sa g1 gx fun h' tk' k1 k2 k3 => ?_
 have I3 : Inv X pins σ (upd H2 a (NZ C a h0.objs.size)) ⟨h', g, d, tk', os⟩ := I2.write (t' := tk') (x := a) (e := a) (by rw [hH]; exact True.intro) (.inl rfl) k1 ⟨_, k2⟩ (show ObjOk _ _ _ _ _ (NZ C a _) from ⟨⟨_, k2⟩, ⟨_, k2⟩, fun h1 h2 ⟨t1, z⟩ kk => ⟨t1, kk _ z⟩⟩)
 have hne : h0.objs.size ≠ a := Ne.symm (Nat.ne_of_lt hlt)
 refine ⟨σ, _, ?_, q2 h0.objs.size hfr hne⟩
 have hlo : X.env.locals < h0.objs.size := I2.lt
 refine I3.track (by rw [Aj hne]; exact hfr) I2.sz (Ne.symm (Nat.ne_of_lt hlo)) (fun x c e => ?_) (fun p hp => ?_) (show ObjOk _ _ _ _ _ (.xd [(fn, y)]) from ⟨_, k3, fun f' => ?_⟩)
 ·obtain ⟨v, ob, z, _⟩ := I2.cell x c e
  exact Nat.ne_of_lt (Heap.lt_size z)
 ·exact Nat.ne_of_lt (Heap.lt_size (I2.pin p hp).1)
 ·by_cases hf : f' = fn
  ·subst hf
   rw [if_pos rfl, show List.lookup f' [(f', y)] = some y by simp [List.lookup]]
   exact ry
  ·rw [if_neg hf, show List.lookup f' [(fn, y)] = none by simp [List.lookup, beq_eq_false_iff_ne.mpr hf]]
   exact True.intro
def abX (K : Fg_) (ta : TE) (f : Str) : TE := fun σ H Q => ta σ H fun x H1 => ∃ e C fI d fs n, x = .ref e /\ (H1 e = some (NZ C e d) \/ H1 e = some (Qg C e d)) /\ XClsI K C fI /\ XAsk K C /\ NoAttr K C f /\ H1 d = some (.xd fs) /\ fs.lookup f = some (.int n) /\ Q (.int n) H1
theorem abN (he : PE X e ta) (hb : attributeBase e fn X.env (eval e X.env) = eval e X.env) : PE X (.Attribute e fn pos) (abX X.K ta fn) := by
 intro pins s σ H Q I h
 refine Zj hb (thn (he pins s σ H _ I h) fun u s1 ⟨x, H1, I1, rx, a, C, fI, d, fs, n, ex, hH, M, Z, hn, hd, hl, q⟩ => ?_)
 subst ex
 obtain rfl : u = Value.ref a := rx
 obtain ⟨nm, qn, N, bs, bm, sn, sub, ab, col, dd, k0, k1, k2, k3, k5, g1, g2⟩ := M.obj I1.kIn
 have hob : ∃ o vs, s1.heap.get? a = some o /\ o.cls = .ref C /\ o.dict = some d /\ o.data = .fields vs := by
  rcases hH with hH | hH
  ·obtain ⟨⟨t0, gx⟩, _, _⟩ := (show ObjOk X.prog X.w H1 s1.heap a (NZ C a d) from I1.hok a _ hH)
   exact ⟨_, _, gx, rfl, rfl, rfl⟩
  ·obtain ⟨gx, _, _⟩ := (show ObjOk X.prog X.w H1 s1.heap a (Qg C a d) from I1.hok a _ hH)
   exact gx
 obtain ⟨ob, vs, o1, o2, o3, o4⟩ := hob
 obtain ⟨mA, hN, hr⟩ := (show ObjOk X.prog X.w H1 s1.heap d (.xd fs) from I1.hok d _ hd)
 obtain ⟨v, hv, rv⟩ := RelO.some_of (v := .int n) (o := mA fn) (by rw [<- hl]; exact hr fn)
 obtain ⟨tk, rfl⟩ := rv
 have hkin := I1.kIn
 have I2 := I1.tok (s1.toks + 1)
 obtain ⟨h0, g, dr, tt, os⟩ := s1
 exact acq (K := X.K) hkin Z hn g1 (g2.hasType (by rfl)) o1 o2 o3 o4 hN hv (fun id z => by cases z) ⟨.int n, H1, I2, ⟨_, rfl⟩, q⟩
theorem Inv.landedF {pins : List (Addr × Obj)} {σ : St} {H1 H' : Hp} {s1 s' : Shared} {ea C d : Addr} {a0 : Value} {B h6 : Heap} (I : Inv X pins σ H1 s1) (os : s'.os = s1.os) (bare : AllBare s'.gens) (un : Un (frs X.stack) [] H1 H' s1.heap s'.heap) (hok : HOk X.prog X.w H' B)
  (fl : Heap.FlyingW B X.stack ea (.ref C) a0 s'.heap) (k1 : ∀ b o, s1.heap.get? b = some o -> H1 b = none -> b ∉ frs X.stack -> B.get? b = some o) (k2 : ∀ b o, s1.heap.get? b = some o -> b ∉ frs X.stack -> ∃ o', B.get? b = some o') (hn : H' ea = none)
  (fl6 : Heap.FlyingW B X.stack ea (.ref C) a0 h6) (ups : s'.heap.UpToSlots h6) (hdd : DictIs h6 ea (some d)) : Inv X pins σ (upd H' ea (Qg C ea d)) { s' with heap := h6 } := by
 have st : ∀ b o, B.get? b = some o -> h6.get? b = some o := fl6.1
 have nea : ∀ b o, s1.heap.get? b = some o -> b ≠ ea := fun b o q z => by
  subst z
  by_cases hb : b ∈ frs X.stack
  ·obtain ⟨_, o2, q2, nd⟩ := fl6.2.2.1.mem hb
   obtain ⟨oe, vs, q3, _, dd, _⟩ := fl6.first
   rw [q2] at q3; cases q3
   exact nd vs dd
  ·obtain ⟨o', q'⟩ := k2 b o q hb
   rw [fl6.2.1] at q'; cases q'
 have q3 : ∀ b o, s1.heap.get? b = some o -> b ∈ frs X.stack -> ∃ o1, s'.heap.get? b = some o1 /\ (H1 b = none -> ∃ sl, o1 = { o with slots := sl }) /\ ∃ sl, h6.get? b = some { o1 with slots := sl } := fun b o q hb => by
  obtain ⟨_, o1, z1, nd⟩ := fl.2.2.1.mem hb
  refine ⟨o1, z1, fun n => ?_, ups b o1 z1 nd⟩
  obtain ⟨sl2, y2⟩ := un.slot b _ q n hb (by simp)
  rw [z1] at y2
  exact ⟨sl2, Option.some.inj y2⟩
 refine I.call' (ch := []) (s' := { s' with heap := h6 }) os ⟨fun b o q n hb _ => st b o (k1 b o q n hb), fun b o q n hb _ => ?_, fun b o q n _ => ?_, fun b o q _ => ?_, fun b xs z => ?_, fun b o xs z => ?_, fun b ps z => ?_⟩ (fun b u q => ?_) bare (fun b hb => absurd hb (by simp))
 ·obtain ⟨o1, _, e1, sl, e2⟩ := q3 b o q hb
  obtain ⟨sl1, rfl⟩ := e1 n
  exact ⟨sl, e2⟩
 ·rw [Aj (nea b o q)]
  exact un.free b o q n (by simp)
 ·by_cases hb : b ∈ frs X.stack
  ·obtain ⟨o1, _, _, sl, e2⟩ := q3 b o q hb
   exact ⟨_, e2⟩
  ·obtain ⟨o', q'⟩ := k2 b o q hb
   exact ⟨o', st b o' q'⟩
 ·have z' := un.tups b xs z
  rw [Aj (Bo z' hn)]; exact z'
 ·have z' := un.frzs b o xs z
  rw [Aj (Bo z' hn)]; exact z'
 ·obtain ⟨mo, z'⟩ := un.tbls b ps z
  exact ⟨mo, by rw [Aj (Bo z' hn)]; exact z'⟩
 ·by_cases hb : b = ea
  ·subst hb
   rw [Ae] at q; cases q
   obtain ⟨oe, vs, q3, cc, dd, _⟩ := fl6.first
   obtain ⟨o2, q4, q5⟩ := hdd
   rw [q3] at q4; cases q4
   exact ⟨⟨oe, vs, q3, cc, q5, dd⟩, ⟨oe, q3⟩, fun h1 h2 ⟨o, v2, e1, e2⟩ k => ⟨o, v2, k o e1, e2⟩⟩
  ·rw [Aj hb] at q
   exact (hok b u q).stay (fun c v _ z => st c v z) (fun c z => by rw [Aj (Bo z hn)]; exact z) fun c xs z => by rw [Aj (Bo z hn)]; exact z
theorem Ny {K : Fg_} {a C fI : Addr} (c : XClsI K C fI) (Z : XAsk K C) : PySem.W.KitX K (.ref a) (.ref C) (fun h => ∃ o, h.get? a = some o /\ o.cls = .ref C) where
 ty := fun M h _ ⟨o, e1, e2⟩ => e2 ▸ (PySem.W.Looks.ld e1).andThen .now
 it := fun M h X _ => by
  obtain ⟨nm, qn, N, bs, bm, sn, sub, ab, col, dd, k0, k1, k2, k3, k5, g1, _⟩ := c.obj X
  intro A' Q' E' s' k q
  unfold isType loadHead
  exact wpAny_bind (wpAny_loadPart (k _ _ g1) (wpAny_pure q))
 ne := fun h tp dd its n sl X htp => by
  obtain ⟨nm, qn, N, bs, bm, sn, sub, ab, col, dd, k0, k1, k2, k3, k5, g1, _⟩ := c.obj X
  refine Bool.eq_false_iff.mpr fun z => ?_
  have e : C = tp := Value.ref.inj (beq_iff_eq.mp z)
  subst e
  rw [g1] at htp
  exact absurd (show Value.type "type" = Value.type "tuple" from congrArg Obj.cls (Option.some.inj htp)) (by simp)
 ca := fun {prog w A E Q s} X ⟨o, e1, e2⟩ k => by
  obtain ⟨nm, qn, N, bs, bm, sn, sub, ab, col, dd, k0, k1, k2, k3, k5, g1, g4⟩ := c.obj X
  obtain ⟨h, g, d, t, os⟩ := s
  exact abi X Z g1 (g4.hasType rfl) (g4.hasType rfl) e1 e2 k
def adJ (K : Fg_) : List V -> Hp -> VK -> Prop := fun xs H Q => ∃ ea C c k, xs = [.ref ea, c] /\ (∃ d, H ea = some (Qg C ea d)) /\ (∃ fI, XClsI K C fI) /\ XAsk K C /\ ((∃ D, c = .ref D /\ PySem.W.kitOne K (.ref C) (.ref D) = some k) \/ (∃ T, c = .ty T /\ PySem.W.kitOne K (.ref C) (.type T) = some k)) /\ Q (.bl k) H
theorem aan : DQ X (.builtin "isinstance") (adJ X.K) := by
 intro pins s σ H vs us Q I r h
 obtain ⟨ea, C, c, k, rfl, ⟨d, hE⟩, ⟨fI, xc⟩, xa, hk, q⟩ := h
 obtain ⟨u, v, rfl, ru, rv⟩ := vals2 r
 cases ru
 obtain ⟨⟨o0, v0, hφ1, hφ2, _⟩, _, _⟩ := (show ObjOk X.prog X.w H s.heap ea (Qg C ea d) from I.hok ea _ hE)
 rcases hk with ⟨D, rfl, e⟩ | ⟨T, rfl, e⟩
 ·cases rv
  exact PySem.W.kia_one (Ny xc xa) I.kIn ⟨o0, hφ1, hφ2⟩ e (fun z => nomatch z) fun tk => ⟨.bl k, H, I.tok _, rfl, q⟩
 ·cases rv
  exact PySem.W.kia_one (Ny xc xa) I.kIn ⟨o0, hφ1, hφ2⟩ e (fun z => nomatch z) fun tk => ⟨.bl k, H, I.tok _, rfl, q⟩
def abE (K : Fg_) : List V -> Hp -> VK -> Prop := fun xs H Q => ∃ (ea C p : Addr) (cs : List Addr) (k : Bool), xs = [.ref ea, .ref p] /\ (∃ d, H ea = some (Qg C ea d)) /\ (∃ fI, XClsI K C fI) /\ XAsk K C /\ H p = some (.tup (cs.map V.ref)) /\ PySem.W.kitAny K (.ref C) (cs.map Value.ref) = some k /\ Q (.bl k) H
theorem Zg : DQ X (.builtin "isinstance") (abE X.K) := by
 intro pins s σ H vs us Q I r h
 obtain ⟨ea, C, p, cs, k, rfl, ⟨d, hE⟩, ⟨fI, xc⟩, xa, hp, e, q⟩ := h
 obtain ⟨u, v, rfl, ru, rv⟩ := vals2 r
 cases ru
 cases rv
 obtain ⟨⟨o0, v0, hφ1, hφ2, _⟩, _, _⟩ := (show ObjOk X.prog X.w H s.heap ea (Qg C ea d) from I.hok ea _ hE)
 obtain ⟨_, its, rit, o, ho, hcls, nn, hdat⟩ := (show ObjOk X.prog X.w H s.heap p (.tup (cs.map V.ref)) from I.hok p _ hp)
 have ei := Tw rit
 subst ei
 obtain ⟨oc, od, odt, osl⟩ := o
 dsimp only at hcls hdat
 subst hcls hdat
 exact PySem.W.kia_tup (Ny xc xa) I.kIn ⟨o0, hφ1, hφ2⟩ ho e (fun z => nomatch z) fun tk => ⟨.bl k, H, I.tok _, rfl, q⟩
def tFI (t : TE) : TE := fun σ H Q => t σ H fun v H1 => ∃ i : Int, v = .int i /\ i.natAbs < 2 ^ 300 /\ ∀ z : Str, z.length <= 10000 -> Q (.str z) H1
theorem Ma {i : Int} (h : i.natAbs < 2 ^ 300) : (Str.ofString (toString i)).length <= 400 := by
 have hn : i.natAbs.repr.length <= 300 := nat_repr_length_le (by decide) h
 have hl : ∀ s : String, (Str.ofString s).length = s.length := fun s => PySem.ofString_length s
 rw [hl]
 cases i with
 | ofNat n =>
  have : (toString (Int.ofNat n)) = n.repr := rfl
  rw [this]
  have hn : n.repr.length <= 300 := hn
  omega
 | negSucc n =>
  have : (toString (Int.negSucc n)) = "-" ++ (n + 1).repr := rfl
  rw [this, String.length_append]
  have hn : (n + 1).repr.length <= 300 := hn
  have : "-".length = 1 := rfl
  omega
theorem Xr {y z : Str} {j1 j2 : Nat} {p1 p2 p3 : Pos} {te : TE} (he : PE X e te) (h1 : y.length <= 1000 := by decide +kernel) (h2 : z.length <= 1000 := by decide +kernel) : PE X (.JoinedStr [.Constant (.str y) j1 p1, .FormattedValue e (-1) none p2, .Constant (.str z) j2 p3] pos) (tFI te) := by
 intro pins s σ H Q I h
 have e0 : ∀ z : Str, (Str.empty ++ z) = z := fun z => by
  show Str.mk (#[] ++ z.cps) = z
  rw [Array.empty_append]
 have la : ∀ y z : Str, (y ++ z).length = y.length + z.length := fun y z => by
  show (y.cps ++ z.cps).size = _
  rw [Array.size_append]; rfl
 refine wpAny_JoinedStr (Joins_cons (Calls.Constant_str ⟨y, _, rfl, ?_, Joins_cons (wpAny_FormattedValue_plain ?_)⟩))
 ·rw [e0, sizeLine_eq]; omega
 ·rw [e0]
  refine thn (he pins _ σ H _ (I.tok _) h) fun v s1 ⟨w, H1, I1, r1, i, ei, hi, q⟩ => ?_
  subst ei
  obtain ⟨t1, rfl⟩ := r1
  have hl := Ma hi
  have hlog : i.natAbs.log2 < 1920 := by
   by_cases h0 : i.natAbs = 0
   ·rw [h0]; decide
   ·have := (Nat.log2_lt h0 (k := 300)).mpr hi
    omega
  refine wpAny_formatField_int hlog ⟨_, _, rfl, by rw [la, sizeLine_eq]; omega, Joins_cons (Calls.Constant_str ⟨z, _, rfl, by rw [la, la, sizeLine_eq]; omega, Joins_nil ⟨by rw [la, la, sizeLine_eq]; omega, .str _, H1, I1.tok _, ⟨_, rfl⟩, q _ (by rw [la, la]; omega)⟩⟩)⟩
theorem Xg {y : Str} {j1 : Nat} {p1 p2 : Pos} {te : TE} (he : PE X e te) (h1 : y.length <= 1000 := by decide +kernel) : PE X (.JoinedStr [.Constant (.str y) j1 p1, .FormattedValue e (-1) none p2] pos) (tFI te) := by
 intro pins s σ H Q I h
 have e0 : ∀ z : Str, (Str.empty ++ z) = z := fun z => by
  show Str.mk (#[] ++ z.cps) = z
  rw [Array.empty_append]
 have la : ∀ y z : Str, (y ++ z).length = y.length + z.length := fun y z => by
  show (y.cps ++ z.cps).size = _
  rw [Array.size_append]; rfl
 refine wpAny_JoinedStr (Joins_cons (Calls.Constant_str ⟨y, _, rfl, ?_, Joins_cons (wpAny_FormattedValue_plain ?_)⟩))
 ·rw [e0, sizeLine_eq]; omega
 ·rw [e0]
  refine thn (he pins _ σ H _ (I.tok _) h) fun v s1 ⟨w, H1, I1, r1, i, ei, hi, q⟩ => ?_
  subst ei
  obtain ⟨t1, rfl⟩ := r1
  have hl := Ma hi
  have hlog : i.natAbs.log2 < 1920 := by
   by_cases h0 : i.natAbs = 0
   ·rw [h0]; decide
   ·have := (Nat.log2_lt h0 (k := 300)).mpr hi
    omega
  refine wpAny_formatField_int hlog ⟨_, _, rfl, by rw [la, sizeLine_eq]; omega, Joins_nil ⟨by rw [la, sizeLine_eq]; omega, .str _, H1, I1.tok _, ⟨_, rfl⟩, q _ (by rw [la]; omega)⟩⟩
end
section
variable {X : Cx} {K : Fg_} {C : Addr} {sp : Sp} {dvs : List V} {E : XK} {x fn : Str} {p pos apos pos' : Pos} {e o value : Expr} {es : List Expr} {ta tv : TE} {t : TA} {σ : St} {H : Hp} {Q : VK} {D : Ends} {te : TX} {i : Nat} {ts : TS} {ea pa : Addr} {c : V}
theorem VN {B : Addr} {pl : Sem Bool} (Z : XIni K B) (hg : Gl X x) (hm : X.mg x = some (.ref B)) (ha : PA X (e :: es) t) (hK : X.K = K := by rfl) (hdb : (x == ("__debug__" : Str)) = false := by decide) (he : starEach (e :: es) X.env = (false, eval e X.env) :: starEach es X.env := by rfl) (hpl : (backTo pos (starEach es X.env)).any (·.1) = false := by rfl)
  (ht : eval (.Call (.Attribute (.Name x p) "__init__" apos) (e :: es) [] pos) X.env = (do
   let ov <- eval (.Name x p) X.env
   standAt apos.atName
   let (f, first) <- holding [ov] (getMethod ov "__init__" pl)
   callWith pos f first (backTo pos (starEach (e :: es) X.env)) (backToKw pos (keywordEach [] X.env))) := by rfl) : PE X (.Call (.Attribute (.Name x p) "__init__" apos) (e :: es) [] pos) (abn K t) := by
 subst hK
 exact abC Z hg hm ha hdb he hpl ht
theorem Vy (ha : PE X o ta) (hv : PE X value tv) (hs : swapsWith value (some (.Attribute o fn pos')) pos.line X.env = pure false) (hK : X.K = K := by rfl) : PS X (.Assign [.Attribute o fn pos'] value pos) (abo K ta tv fn) := hK ▸ ace ha hv hs
theorem aaG (he : PE X e ta) (hb : attributeBase e fn X.env (eval e X.env) = eval e X.env) (hK : X.K = K := by rfl) : PE X (.Attribute e fn pos) (abX K ta fn) := hK ▸ abN he hb
theorem Nv (hK : X.K = K := by rfl) : DQ X (.builtin "isinstance") (adJ K) := hK ▸ aan
theorem WQ (hK : X.K = K := by rfl) : DQ X (.builtin "isinstance") (abE K) := hK ▸ Zg
theorem ap_raiseF : YG C fn E t D σ H = t σ H fun vs H1 => ∃ n : Int, vs = [.int n] /\ n.natAbs < 2 ^ 300 /\ ∀ d, H1 d = none -> E (.ref C) (some d) (upd H1 d (.xd [(fn, .int n)])) := rfl
theorem ap_xini : abn K t σ H Q = t σ H fun vs H1 => ∃ e C fI z, vs = [.ref e, .str z] /\ H1 e = some (VJ C e) /\ XClsI K C fI /\ Q .non H1 := rfl
theorem ap_sxfld : abo K ta tv fn D σ H = tv σ H fun y H1 => ta σ H1 fun x H2 => ∃ e C fI, x = .ref e /\ H2 e = some (VJ C e) /\ XClsI K C fI /\ NoAttr K C fn /\ ∀ d, H2 d = none -> d ≠ e -> D.nx σ (upd (upd H2 e (NZ C e d)) d (.xd [(fn, y)])) := rfl
theorem ap_xfld : abX K ta fn σ H Q = ta σ H fun x H1 => ∃ e C fI d fs n, x = .ref e /\ (H1 e = some (NZ C e d) \/ H1 e = some (Qg C e d)) /\ XClsI K C fI /\ XAsk K C /\ NoAttr K C fn /\ H1 d = some (.xd fs) /\ fs.lookup fn = some (.int n) /\ Q (.int n) H1 := rfl
theorem ap_isF : adJ K [.ref ea, c] H Q = ∃ C k, (∃ d, H ea = some (Qg C ea d)) /\ (∃ fI, XClsI K C fI) /\ XAsk K C /\ ((∃ D, c = .ref D /\ PySem.W.kitOne K (.ref C) (.ref D) = some k) \/ (∃ T, c = .ty T /\ PySem.W.kitOne K (.ref C) (.type T) = some k)) /\ Q (.bl k) H := propext
 ⟨fun ⟨ea', C, c', k, e, r⟩ => by cases e; exact ⟨C, k, r⟩, fun ⟨C, k, r⟩ => ⟨ea, C, c, k, rfl, r⟩⟩
theorem ap_isFs : abE K [.ref ea, .ref pa] H Q = ∃ (C : Addr) (cs : List Addr) (k : Bool), (∃ d, H ea = some (Qg C ea d)) /\ (∃ fI, XClsI K C fI) /\ XAsk K C /\ H pa = some (.tup (cs.map V.ref)) /\ PySem.W.kitAny K (.ref C) (cs.map Value.ref) = some k /\ Q (.bl k) H := propext
 ⟨fun ⟨ea', C, p', cs, k, e, r⟩ => by cases e; exact ⟨C, cs, k, r⟩, fun ⟨C, cs, k, r⟩ => ⟨ea, C, pa, cs, k, rfl, r⟩⟩
theorem ap_FI : tFI ta σ H Q = ta σ H fun v H1 => ∃ i : Int, v = .int i /\ i.natAbs < 2 ^ 300 /\ ∀ z : Str, z.length <= 10000 -> Q (.str z) H1 := rfl
end
end L2
namespace L2
open PySem PySem.W PySem.Spec PyProof.Rows
section
variable {prog : Program} {w : World} {A : Around} {E : Value -> Shared -> Prop} {s : Shared} {T : String} {r d : Addr} {n : Nat} {P : Nat -> Value -> Prop} {OK : Heap -> Prop}
theorem Zw {R : List Value -> Shared -> Prop} (S : KdlSrc prog w T r d n P OK) (hh : A.handled = none) (hok : OK s.heap) (hn : n <= sizeLine)
  (h : ∀ (h' : Heap) (tk : Nat) (acc : Array Value), (∀ b o, s.heap.get? b = some o -> h'.get? b = some o) -> s.heap.objs.size < h'.objs.size -> ItemsOf P acc n -> R acc.toList { s with heap := h', toks := tk }) :
  wpAny (model prog w) A (collect (.ref r)) R E s := by
 obtain ⟨t1, t2⟩ := S.there _ hok
 have g0 : (s.heap.push { cls := .type "list", data := .seq ([] : List Value).toArray }).get? s.heap.objs.size = some { cls := .type "list", data := .seq #[] } := Heap.get?_push_size _ rfl
 have key : ∀ (q : Value -> Sem (List Value)), (∀ (s' : Shared), (∃ h' tk acc c, s' = { s with heap := h', toks := tk } /\ (∀ b o, s.heap.get? b = some o -> h'.get? b = some o) /\ h'.get? s.heap.objs.size = some { cls := .type "list", dict := none, data := .seq acc c, slots := #[] } /\ ItemsOf P acc n) -> wpAny (model prog w) A (q (.ref s.heap.objs.size)) R E s') ->
   wpAny (model prog w) A (runValue (.builtin "proto.collect" ⟨[.ref r], []⟩) >>= q) R E s := fun q hq => by
  refine wpAny_bind (wpAny_runValue (codeAny_builtin entry_proto_collect' ?_))
  rw [Around.under_plainId PySem.F.plain_proto_collect _]
  refine wpAny_bind (m := newList []) (wpAny_newObj_type (wpAny_pure ⟨plainId_quiet PySem.F.plain_list_iadd _, codeAny_builtin entry_list_iadd' ?_⟩))
  rw [Around.under_plainId PySem.F.plain_list_iadd _]
  refine wpAny_mono (kdl_extend (A := A) (s := { s with heap := s.heap.push { cls := .type "list", data := .seq ([] : List Value).toArray } })
   (R := fun (z : Result) (s' : Shared) => z = .ok (.ret (.ref s.heap.objs.size)) /\ ∃ h' tk acc c, s' = { s with heap := h', toks := tk } /\ (∀ b o, s.heap.get? b = some o -> h'.get? b = some o) /\ h'.get? s.heap.objs.size = some { cls := .type "list", dict := none, data := .seq acc c, slots := #[] } /\ ItemsOf P acc n)
   S hh (S.keep _ _ hok fun b _ o e => Heap.get?_push_of_some _ e) s.heap.objs.size (Nat.ne_of_gt t1) (Nat.ne_of_gt t2) (.ref s.heap.objs.size) 0 g0
   (fun h' tk acc c k1 k2 k3 => ⟨rfl, h', tk, acc, c, rfl, fun b o e => k1 b o (Nat.ne_of_lt (Heap.lt_size e)) (Heap.get?_push_of_some _ e), k2, k3⟩) hn) (fun fin s' x => ?_) fun e s' x => ?_
  ·cases fin with
   | done f =>
    obtain ⟨e, x⟩ := x
    cases e
    exact hq s' x
   | again c => exact ⟨x.1, codeAny_mono x.2 fun z s2 ⟨e, y⟩ => by subst e; exact hq s2 y⟩
  ·cases x.1
 unfold collect
 refine key _ fun s' ⟨h', tk, acc, c, e, k1, k2, k3⟩ => ?_
 subst e
 refine wpAny_bind (m := load s.heap.objs.size) (wpAny_load k2 (wpAny_pure (h h' tk acc k1 (Heap.lt_size k2) k3)))
end
end L2
namespace L2
open PySem PySem.W PySem.Spec PyProof.Rows
section
variable {X : Cx}
def TV : List V -> Hp -> VK -> Prop := fun xs H Q => ∃ (a : Addr) (kvs : List (Int × V)), xs = [.ref a] /\ H a = some (.dK (kvs.map fun kv => (Sum.inl kv.1, kv.2))) /\ kvs.length < 60 /\
 ∀ p (ms : List Int), H p = none -> ms.Perm (kvs.map (·.1)) -> (ms.Pairwise fun x y => x <= y) -> Q (.ref p) (upd H p (.lst (ms.map V.int)))
theorem UJ (hc : X.calm = true) : DQ X (.builtin "sorted") TV := by
 intro pins s σ H xs us Q I r h
 obtain ⟨a, kvs, rfl, hq, hlen, q⟩ := h
 obtain ⟨u, rfl, rx⟩ := vals1 r
 cases rx
 obtain ⟨z, hsys, vs, rel, o, es, ep, q1, q2, q3, q4⟩ := (show ObjOk X.prog X.w H s.heap a (.dK (kvs.map fun kv => (Sum.inl kv.1, kv.2))) from I.hok a _ hq)
 have hvl : kvs.length = vs.length := by have := Paired.length rel; rw [List.length_map] at this; exact this
 have hkeys : (kvs.map fun kv => (Sum.inl kv.1 : Key)) = vs.map (·.1) := by
  have := KV.keys rel
  rw [List.map_map] at this
  exact this
 have hat : s.heap.DictAt (BR X.prog X.w) a vs ep := ⟨o, es, q1, q2, q3, q4⟩
 refine Calls.call_function_entry kind_sorted plain_sorted entry_sorted (args_sorted1 _) ?_
 unfold Builtin.«sorted»
 refine wpAny_bind (m := checkCount "sorted" 1 1 _) (wpAny_pure ?_)
 refine wpAny_bind (Zw (A := X.A.in1) (kdl_dict (knd := BR X.prog X.w) (kvs := vs) (ep := ep) hsys) (I.ok.hd hc) hat (by rw [<- hvl, sizeLine_eq]; omega) fun h' tk acc hk hsz hacc => ?_)
 have hl : acc.toList.length = kvs.length := by rw [Array.length_toList, hacc.1, hvl]
 have hS : IntsAre acc.toList (kvs.map (·.1)) := by
  have main : ∀ (l : List Value) (ks : List Int), l.length = ks.length -> (∀ (i : Nat) v x, l[i]? = some v -> ks[i]? = some x -> ∃ t, v = .int x t) -> IntsAre l ks := by
   intro l
   induction l with
   | nil => intro ks h1 _; cases ks with
    | nil => exact .nil
    | cons _ _ => simp at h1
   | cons v l ih => intro ks h1 h2; cases ks with
    | nil => simp at h1
    | cons x ks =>
     obtain ⟨t, rfl⟩ := h2 0 v x rfl rfl
     exact .cons x t (ih ks (by simpa using h1) fun i v' x' e1 e2 => h2 (i + 1) v' x' e1 e2)
  refine main _ _ (by rw [hl, List.length_map]) fun i v x e1 e2 => ?_
  obtain ⟨k, y, g1, g2⟩ := hacc.2 i v (by rw [<- Array.getElem?_toList]; exact e1)
  have e3 : (vs.map (·.1))[i]? = some k := by rw [List.getElem?_map, g1]; rfl
  have e4 : (kvs.map fun kv => (Sum.inl kv.1 : Key))[i]? = some (Sum.inl x) := by
   rw [List.getElem?_map] at e2 ⊢
   cases e : kvs[i]? with
   | none => rw [e] at e2; cases e2
   | some q => rw [e] at e2; cases e2; rfl
  rw [hkeys, e3] at e4
  cases Option.some.inj e4
  have := aaY (k := (Sum.inl x : Key)) g2
  obtain ⟨t, e⟩ := (show RelV (.int x) v from this)
  exact ⟨t, e⟩
 refine wpAny_bind (wpAny_newList ?_ (by rw [hl, sizeLine_eq]; omega))
 have hoL : (h'.push (seqObj "list" acc.toList.toArray 0)).get? h'.objs.size = some (seqObj "list" acc.toList.toArray 0) := Heap.get?_push_size _ rfl
 refine wpAny_bind (wpAny_holding (wpAny_call_entry slot_list_sort ⟨_, hoL, rfl⟩ entry_list_sort (list_sort_tree hoL hS (by omega) fun out ms h1 h2 h3 => ⟨_, rfl, ?_⟩) (args_list_sort _)))
 obtain ⟨c, hc'⟩ := sortedHeap_at (out := out) hoL
 refine wpAny_pure ⟨_, rfl, .ref h'.objs.size, _, I.laid (t' := tk) (o := .lst (ms.map V.int)) (fun b o' e => ?_) (Nat.le_of_lt hsz) ?_, rfl, q _ _ (I.hok.fresh (Nat.le_of_lt hsz)) h2 h3⟩
 ·have hlt := Heap.lt_size (hk b o' e)
  rw [sortedHeap_old (Nat.ne_of_lt hlt) (by rw [size_push']; exact Nat.lt_succ_of_lt hlt)]
  exact Heap.get?_push_of_some _ (hk b o' e)
 ·exact ⟨by rw [List.length_map, h2.length_eq, List.length_map, sizeLine_eq]; omega, _, c, Kh h1, by rw [Array.toArray_toList]; exact hc'⟩
theorem ap_rSortDI {a : Addr} {H : Hp} {Q : VK} : TV [.ref a] H Q = ∃ (kvs : List (Int × V)), H a = some (.dK (kvs.map fun kv => (Sum.inl kv.1, kv.2))) /\ kvs.length < 60 /\
 ∀ p (ms : List Int), H p = none -> ms.Perm (kvs.map (·.1)) -> (ms.Pairwise fun x y => x <= y) -> Q (.ref p) (upd H p (.lst (ms.map V.int))) := by simp [TV]
variable {e f g : Expr} {pos : Pos}
end
end L2
namespace HT
open PySem PyProof.Rows
section
open PySem.SeqAt
open PySem.AutoSeq1 (wpAny_loadPart')
open PySem.MeetsSeq PySem.MeetsSeq2 PySem.MeetsSeq3
end
end HT
namespace L2
open PySem PySem.W PySem.Spec PySem.Calls PyProof.Rows
section
variable {X : Cx}
def aaS (H0 : Hp) (t : TE) : TE := fun σ H Q => t σ H fun v H1 => ∃ a o kvs, H1 a = some (.frz o (.dK kvs)) /\ (∀ o u, H0 a ≠ some (.frz o u)) /\ Q v (upd H1 a (.dK kvs))
theorem Uc {e : Expr} {t : TE} (h : PE X e t) : PE X e (aaS X.H₀ t) := by
 intro pins s σ H Q I q
 exact thn (h pins s σ H _ I q) fun v s1 ⟨x, H1, I1, r1, a, o, kvs, h1, h2, h3⟩ => ⟨x, _, I1.thaw h1 h2, r1, h3⟩
theorem ap_thawV {H0 : Hp} {t : TE} {σ : St} {H : Hp} {Q : VK} : aaS H0 t σ H Q = t σ H fun v H1 => ∃ a o kvs, H1 a = some (.frz o (.dK kvs)) /\ (∀ o u, H0 a ≠ some (.frz o u)) /\ Q v (upd H1 a (.dK kvs)) := rfl
end
end L2
namespace L2
open PySem PySem.Spec PyProof.Rows
def aaQ (tab : List (Addr × Sp)) (m : Str) (ta : TE) (t : TA) : TX := fun σ H Q E => Qu tab m E ta t σ H Q
abbrev TB := St -> Hp -> (Hp -> Prop) -> XK -> Prop
def PB (X : Cx) (sts : List Stmt) (t : TB) : Prop :=
 ∀ (pins : List (Addr × Obj)) (s : Shared) (σ : St) (H : Hp) (Q : Hp -> Prop) (E : XK), Inv X pins σ H s -> t σ H Q E ->
  wpAny (model X.prog X.w) X.A (execs sts X.env) (fun f s' => f = .next /\ ∃ H', Inv X pins σ H' s' /\ Q H') (fun ev s' => ∃ H1 s1, Inv X pins σ H1 s1 /\ CX1 X.prog X.w X.stack H1 s1 E ev s') s
def acB (te : TX) : TB := fun σ H Q E => te σ H (fun _ H1 => Q H1) E
def bIf (tc : TT) (t u : TB) : TB := fun σ H Q E => tc σ H fun b H1 => if b = true then t σ H1 Q E else u σ H1 Q E
section
variable {X : Cx} {CX : CXT} {m x : Str} {e o : Expr} {es : List Expr} {ta : TE} {t : TA} {apos pos : Pos}
theorem Pn {pl : Sem Bool} {tab : List (Addr × Sp)} (he : PE X.nox o ta) (T : MTab X CX m tab) (ha : PA X.nox (e :: es) t)
  (hst : starEach (e :: es) X.env = (false, eval e X.env) :: starEach es X.env := by rfl) (hpl : (backTo pos (starEach es X.env)).any (·.1) = false := by rfl)
  (ht : eval (.Call (.Attribute o m apos) (e :: es) [] pos) X.env = (do
   let ov <- eval o X.env
   standAt apos.atName
   let (f, first) <- holding [ov] (getMethod ov m pl)
   callWith pos f first (backTo pos (starEach (e :: es) X.env)) (backToKw pos (keywordEach [] X.env))) := by rfl) :
  PEx X CX (.Call (.Attribute o m apos) (e :: es) [] pos) (aaQ tab m ta t) := by
 intro pins s σ H Q E I h
 refine PySem.W.methodCall_KW (pl := pl) (wpAny_mono (he pins s σ H _ (I.wish _) h) (fun u s1 ⟨y, H1, I1, rx, a, C, dx, fs, sp, ex, ea, hmem, l, q⟩ => ?_) fun _ _ z => False.elim z) ht
 subst ex
 obtain rfl : u = Value.ref a := rx
 obtain ⟨f, fd, ps, k, c, hm, F, hr, hb⟩ := T.get hmem
 refine LR I1.unwish ea c hm l ?_
 refine PySem.W.callWith_K (first := [.ref a]) (h₀ := X.base) I.ok.mod.kin hm.kp (wpAny_mono (ha pos pins s1 σ H1 _ I1 q) (fun us s2 ⟨vs, H2, I2, r, q2⟩ => ⟨I2.unwish.kIn, ?_⟩) fun _ _ z => False.elim z) hst hpl
 exact abw (us := .ref a :: us) (vs := .ref a :: vs) (dvs := []) (ds := []) F hr hb .nil I2.unwish (.cons rfl r) (by rw [List.append_nil]; exact q2)
theorem UG {te : TX} {epos : Pos} (h : PEx X (CX1 X.prog X.w) e te) (hs : swapsWith e none epos.line X.env = pure false := by rfl) : PB X [.Expr e epos] (acB te) := by
 intro pins s σ H Q E I hw
 exact wpAny_execs_cons (wpAny_Expr_any (wpAny_mono (h pins s σ H _ E I hw) (fun v s1 ⟨y, H1, I1, r1, q1⟩ => wpAny_execs_nil ⟨rfl, H1, I1, q1⟩) fun ev s' hx => hx) I.quiet hs)
theorem acH {c : Expr} {a b : List Stmt} {tc : TT} {t u : TB} {pos : Pos} (hc : PT X.nox c tc) (ha : PB X a t) (hb : PB X b u) : PB X [.If c a b pos] (bIf tc t u) := by
 intro pins s σ H Q E I hw
 refine wpAny_execs_cons (wpAny_If (wpAny_mono (hc pins s σ H _ (I.wish _) hw) (fun d s1 ⟨H1, I1, q1⟩ => ?_) fun _ _ z => False.elim z))
 cases d with
 | true => exact wpAny_mono (ha pins s1 σ H1 Q E I1.unwish q1) (fun f s' ⟨e, z⟩ => by subst e; exact wpAny_execs_nil ⟨rfl, z⟩) fun _ _ z => z
 | false => exact wpAny_mono (hb pins s1 σ H1 Q E I1.unwish q1) (fun f s' ⟨e, z⟩ => by subst e; exact wpAny_execs_nil ⟨rfl, z⟩) fun _ _ z => z
def ZQ (tb : TB) (ok : Addr -> Prop) (i : Nat) (ts : TS) : TS := fun D σ H => tb σ H (fun H1 => D.nx σ H1) fun cls dd H1 => ∃ C, ok C /\ cls = .ref C /\ ∃ d, dd = some d /\ ∀ ea, H1 ea = none ->
 ts { nx := fun σ2 H2 => D.nx (σ2.set i none) H2, rt := D.rt, bk := fun σ2 H2 => D.bk (σ2.set i none) H2, ct := fun σ2 H2 => D.ct (σ2.set i none) H2 } (σ.set i (some (.ref ea))) (upd H1 ea (Qg C ea d))
theorem abk {D' : Addr} {tb : TB} {i : Nat} {n : Str} {ts : TS} {b₀ : Stmt} {body suite : List Stmt} {np hpos pos : Pos} (ok : Addr -> Prop) (h : PB X body tb) (cD : XCls X.K D') (hoc : ∀ C, ok C -> (∃ fI, XClsI X.K C fI) /\ PySem.W.kitOne X.K (.ref C) (.ref D') = some true)
  (hg : Gl X x) (hm : X.mg x = some (.ref D')) (hfr : X.env.frame = some X.env.locals) (hst : X.stack = X.env :: X.outer)
  (hN : X.N.Nodup) (hi : X.N[i]? = some n) (hk : X.env.kindOf n = some .local) (hsu : ∀ ea, PSs (X.inSuite ea) (b₀ :: suite) ts) (hd : (x == ("__debug__" : Str)) = false := by decide) :
  PS X (.Try body [.ExceptHandler (some (.Name x np)) (some n) (b₀ :: suite) hpos] [] [] pos) (ZQ tb ok i ts) := by
 intro pins s σ H D I hw
 refine wpAny_Try_except (wpAny_mono (h pins s σ H _ _ I hw) (fun f s1 ⟨e, H1, I1, q1⟩ => by subst e; exact wpAny_execs_nil ⟨σ, H1, I1, q1⟩) fun ev s' hx => ?_)
 obtain ⟨H1, s1, I1, ea, C', a0, H', B, dd, rfl, os, bare, un, hok, fl, k1, k2, hn, hdd, C, hC0, hC, d, hds, hE⟩ := hx
 subst hds
 have hcc : C' = C := Value.ref.inj hC
 subst hcc
 obtain ⟨⟨fI, c⟩, hsub⟩ := hoc C' hC0
 have fl' := fl
 rw [hst] at fl'
 have frm : X.A.frames = some (X.env :: X.outer) := by rw [<- hst]; exact I.ok.frames
 refine wpAny_mono (KQ (KD.noteFrame _ _) (wpAny_looks_onW (Q := fun _ s2 => ∃ h4, s2 = { s' with heap := h4 } /\ Heap.HeldW B (X.env :: X.outer) ea (.ref C') a0 X.env.locals h4 /\ Heap.UpToSlots s'.heap h4) frm hfr fl' fun h4 held4 up4 => ⟨h4, rfl, held4, up4⟩)) (fun _ s2 z => ?_) (fun _ _ z => z)
 obtain ⟨⟨h4, rfl, held4, up4⟩, dk4⟩ := z
 refine wpAny_mono (KQ (KD.setFlight _ _) (wpAny_landsW (Q := fun _ s2 => ∃ h5, s2 = { s' with heap := h5 } /\ Heap.FlyingW B (X.env :: X.outer) ea (.ref C') a0 h5 /\ Heap.UpToSlots h4 h5) held4 fun h5 fl5 up5 => ⟨h5, rfl, fl5, up5⟩)) (fun _ s2 z => ?_) (fun _ _ z => z)
 obtain ⟨⟨h5, rfl, fl5, up5⟩, dk5⟩ := z
 have hd5 : DictIs h5 ea (some d) := (hdd.dk dk4).dk dk5
 have up5' := up4.trans up5
 have I5 : Inv X pins σ (upd H' ea (Qg C' ea d)) { s' with heap := h5 } := I1.landedF os bare un hok fl k1 k2 hn (by rw [hst]; exact fl5) up5' hd5
 obtain ⟨nm, qn, N, bs, bm, sn, sub, ab, col, dd', g0, g1', g2', g3', g5', gC, gT⟩ := c.obj I5.kIn
 obtain ⟨bmD, ND, nmD, qnD, bsD, hdcD, snD, subD, abD, colD, ddD, g0D, g1D, g2D, g3D, g5D, mND, gCD, gND, giD, gTD⟩ := cD.obj I5.kIn
 have hsb := adf I5.kIn hsub gC
 obtain ⟨ob, hob, hobc⟩ := fl5.there
 refine wpAny_handleBy_cons (codeAny_handlers_test (Jf (X := X.inSuite ea) (I5.inSuite ea) hg hm ?_ hd)) (by intro q; cases q)
 refine Zx gC gCD hob hobc (gTD.hasType rfl) hsb (codeAny_handlers_suite_as ?_)
 refine wpAny_mono (KQ (KD.setFlight _ _) (lands_againW (Q := fun _ s2 => ∃ h6, s2 = { s' with heap := h6 } /\ Heap.FlyingW B (X.env :: X.outer) ea (.ref C') a0 h6 /\ Heap.UpToSlots h5 h6) fl5 fun h6 fl6 up6 => ⟨h6, rfl, fl6, up6⟩)) (fun _ s2 z => ?_) (fun _ _ z => z)
 obtain ⟨⟨h6, rfl, fl6, up6⟩, dk6⟩ := z
 have I6 : Inv X pins σ (upd H' ea (Qg C' ea d)) { s' with heap := h6 } := I1.landedF os bare un hok fl k1 k2 hn (by rw [hst]; exact fl6) (up5'.trans up6) (hd5.dk dk6)
 refine QH (X := X) I6 hN hi (.inl hk) (v := .ref ea) rfl (fun s7 I7 => ?_) (.inr hk)
 refine wpAny_mono (hsu ea pins s7 _ _ _ (I7.inSuite ea) (hE ea hn)) (fun f s8 hf => ?_) fun _ _ z => False.elim z
 cases f with
 | next =>
  obtain ⟨σ8, H8, I8, q8⟩ := hf
  exact (I8.outSuite I.ok).gone hN hi hk fun s9 I9 => ⟨_, H8, I9, q8⟩
 | brk =>
  obtain ⟨σ8, H8, I8, q8⟩ := hf
  exact (I8.outSuite I.ok).gone hN hi hk fun s9 I9 => ⟨_, H8, I9, q8⟩
 | cont =>
  obtain ⟨σ8, H8, I8, q8⟩ := hf
  exact (I8.outSuite I.ok).gone hN hi hk fun s9 I9 => ⟨_, H8, I9, q8⟩
 | ret u =>
  obtain ⟨v8, σ8, H8, I8, r8, q8⟩ := hf
  exact (I8.outSuite I.ok).gone hN hi hk fun s9 I9 => ⟨v8, _, H8, I9, r8, q8⟩
theorem ap_tryX {tb : TB} {ok : Addr -> Prop} {i : Nat} {ts : TS} {D : Ends} {σ : St} {H : Hp} : ZQ tb ok i ts D σ H = tb σ H (fun H1 => D.nx σ H1) fun cls dd H1 => ∃ C, ok C /\ cls = .ref C /\ ∃ d, dd = some d /\ ∀ ea, H1 ea = none ->
 ts { nx := fun σ2 H2 => D.nx (σ2.set i none) H2, rt := D.rt, bk := fun σ2 H2 => D.bk (σ2.set i none) H2, ct := fun σ2 H2 => D.ct (σ2.set i none) H2 } (σ.set i (some (.ref ea))) (upd H1 ea (Qg C ea d)) := rfl
theorem ap_bExpr {te : TX} {σ : St} {H : Hp} {Q : Hp -> Prop} {E : XK} : acB te σ H Q E = te σ H (fun _ H1 => Q H1) E := rfl
theorem ap_bIf {tc : TT} {t u : TB} {σ : St} {H : Hp} {Q : Hp -> Prop} {E : XK} : bIf tc t u σ H Q E = tc σ H fun b H1 => if b = true then t σ H1 Q E else u σ H1 Q E := rfl
theorem ap_xMethD {tab : List (Addr × Sp)} {m : Str} {ta : TE} {t : TA} {σ : St} {H : Hp} {Q : VK} {E : XK} : aaQ tab m ta t σ H Q E = Qu tab m E ta t σ H Q := rfl
end
end L2
namespace L2
open PySem PySem.W PySem.Spec PySem.Calls PyProof.Rows
section
variable {X : Cx}
theorem Vu (f : Nat -> Int) : ∀ k : Nat, argBest (fun i j => decide (f i > f j)) k <= k /\ ∀ i, i <= k -> f i <= f (argBest (fun i j => decide (f i > f j)) k)
 | 0 => ⟨by simp [argBest], fun i hi => by cases Nat.le_zero.mp hi; simp [argBest]⟩
 | k + 1 => by
  obtain ⟨h1, h2⟩ := Vu f k
  rw [argBest]
  by_cases h : f (k + 1) > f (argBest (fun i j => decide (f i > f j)) k)
  ·rw [if_pos (decide_eq_true h)]
   refine ⟨Nat.le_refl _, fun i hi => ?_⟩
   rcases Nat.lt_or_ge i (k + 1) with q | q
   ·have := h2 i (by omega); omega
   ·have : i = k + 1 := by omega
    subst this; exact Int.le_refl _
  ·rw [if_neg (by simpa using h)]
   refine ⟨by omega, fun i hi => ?_⟩
   rcases Nat.lt_or_ge i (k + 1) with q | q
   ·exact h2 i (by omega)
   ·have : i = k + 1 := by omega
    subst this; omega
def aaw (K : Fg_) : List V -> Hp -> VK -> Prop := fun xs H Q => ∃ (a : Addr) (ns : List Int), xs = [.ref a] /\ SqL K H a (ns.map V.int) /\ ns ≠ [] /\ ∀ m, m ∈ ns -> (∀ x ∈ ns, x <= m) -> Q (.int m) H
theorem YT (hc : X.calm = true) : DQ X (.builtin "max") (aaw X.K) := by
 intro pins s σ H xs us Q I r h
 obtain ⟨a, ns, rfl, hq, hne, q⟩ := h
 obtain ⟨u, rfl, rx⟩ := vals1 r
 cases rx
 obtain ⟨its, rv, pl, hz⟩ := I.list hq
 have hil : its.length = ns.length := by rw [<- rv.length, List.length_map]
 have hl := pl.isList
 have hlt : a < s.heap.objs.size := by obtain ⟨o, e, _⟩ := hl; exact Heap.lt_size e
 have hnl : 0 < ns.length := List.length_pos_iff.mpr hne
 have ia : ∀ (i : Nat) v, its.toArray[i]? = some v -> ∃ t, v = .int (ns.getD i 0) t := fun i v e => by
  rw [List.getElem?_toArray] at e
  have hi : i < its.length := (List.getElem?_eq_some_iff.mp e).1
  have hin : i < ns.length := by omega
  obtain ⟨u, hu, ru⟩ := rv.get (show (ns.map V.int)[i]? = some (.int ns[i]) by rw [List.getElem?_map, List.getElem?_eq_getElem hin]; rfl)
  rw [e] at hu
  obtain rfl := Option.some.inj hu
  obtain ⟨t, rfl⟩ := ru
  exact ⟨t, by simp [hin]⟩
 refine call_max_walk (wpAny_pyIter_list hl ?_)
 refine ⟨_, _, _, _, _, _, _, rfl, Walks.list (prog := X.prog) (w := X.w) (A := X.A.in1) (I.ok.hd hc) s.heap.objs.size a (Nat.ne_of_lt hlt) its.toArray, ?_, ?_, by rw [List.size_toArray]; omega, CmpOf.ints_gt (fun i => ns.getD i 0) ia, fun v h' tk hP hk => ?_⟩
 ·exact ⟨⟨_, Heap.get?_push_size _ rfl, rfl, rfl⟩, hl.at fun o e => Heap.get?_push_of_some _ e⟩
 ·intro b hb
  rw [Heap.size_push]
  simp only [List.mem_cons, List.not_mem_nil, or_false] at hb
  rcases hb with rfl | rfl
  ·exact Nat.lt_succ_self _
  ·exact Nat.lt_succ_of_lt hlt
 ·obtain ⟨t, rfl⟩ := ia _ v hP
  have hb := Vu (fun i => ns.getD i 0) (its.toArray.size - 1)
  rw [List.size_toArray] at hb
  have hbl : argBest (fun i j => decide (ns.getD i 0 > ns.getD j 0)) (its.length - 1) < ns.length := by have := hb.1; omega
  refine ⟨.int _, H, I.kept (t' := tk) (fun b o e => hk b o (fun z => ?_) (Heap.get?_push_of_some _ e)), ⟨_, rfl⟩, q _ ?_ fun x hx => ?_⟩
  ·simp only [List.mem_cons, List.not_mem_nil, or_false] at z
   subst z
   exact absurd (Heap.lt_size e) (Nat.lt_irrefl _)
  ·rw [List.size_toArray]
   have e : ∀ k0, k0 < ns.length -> ns.getD k0 0 ∈ ns := fun k0 h => by
    have : ns.getD k0 0 = ns[k0] := by simp [h]
    rw [this]; exact List.getElem_mem h
   exact e _ hbl
  ·obtain ⟨j, hj, ej⟩ := List.getElem_of_mem hx
   have := hb.2 j (by omega)
   rw [List.size_toArray]
   have e : ns.getD j 0 = x := by simp [hj, ej]
   rw [<- e]
   exact this
theorem Xb {K : Fg_} (hc : X.calm = true) (hK : X.K = K := by rfl) : DQ X (.builtin "max") (aaw K) := hK ▸ YT hc
theorem ap_rMaxL {K : Fg_} {a : Addr} {H : Hp} {Q : VK} : aaw K [.ref a] H Q = ∃ (ns : List Int), SqL K H a (ns.map V.int) /\ ns ≠ [] /\ ∀ m, m ∈ ns -> (∀ x ∈ ns, x <= m) -> Q (.int m) H := by simp [aaw]
end
section
variable {P : Program} {w : World} {A : Around} {E : Value -> Shared -> Prop} {s : Shared}
theorem XR {b f : Bool} {Q : Bool -> Shared -> Prop} : ∀ {ms ns : List Int} {r r' : List V} {xs ys : List Value}, Vals (ms.map V.int ++ r) xs -> Vals (ns.map V.int ++ r') ys -> ms.length = ns.length -> ms ≠ ns -> ∀ i, Q (Js ms ns false) s -> KatLex P w A b f Q (xs.zip ys) i s
 | [], [], _, _, _, _, _, _, _, hne, _, _ => (hne rfl).elim
 | [], _ :: _, _, _, _, _, _, _, hl, _, _, _ => by simp at hl
 | _ :: _, [], _, _, _, _, _, _, hl, _, _, _ => by simp at hl
 | m :: ms, n :: ns, _, _, _, _, r, r', hl, hne, i, h => by
  rw [List.map_cons, List.cons_append] at r r'
  cases r with
  | cons a1 a2 =>
  cases r' with
  | cons b1 b2 =>
  obtain ⟨t, rfl⟩ := a1
  obtain ⟨t', rfl⟩ := b1
  rw [List.zip_cons_cons]
  refine kat_cons (wpAny_eqBool_int ?_)
  by_cases e : m = n
  ·rw [show (m == n) = true by simp [e]]
   refine kat_yes (XR a2 b2 (by simpa using hl) (fun z => hne (by rw [e, z])) (i + 1) ?_)
   rwa [Js, if_pos e] at h
  ·rw [show (m == n) = false by simp [e]]
   refine kat_no ?_
   rw [Js, if_neg e] at h
   cases hf : (b && i == 0) with
   | true => exact oneLt_int h
   | false => exact kat_one _ _ (lt_int h)
theorem ZF {G : Array Nat -> Prop} {a : Addr} {us : List Value} {n m0 : Nat} {R : PySem.Fin -> Shared -> Prop} (ks : Nat -> List Int) (hob : s.heap.get? a = some (seqObj "list" us.toArray n)) (hlen : us.length < 64)
  (hT : ∀ i, i < us.length -> (ks i).length = m0 + 1 /\ ∃ b o xs m r, us.getD i Value.none = .ref b /\ b ≠ a /\ s.heap.get? b = some o /\ o.cls = .type "tuple" /\ o.data = .seq xs m /\ Vals ((ks i).map V.int ++ r) xs.toList)
  (hne : ∀ i j, i < us.length -> j < us.length -> i ≠ j -> ks i ≠ ks j)
  (hG : 0 < us.length -> Kok (fun i j => Js (ks i) (ks j) false) us.length G (kas_sort us.length)) (hG0 : us.length < 2 -> G (List.range us.length).toArray) (hGP : ∀ p, G p -> Prm us.length p)
  (fin : ∀ p : Array Nat, G p -> R (.done (.ret .none)) { s with heap := sortedHeap s.heap a us (List.toArray (p.toList.map fun i => us.getD i Value.none)) }) :
  wpAny (model P w) A (Builtin.«list.sort» ⟨[.ref a], []⟩) R E s := by
 have hal : a < s.heap.objs.size := Heap.lt_size hob
 have hus : us.toArray.size = us.length := by simp
 rw [list_sort_plain]
 refine wpAny_bind (listItems_at hob rfl ?_); refine wpAny_bind (listUpdate_at hob rfl ?_ (by rw [hus, sizeLine_eq]; omega) (Nat.zero_le _))
 obtain ⟨e1, hob1⟩ : ∃ e1, (s.heap.update a (Obj.mapSeq fun _ => #[])).get? a = some (seqObj "list" #[] e1) := ⟨_, get?_update_seq hob (fun _ => #[])⟩
 refine wpAny_bind (seqEpoch_at hob1 rfl ?_); refine wpAny_bind (wpAny_newTuple ?_ (by show us.length <= _; rw [sizeLine_eq]; omega)); refine wpAny_bind (wpAny_newList ?_ (Nat.zero_le _)); refine wpAny_holding ?_
 have keep : ∀ b o, b ≠ a -> s.heap.get? b = some o -> (((s.heap.update a (Obj.mapSeq fun _ => #[])).push (seqObj "tuple" us.toArray 0)).push (seqObj "list" #[] 0)).get? b = some o := fun b o hb e =>
  Heap.get?_push_of_some _ (Heap.get?_push_of_some _ ((Heap.get?_update_ne _ _ _ _ hb).trans e))
 have keepT : ∀ b xs, b ≠ a -> s.heap.IsTuple b xs -> (((s.heap.update a (Obj.mapSeq fun _ => #[])).push (seqObj "tuple" us.toArray 0)).push (seqObj "list" #[] 0)).IsTuple b xs := fun b xs hb ⟨o, e, r⟩ => ⟨o, keep b o hb e, r⟩
 have hob6 : (((s.heap.update a (Obj.mapSeq fun _ => #[])).push (seqObj "tuple" us.toArray 0)).push (seqObj "list" #[] 0)).get? a = some (seqObj "list" #[] e1) := Heap.get?_push_of_some _ (Heap.get?_push_of_some _ hob1)
 show wpAny (model P w) A _ R E { s with heap := ((s.heap.update a (Obj.mapSeq fun _ => #[])).push (seqObj "tuple" us.toArray 0)).push (seqObj "list" #[] 0) }
 dsimp only
 by_cases h2 : us.toArray.size < 2
 ·rw [if_pos h2, if_pos h2]
  refine wpAny_bind (wpAny_pure ?_); rw [StateT.run_pure]; refine wpAny_bind (wpAny_pure ?_); dsimp only
  have har := kat_snds (ks := us) (vs := us) rfl (st := SortSt.mk' general' (us.toArray.zip us.toArray) #[] 7 none) (p := (List.range us.length).toArray) (by
   have e := kas_range (us.toArray.zip us.toArray)
   rw [show (us.toArray.zip us.toArray).size = us.length by simp] at e
   exact e.symm)
  rw [har]
  refine wpAny_bind (seqEpoch_at hob6 rfl ?_); refine wpAny_bind (listUpdate_at hob6 rfl ?_ (Nat.zero_le _) (by rw [sizeLine_eq]; simp; omega))
  simp only [bne_self_eq_false, Bool.false_eq_true, if_false]
  exact wpAny_pure (fin _ (hG0 (by rw [<- hus]; exact h2)))
 ·rw [if_neg h2, if_neg h2]
  have hn : 0 < us.length := by omega
  obtain ⟨ff, k1, k2, k3⟩ := Uw (h := ((s.heap.update a (Obj.mapSeq fun _ => #[])).push (seqObj "tuple" us.toArray 0)).push (seqObj "list" #[] 0)) (us := us) (by
   intro v hv
   obtain ⟨i, hi, e⟩ := List.getElem_of_mem hv
   obtain ⟨g0, b, o, xs, m, r, g1, g2, g3, g4, g5, g6⟩ := hT i hi
   have e2 : us.getD i Value.none = v := by rw [<- e]; simp [hi]
   cases hq : ks i with
   | nil => rw [hq] at g0; cases g0
   | cons z zs =>
    rw [hq, List.map_cons, List.cons_append] at g6
    cases hx : xs.toList with
    | nil => rw [hx] at g6; cases g6
    | cons u ur =>
     rw [hx] at g6
     cases g6 with
     | cons r1 r2 =>
     obtain ⟨t, rfl⟩ := r1
     refine ⟨b, o, xs, m, z, t, e2.symm.trans g1, keep _ _ g2 g3, g4, g5, ?_⟩
     rw [<- Array.getElem?_toList, hx]; rfl)
  refine wpAny_bind (kat_kind k1 (by omega) (fun v hv => ?_) (T := .type "int") rfl ?_)
  ·obtain ⟨i, t, rfl⟩ := k3 v hv
   exact Looks.of_pure rfl
  refine wpAny_bind (wpAny_mono (kat_run (ks := us) (vs := us) (Q := fun st' s' => ∃ p : Array Nat, arrOf st' = p.map (kas_item (us.toArray.zip us.toArray)) /\ failedOf st' = none /\ G p /\ s' = { s with heap := ((s.heap.update a (Obj.mapSeq fun _ => #[])).push (seqObj "tuple" us.toArray 0)).push (seqObj "list" #[] 0) })
   (G := fun p s' => G p /\ s' = { s with heap := ((s.heap.update a (Obj.mapSeq fun _ => #[])).push (seqObj "tuple" us.toArray 0)).push (seqObj "list" #[] 0) }) rfl (by omega) hlen (fun p st' s' a1 a2 a3 a4 => ⟨p, a2, a3, a4.1, a4.2⟩)
   (Kok.wp (lt := fun i j => Js (ks i) (ks j) false) (fun i j C hi hj hC => ?_) (hG hn) fun p hp => ⟨hp, rfl⟩)) ?_ fun _ _ e => e)
  ·obtain ⟨l1, b, o, xs, m, r, g1, g2, g3, g4, g5, g6⟩ := hT i hi
   obtain ⟨l2, b', o', xs', m', r', g1', g2', g3', g4', g5', g6'⟩ := hT j hj
   show wpAny _ _ (keyLt' _ (us.getD i Value.none) (us.getD j Value.none)) _ _ _
   by_cases hij : i = j
   ·subst hij
    rw [g1]
    refine kat_lt (keep _ _ g2 g3) g5 (keep _ _ g2 g3) g5 (Vz _ 0 ?_)
    rw [Ux] at hC
    rw [decide_eq_false (Nat.lt_irrefl _)]
    exact hC
   ·rw [g1, g1']
    exact kat_lt (keep _ _ g2 g3) g5 (keep _ _ g2' g3') g5' (XR g6 g6' (l1.trans l2.symm) (hne i j hi hj hij) 0 hC)
  ·rintro ⟨⟨⟩, st'⟩ s' ⟨p, har, hf, hp, rfl⟩
   dsimp only
   rw [kat_snds (ks := us) (vs := us) rfl har]
   have hpl : p.toList.length = us.length := by rw [(hGP p hp).length_eq]; simp
   refine wpAny_bind (seqEpoch_at hob6 rfl ?_); refine wpAny_bind (listUpdate_at hob6 rfl ?_ (Nat.zero_le _) (by rw [sizeLine_eq]; simp at hpl ⊢; omega))
   rw [hf]
   simp only [bne_self_eq_false, Bool.false_eq_true, if_false]
   exact wpAny_pure (fin p hp)
end
section
variable {X : Cx}
def Wh (K : Fg_) : List V -> Hp -> VK -> Prop := fun xs H Q => ∃ (a : Addr) (ys : List V) (ts : V -> List Int) (m : Nat), xs = [.ref a] /\ SqL K H a ys /\ ys.length < 64 /\ (ys.map ts).Nodup /\
 (∀ y ∈ ys, (ts y).length = m + 1 /\ ∃ b r, y = .ref b /\ SqT K H b ((ts y).map V.int ++ r)) /\
 ∀ p zs, H p = none -> zs.Perm ys -> (zs.Pairwise fun y z => Js (ts y) (ts z) false = true) -> Q (.ref p) (upd H p (.lst zs))
theorem WY : DQ X (.builtin "sorted") (Wh X.K) := by
 intro pins s σ H xs us Q I r h
 obtain ⟨a, ys, ts, m0, rfl, hq, hlen, hnd, hT, q⟩ := h
 obtain ⟨u, rfl, rx⟩ := vals1 r
 cases rx
 obtain ⟨its, rv, pl, hz⟩ := I.list hq
 have hil : ys.length = its.length := rv.length
 have hl := pl.isList
 refine Calls.call_function_entry kind_sorted plain_sorted entry_sorted (args_sorted1 _) ?_
 unfold Builtin.«sorted»; refine wpAny_bind (m := checkCount "sorted" 1 1 _) (wpAny_pure ?_); refine wpAny_bind (collect_list hl ?_ (by omega)); refine wpAny_bind (wpAny_newList ?_ (by omega))
 have hsz : ((s.heap.push (seqObj "list" #[] 0)).update s.heap.objs.size (Obj.mapSeq (· ++ its.toArray))).objs.size = s.heap.objs.size + 1 := by rw [Heap.size_update, size_push']
 have hob : (((s.heap.push (seqObj "list" #[] 0)).update s.heap.objs.size (Obj.mapSeq (· ++ its.toArray))).push (seqObj "list" its.toArray 0)).get? (s.heap.objs.size + 1) = some (seqObj "list" its.toArray 0) := by rw [<- hsz]; exact Heap.get?_push_size _ rfl
 have keep : ∀ b o, s.heap.get? b = some o -> (((s.heap.push (seqObj "list" #[] 0)).update s.heap.objs.size (Obj.mapSeq (· ++ its.toArray))).push (seqObj "list" its.toArray 0)).get? b = some o := fun b o e =>
  Heap.get?_push_of_some _ ((Heap.get?_update_ne _ _ _ _ (Nat.ne_of_lt (Heap.lt_size e))).trans (Heap.get?_push_of_some _ e))
 show wpAny _ _ _ _ _ { s with heap := ((s.heap.push (seqObj "list" #[] 0)).update s.heap.objs.size (Obj.mapSeq (· ++ its.toArray))).push (seqObj "list" its.toArray 0) }
 rw [hsz]
 have hm1 : ∀ y ∈ ys, (ts y).length = m0 + 1 := fun y hy => (hT y hy).1
 refine wpAny_bind (wpAny_holding (wpAny_call_entry slot_list_sort ⟨_, hob, rfl⟩ entry_list_sort (ZF (m0 := m0) (G := fun p => Prm its.length p /\ VV ys ts p) (fun i => ts (ys.getD i .non)) hob (by omega) (fun i hi => ?_) (fun i j hi hj hij e => hij ?_) (fun hn => hil ▸ abu hm1 hnd (by omega)) (fun h2 => ⟨List.Perm.refl _, fun m _ _ a b hab hb => absurd hab (by omega)⟩) (fun p hp => hp.1) fun p hp2 => ⟨_, rfl, wpAny_pure ⟨_, rfl, ?_⟩⟩) (args_list_sort _)))
 ·have hm : ys.getD i .non ∈ ys := by
   have : i < ys.length := by omega
   simp [this]
  obtain ⟨g0, b, rr, e, hb⟩ := hT _ hm
  obtain ⟨tv, rt, it, hz'⟩ := I.tuple hb
  obtain ⟨o, ho, hc, m, hd⟩ := it
  refine ⟨g0, b, o, tv.toArray, m, rr, ?_, ?_, keep _ _ ho, hc, hd, rt⟩
  ·have := Kq rv (i := i) (by omega)
   rw [e] at this
   exact this
  ·exact Nat.ne_of_lt (Nat.lt_succ_of_lt (Heap.lt_size ho))
 ·refine (List.getElem?_inj (by rw [List.length_map]; omega) hnd).mp ?_
  rw [List.getElem?_map, List.getElem?_map, List.getElem?_eq_getElem (show i < ys.length by omega), List.getElem?_eq_getElem (show j < ys.length by omega)]
  have q1 : ys.getD i .non = ys[i]'(by omega) := by simp [show i < ys.length by omega]
  have q2 : ys.getD j .non = ys[j]'(by omega) := by simp [show j < ys.length by omega]
  rw [q1, q2] at e
  exact congrArg some e
 ·obtain ⟨hp, hord⟩ := hp2
  have hin : ∀ i ∈ p.toList, i < ys.length := fun i hi => by
   have := List.mem_range.mp (hp.mem_iff.mp hi)
   omega
  have hpl : p.toList.length = its.length := by rw [hp.length_eq]; simp
  have hzs : (p.toList.map fun i => ys.getD i V.non).Perm ys := by
   have := hp.map fun i => ys.getD i V.non
   rw [<- hil, Od] at this
   exact this
  have kp : ∀ b o, s.heap.get? b = some o -> (sortedAll s.heap its (List.toArray (p.toList.map fun i => its.getD i Value.none))).get? b = some o := fun b o e => by
   have hb : b ≠ s.heap.objs.size + 1 := Nat.ne_of_lt (Nat.lt_succ_of_lt (Heap.lt_size e))
   exact (Heap.get?_update_ne _ _ _ _ hb).trans (Heap.get?_push_of_some _ (Heap.get?_push_of_some _ ((Heap.get?_update_ne _ _ _ _ hb).trans (keep b o e))))
  obtain ⟨c, hc⟩ : ∃ c, (sortedAll s.heap its (List.toArray (p.toList.map fun i => its.getD i Value.none))).get? (s.heap.objs.size + 1) = some (seqObj "list" (List.toArray (p.toList.map fun i => its.getD i Value.none)) c) :=
   ⟨_, get?_update_seq (Heap.get?_push_of_some _ (Heap.get?_push_of_some _ (get?_update_seq hob (fun _ => #[])))) _⟩
  refine ⟨.ref (s.heap.objs.size + 1), _, I.laid (t' := s.toks) kp (Nat.le_succ _) (show ObjOk X.prog X.w _ _ _ (.lst (p.toList.map fun i => ys.getD i V.non)) from ⟨?_, _, c, PJ rv hin, hc⟩), rfl, q _ _ (I.hok.fresh (Nat.le_succ _)) hzs ?_⟩
  rotate_left
  ·refine List.pairwise_iff_getElem.mpr fun i j hi hj hij => ?_
   rw [List.length_map, hpl, <- hil] at hj
   have h3 := hord (m0 + 1) hm1 hnd i j hij hj
   have hs : p.size = ys.length := by rw [<- Array.length_toList, hpl, hil]
   have e1 : p.getD i 0 = p.toList[i]'(by rw [Array.length_toList]; omega) := by simp [Array.getD, show i < p.size by omega]
   have e2 : p.getD j 0 = p.toList[j]'(by rw [Array.length_toList]; omega) := by simp [Array.getD, show j < p.size by omega]
   rw [e1, e2] at h3
   rw [List.getElem_map, List.getElem_map]
   exact h3
  rw [List.length_map, hpl, sizeLine_eq]
  omega
theorem Om {K : Fg_} (hK : X.K = K := by rfl) : DQ X (.builtin "sorted") (Wh K) := hK ▸ WY
theorem ap_rSortP {K : Fg_} {a : Addr} {H : Hp} {Q : VK} : Wh K [.ref a] H Q = ∃ (ys : List V) (ts : V -> List Int) (m : Nat), SqL K H a ys /\ ys.length < 64 /\ (ys.map ts).Nodup /\
 (∀ y ∈ ys, (ts y).length = m + 1 /\ ∃ b r, y = .ref b /\ SqT K H b ((ts y).map V.int ++ r)) /\
 ∀ p zs, H p = none -> zs.Perm ys -> (zs.Pairwise fun y z => Js (ts y) (ts z) false = true) -> Q (.ref p) (upd H p (.lst zs)) := by simp [Wh]
end
end L2
local macro_rules | `(tactic| walk_at "capok") => `(tactic| first | exact L2.CapOk.nil | (refine L2.CapOk.own ?_; walk_at "capok") | (refine L2.CapOk.take (by with_unfolding_all rfl) (by first | exact Or.inl (by with_unfolding_all rfl) | exact Or.inr (by with_unfolding_all rfl)) (by first | exact Or.inl (by with_unfolding_all rfl) | exact Or.inr (by with_unfolding_all rfl)) (by with_unfolding_all rfl) ?_; walk_at "capok"))
local macro_rules | `(tactic| walk_at "compok") => `(tactic| (refine ⟨?c1, ?c3, ?c0, ?c4, ?c5, ?c6, ?c7⟩; (case c1 => with_unfolding_all rfl); (case c3 => walk_at "capok"); (case c0 => rfl); (case c4 => decide +kernel); (case c5 => decide +kernel); (case c6 => with_unfolding_all rfl); (case c7 => (intro _; rfl))))
local macro_rules | `(tactic| walk_at "rd") => `(tactic| simp only [L2.ap_iStr, L2.ap_fldK, L2.ap_sFld, L2.ap_methD, L2.ap_make, L2.ap_dget2, L2.ap_dget, L2.ap_dput, L2.ap_dnewK, L2.ap_dpop1, L2.ap_dictOf, L2.ap_inD, L2.ap_leS, L2.ap_rIsC, L2.ap_ixT, L2.ap_rTupOf, L2.ap_rIn, L2.ap_lenS, L2.ap_iVals, L2.ap_rVals, L2.ap_tSortK, L2.ap_rSortK, L2.ap_rSortI, L2.ap_iKeys, L2.ap_raiseF, L2.ap_xini, L2.ap_sxfld, L2.ap_xfld, L2.ap_isF, L2.ap_isFs, L2.ap_FI, L2.ap_rSortDI, L2.ap_thawV, L2.ap_tryX, L2.ap_bExpr, L2.ap_bIf, L2.ap_xMethD, L2.ap_rMaxL, L2.ap_rSortP, L2.ap_iZip, L2.ap_seq, L2.ap_next, L2.ap_asg, L2.ap_name, L2.ap_var, L2.ap_c, L2.ap_op, L2.ap_un, L2.ap_rI, L2.ap_rI0, L2.ap_rU, L2.ap_rEq, L2.ap_rNe, L2.ap_ret, L2.ap_retN, L2.ap_drop, L2.ap_test, L2.ap_tB, L2.ap_and, L2.ap_or, L2.ap_not, L2.ap_andV, L2.ap_notV, L2.ap_ifE, L2.ap_call, L2.ap_nil, L2.ap_cons, L2.ap_cb, L2.ap_lst, L2.ap_tup, L2.ap_chain, L2.ap_sl, L2.ap_noPart, L2.ap_part, L2.ap_gNil, L2.ap_gCons, L2.ap_gTup, L2.ap_bm, L2.ap_bm0, L2.ap_ixL, L2.ap_slL, L2.ap_rLen, L2.ap_rSum, L2.ap_rAll, L2.ap_rListOf, L2.ap_rIsT, L2.ap_append, L2.ap_rCat, L2.ap_for, L2.ap_iList, L2.ap_iRng1, L2.ap_comp, L2.ap_noIf, L2.scal_int, L2.scal_str, L2.scal_bl, L2.start_eq, List.map_cons, List.map_nil, List.length_cons, List.length_nil, List.cons_append, List.nil_append, List.append_nil, List.replicate_succ, List.replicate_zero, Nat.reduceAdd, Nat.reduceSub, Nat.sub_self, List.set_cons_zero, List.set_cons_succ, List.getElem?_cons_zero, List.getElem?_cons_succ, Option.some.injEq, L2.V.int.injEq, L2.V.bl.injEq, L2.V.str.injEq, L2.V.ref.injEq, L2.V.ty.injEq, List.cons.injEq, exists_eq_left', exists_eq_left, exists_and_left, exists_eq', exists_eq, true_and, and_true, and_assoc, exists_const, Bool.not_true, Bool.not_false, if_true, if_false, Bool.false_eq_true, decide_true, decide_false, reduceCtorEq, Bool.not_eq_true', decide_eq_true_eq, decide_eq_false_iff_not])
local macro_rules | `(tactic| walk_at "rdi") => `(tactic| simp only [L2.ap_iStr, L2.ap_fldK, L2.ap_sFld, L2.ap_methD, L2.ap_make, L2.ap_dget2, L2.ap_dget, L2.ap_dput, L2.ap_dnewK, L2.ap_dpop1, L2.ap_dictOf, L2.ap_inD, L2.ap_leS, L2.ap_rIsC, L2.ap_ixT, L2.ap_rTupOf, L2.ap_rIn, L2.ap_lenS, L2.ap_iVals, L2.ap_rVals, L2.ap_tSortK, L2.ap_rSortK, L2.ap_rSortI, L2.ap_iKeys, L2.ap_raiseF, L2.ap_xini, L2.ap_sxfld, L2.ap_xfld, L2.ap_isF, L2.ap_isFs, L2.ap_FI, L2.ap_rSortDI, L2.ap_thawV, L2.ap_tryX, L2.ap_bExpr, L2.ap_bIf, L2.ap_xMethD, L2.ap_rMaxL, L2.ap_rSortP, L2.ap_iZip, L2.ap_next, L2.ap_asg, L2.ap_name, L2.ap_var, L2.ap_c, L2.ap_op, L2.ap_un, L2.ap_rI, L2.ap_rI0, L2.ap_rU, L2.ap_rEq, L2.ap_rNe, L2.ap_ret, L2.ap_retN, L2.ap_drop, L2.ap_if, L2.ap_test, L2.ap_tB, L2.ap_and, L2.ap_or, L2.ap_not, L2.ap_andV, L2.ap_notV, L2.ap_ifE, L2.ap_call, L2.ap_nil, L2.ap_cons, L2.ap_cb, L2.ap_lst, L2.ap_tup, L2.ap_chain, L2.ap_sl, L2.ap_noPart, L2.ap_part, L2.ap_gNil, L2.ap_gCons, L2.ap_gTup, L2.ap_bm, L2.ap_bm0, L2.ap_ixL, L2.ap_slL, L2.ap_rLen, L2.ap_rSum, L2.ap_rAll, L2.ap_rListOf, L2.ap_rIsT, L2.ap_append, L2.ap_rCat, L2.ap_comp, L2.ap_iList, L2.ap_iRng1, L2.ap_noIf, L2.scal_int, L2.scal_str, L2.scal_bl, L2.start_eq, List.map_cons, List.map_nil, List.length_cons, List.length_nil, List.cons_append, List.nil_append, List.append_nil, List.replicate_succ, List.replicate_zero, Nat.reduceAdd, Nat.reduceSub, Nat.sub_self, List.set_cons_zero, List.set_cons_succ, List.getElem?_cons_zero, List.getElem?_cons_succ, Option.some.injEq, L2.V.int.injEq, L2.V.bl.injEq, L2.V.str.injEq, L2.V.ref.injEq, L2.V.ty.injEq, List.cons.injEq, exists_eq_left', exists_eq_left, exists_and_left, exists_eq', exists_eq, true_and, and_true, and_assoc, exists_const, Bool.not_true, Bool.not_false, if_true, if_false, Bool.false_eq_true, decide_true, decide_false, reduceCtorEq, Bool.not_eq_true', decide_eq_true_eq, decide_eq_false_iff_not])
local macro_rules | `(tactic| walk_at "rda") => `(tactic| simp only [L2.ap_iStr, L2.ap_fldK, L2.ap_sFld, L2.ap_methD, L2.ap_make, L2.ap_dget2, L2.ap_dget, L2.ap_dput, L2.ap_dnewK, L2.ap_dpop1, L2.ap_dictOf, L2.ap_inD, L2.ap_leS, L2.ap_rIsC, L2.ap_ixT, L2.ap_rTupOf, L2.ap_rIn, L2.ap_lenS, L2.ap_iVals, L2.ap_rVals, L2.ap_tSortK, L2.ap_rSortK, L2.ap_rSortI, L2.ap_iKeys, L2.ap_raiseF, L2.ap_xini, L2.ap_sxfld, L2.ap_xfld, L2.ap_isF, L2.ap_isFs, L2.ap_FI, L2.ap_rSortDI, L2.ap_thawV, L2.ap_tryX, L2.ap_bExpr, L2.ap_bIf, L2.ap_xMethD, L2.ap_rMaxL, L2.ap_rSortP, L2.ap_iZip, L2.ap_seq, L2.ap_next, L2.ap_asg, L2.ap_name, L2.ap_var, L2.ap_c, L2.ap_op, L2.ap_un, L2.ap_rI, L2.ap_rI0, L2.ap_rU, L2.ap_rEq, L2.ap_rNe, L2.ap_ret, L2.ap_retN, L2.ap_drop, L2.ap_if, L2.ap_test, L2.ap_tB, L2.ap_and, L2.ap_or, L2.ap_not, L2.ap_andV, L2.ap_notV, L2.ap_ifE, L2.ap_call, L2.ap_nil, L2.ap_cons, L2.ap_cb, L2.ap_lst, L2.ap_tup, L2.ap_chain, L2.ap_sl, L2.ap_noPart, L2.ap_part, L2.ap_gNil, L2.ap_gCons, L2.ap_gTup, L2.ap_bm, L2.ap_bm0, L2.ap_ixL, L2.ap_slL, L2.ap_rLen, L2.ap_rSum, L2.ap_rAll, L2.ap_rListOf, L2.ap_rIsT, L2.ap_append, L2.ap_rCat, L2.ap_for, L2.ap_iList, L2.ap_iRng1, L2.ap_comp, L2.ap_noIf, L2.scal_int, L2.scal_str, L2.scal_bl, L2.start_eq, List.map_cons, List.map_nil, List.length_cons, List.length_nil, List.cons_append, List.nil_append, List.append_nil, List.replicate_succ, List.replicate_zero, Nat.reduceAdd, Nat.reduceSub, Nat.sub_self, List.set_cons_zero, List.set_cons_succ, List.getElem?_cons_zero, List.getElem?_cons_succ, Option.some.injEq, L2.V.int.injEq, L2.V.bl.injEq, L2.V.str.injEq, L2.V.ref.injEq, L2.V.ty.injEq, List.cons.injEq, exists_eq_left', exists_eq_left, exists_and_left, exists_eq', exists_eq, true_and, and_true, and_assoc, exists_const, Bool.not_true, Bool.not_false, if_true, if_false, Bool.false_eq_true, decide_true, decide_false, reduceCtorEq, Bool.not_eq_true', decide_eq_true_eq, decide_eq_false_iff_not])
namespace My
open PySem L2 PyProof.Rows
def top (i : Nat) : Stmt := PySem.Challenge.pw_lotledger_k70_entries_kept.main.body.getD i (.Pass ⟨0, 0, 0, 0⟩)
abbrev Gh : Stmt := top 55
abbrev Ek : Stmt := top 53
abbrev Et : Stmt := top 56
abbrev Hw : Stmt := top 54
abbrev CZ : Stmt := top 61
abbrev Dz : Stmt := top 62
abbrev Ht : Stmt := top 60
abbrev Gp : Stmt := top 59
abbrev Fp : Stmt := top 58
abbrev Jo : Stmt := top 63
abbrev Ep : Stmt := top 64
abbrev Jm : Stmt := top 57
abbrev En : Stmt := top 65
abbrev CQ : Stmt := inClass (top 50) 0
abbrev Fo : Stmt := top 68
abbrev Ei : Stmt := top 42
abbrev Jk : Stmt := top 41
abbrev Jl : Stmt := top 40
abbrev CV : Stmt := top 31
abbrev Er : Stmt := top 32
abbrev Ku : Stmt := top 34
abbrev Gu : Stmt := top 33
abbrev Dk : Stmt := inClass (top 23) 0
abbrev CG : Stmt := inClass (top 29) 0
abbrev Fl : Stmt := top 35
abbrev Cr : Stmt := inClass (top 24) 0
abbrev Fv : Stmt := top 36
abbrev Gi : Stmt := top 37
abbrev Cg : Stmt := inClass (top 25) 0
abbrev Dy : Stmt := inClass (top 26) 0
abbrev Cd : Stmt := inClass (top 27) 0
abbrev Dh : Stmt := inClass (top 28) 0
abbrev Cy : Stmt := top 30
abbrev Jq : Stmt := inClass (top 24) 1
abbrev Jh : Stmt := inClass (top 24) 2
abbrev Gk : Stmt := top 38
abbrev Ia : Stmt := inClass (top 25) 1
abbrev HW : Stmt := inClass (top 25) 2
abbrev HY : Stmt := inClass (top 26) 1
abbrev HJ : Stmt := inClass (top 26) 2
abbrev Hr : Stmt := inClass (top 27) 1
abbrev HB : Stmt := inClass (top 27) 2
abbrev Gv : Stmt := inClass (top 28) 1
abbrev Gq : Stmt := inClass (top 28) 2
abbrev Em : Stmt := inClass (top 29) 1
abbrev Eu : Stmt := inClass (top 29) 2
abbrev DR : Stmt := top 51
abbrev Di : Stmt := inClass (top 50) 5
abbrev Gn : Stmt := top 71
abbrev Cz : Stmt := top 72
abbrev Dj : Stmt := inClass (top 6) 0
abbrev Ej : Stmt := inClass (top 50) 1
abbrev Cp : Stmt := inClass (top 11) 0
abbrev Bu : Stmt := inClass (top 50) 4
abbrev DP : Stmt := inClass (top 50) 2
abbrev Dd : Stmt := inClass (top 50) 3
abbrev Eo : Stmt := top 74
abbrev Gj : Stmt := top 66
abbrev Gr : Stmt := top 69
abbrev HX : Stmt := top 70
abbrev CT : Stmt := top 73
abbrev Dl : Stmt := top 76
abbrev Fj : Stmt := top 75
abbrev Ib : Stmt := top 77
abbrev Vb : Stmt := top 78
set_option genInjectivity false in
structure Adr where
 sG : Addr
 sH : Addr
 sI : Addr
 sJ : Addr
 sK : Addr
 sL : Addr
 sM : Addr
 sN : Addr
 sO : Addr
 sP : Addr
 sQ : Addr
 sR : Addr
 sS : Addr
 sT : Addr
 sU : Addr
 sV : Addr
 sW : Addr
 sX : Addr
 sY : Addr
 sZ : Addr
 tf : Addr
 tj : Addr
 tm : Addr
 tq : Addr
 tw : Addr
 tz : Addr
 tD : Addr
 tE : Addr
 tF : Addr
 tG : Addr
 tH : Addr
 tI : Addr
 tJ : Addr
 tK : Addr
 tL : Addr
 tM : Addr
 tN : Addr
 tO : Addr
 tP : Addr
 tQ : Addr
 tR : Addr
 tS : Addr
 tT : Addr
 tU : Addr
 tV : Addr
 tW : Addr
 tX : Addr
 tY : Addr
 tZ : Addr
 t3 : Addr
 t4 : Addr
 t6 : Addr
 t7 : Addr
 t8 : Addr
 t9 : Addr
 uc : Addr
 ud : Addr
 ue : Addr
 uf : Addr
 ug : Addr
 uh : Addr
 ui : Addr
 uj : Addr
 uk : Addr
 law : Addr
 ul : Addr
 um : Addr
 uo : Addr
 uq : Addr
 ut : Addr
 uu : Addr
 uv : Addr
 uw : Addr
 ux : Addr
 uy : Addr
 uz : Addr
 uA : Addr
 uB : Addr
 uC : Addr
 uD : Addr
 uE : Addr
 uF : Addr
 uG : Addr
 uH : Addr
 uI : Tok
 uJ : Tok
 uK : Tok
 uL : Tok
 uM : Tok
 uN : Tok
 uO : Tok
 uP : Tok
 uQ : Tok
set_option genInjectivity false in
structure Fds where
 sG : FuncData
 sH : FuncData
 sI : FuncData
 sJ : FuncData
 sK : FuncData
 sL : FuncData
 sM : FuncData
 sN : FuncData
 sO : FuncData
 sP : FuncData
 sQ : FuncData
 sR : FuncData
 sS : FuncData
 sT : FuncData
 sU : FuncData
 sV : FuncData
 sW : FuncData
 sX : FuncData
 sY : FuncData
 sZ : FuncData
 tf : FuncData
 tj : FuncData
 tm : FuncData
 tq : FuncData
 tw : FuncData
 tz : FuncData
 tD : FuncData
 tE : FuncData
 tF : FuncData
 tG : FuncData
 tH : FuncData
 tI : FuncData
 tJ : FuncData
 tK : FuncData
 tL : FuncData
 tM : FuncData
 tN : FuncData
 tO : FuncData
 tP : FuncData
 tQ : FuncData
 tR : FuncData
 tS : FuncData
 tT : FuncData
 tU : FuncData
 tV : FuncData
 tW : FuncData
 tX : FuncData
 tY : FuncData
 tZ : FuncData
 t3 : FuncData
 t4 : FuncData
 t6 : FuncData
 t7 : FuncData
 t8 : FuncData
 t9 : FuncData
 uc : FuncData
 ud : FuncData
 ue : FuncData
 uf : FuncData
 ug : FuncData
 uh : FuncData
 ui : FuncData
 uj : FuncData
 uk : FuncData
 law : FuncData
structure Txt (K : Fg_) (mg : Str -> Option Value) (A : Adr) (D : Fds) : Prop where
 uR : mg "_law_mixed" = some (.ref A.sG)
 uS : PySem.W.keepIn K (.ref A.sG) = true
 uT : Fun K "_law_mixed" "_law_mixed" Gh A.sG D.sG
 uU : mg "_law_cell_at" = some (.ref A.sH)
 uV : PySem.W.keepIn K (.ref A.sH) = true
 uW : Fun K "_law_cell_at" "_law_cell_at" Ek A.sH D.sH
 uX : mg "_law_sources" = some (.ref A.sI)
 uY : PySem.W.keepIn K (.ref A.sI) = true
 uZ : Fun K "_law_sources" "_law_sources" Et A.sI D.sI
 u8 : mg "_law_take" = some (.ref A.sJ)
 u9 : PySem.W.keepIn K (.ref A.sJ) = true
 va : Fun K "_law_take" "_law_take" Hw A.sJ D.sJ
 vb : mg "_law_split_row" = some (.ref A.sK)
 vc : PySem.W.keepIn K (.ref A.sK) = true
 vd : Fun K "_law_split_row" "_law_split_row" CZ A.sK D.sK
 ve : mg "_law_part_row" = some (.ref A.sL)
 vf : PySem.W.keepIn K (.ref A.sL) = true
 vg : Fun K "_law_part_row" "_law_part_row" Dz A.sL D.sL
 vh : mg "_law_some" = some (.ref A.sM)
 vi : PySem.W.keepIn K (.ref A.sM) = true
 vj : Fun K "_law_some" "_law_some" Ht A.sM D.sM
 vk : mg "_law_price" = some (.ref A.sN)
 vm : PySem.W.keepIn K (.ref A.sN) = true
 vn : Fun K "_law_price" "_law_price" Gp A.sN D.sN
 vo : mg "_law_pieces" = some (.ref A.sO)
 vp : PySem.W.keepIn K (.ref A.sO) = true
 vq : Fun K "_law_pieces" "_law_pieces" Fp A.sO D.sO
 vt : mg "_law_row" = some (.ref A.sP)
 vv : PySem.W.keepIn K (.ref A.sP) = true
 vw : Fun K "_law_row" "_law_row" Jo A.sP D.sP
 vx : mg "_law_counted" = some (.ref A.sQ)
 vy : PySem.W.keepIn K (.ref A.sQ) = true
 vz : Fun K "_law_counted" "_law_counted" Ep A.sQ D.sQ
 vA : mg "_law_raw" = some (.ref A.sR)
 vB : PySem.W.keepIn K (.ref A.sR) = true
 vC : Fun K "_law_raw" "_law_raw" Jm A.sR D.sR
 vD : mg "_law_history" = some (.ref A.sS)
 vE : PySem.W.keepIn K (.ref A.sS) = true
 vF : Fun K "_law_history" "_law_history" En A.sS D.sS
 vG : Fun K "__init__" "Ledger.__init__" CQ A.sT D.sT
 vH : mg "_law_turned" = some (.ref A.sU)
 vI : PySem.W.keepIn K (.ref A.sU) = true
 vJ : Fun K "_law_turned" "_law_turned" Fo A.sU D.sU
 vK : mg "refuse_twice" = some (.ref A.sV)
 vL : PySem.W.keepIn K (.ref A.sV) = true
 vM : Fun K "refuse_twice" "refuse_twice" Ei A.sV D.sV
 vN : mg "place_of" = some (.ref A.sW)
 vO : Fun K "place_of" "place_of" Jk A.sW D.sW
 vP : mg "in_order" = some (.ref A.sX)
 vQ : PySem.W.keepIn K (.ref A.sX) = true
 vR : Fun K "in_order" "in_order" Jl A.sX D.sX
 vS : mg "is_whole_number" = some (.ref A.sY)
 vT : PySem.W.keepIn K (.ref A.sY) = true
 vU : Fun K "is_whole_number" "is_whole_number" CV A.sY D.sY
 vV : mg "check_number" = some (.ref A.sZ)
 vW : PySem.W.keepIn K (.ref A.sZ) = true
 vX : Fun K "check_number" "check_number" Er A.sZ D.sZ
 vY : mg "is_name" = some (.ref A.tf)
 vZ : PySem.W.keepIn K (.ref A.tf) = true
 v9 : Fun K "is_name" "is_name" Ku A.tf D.tf
 wb : mg "check_name" = some (.ref A.tj)
 wc : PySem.W.keepIn K (.ref A.tj) = true
 wd : Fun K "check_name" "check_name" Gu A.tj D.tj
 we : Fun K "__init__" "Entry.__init__" Dk A.tm D.tm
 wf : Fun K "__init__" "Parting.__init__" CG A.tq D.tq
 wg : mg "check_trade" = some (.ref A.tw)
 wj : PySem.W.keepIn K (.ref A.tw) = true
 wk : Fun K "check_trade" "check_trade" Fl A.tw D.tw
 wl : FunD K "__init__" "Buy.__init__" Cr A.tz D.tz [V.int 0]
 wm : mg "check_named" = some (.ref A.tD)
 wn : PySem.W.keepIn K (.ref A.tD) = true
 wo : Fun K "check_named" "check_named" Fv A.tD D.tD
 wq : mg "named_copy" = some (.ref A.tE)
 wr : PySem.W.keepIn K (.ref A.tE) = true
 wt : Fun K "named_copy" "named_copy" Gi A.tE D.tE
 wu : FunD K "__init__" "Sell.__init__" Cg A.tF D.tF [V.int 0, V.non]
 wv : Fun K "__init__" "Gift.__init__" Dy A.tG D.tG
 ww : FunD K "__init__" "Give.__init__" Cd A.tH D.tH [V.non]
 wx : Fun K "__init__" "Split.__init__" Dh A.tI D.tI
 wy : mg "entry_that_tells" = some (.ref A.tJ)
 wz : PySem.W.keepIn K (.ref A.tJ) = true
 wA : Fun K "entry_that_tells" "entry_that_tells" Cy A.tJ D.tJ
 wB : Fun K "word" "Buy.word" Jq A.tK D.tK
 wC : Fun K "told" "Buy.told" Jh A.tL D.tL
 wD : mg "named_told" = some (.ref A.tM)
 wE : PySem.W.keepIn K (.ref A.tM) = true
 wF : Fun K "named_told" "named_told" Gk A.tM D.tM
 wG : Fun K "word" "Sell.word" Ia A.tN D.tN
 wH : Fun K "told" "Sell.told" HW A.tO D.tO
 wI : Fun K "word" "Gift.word" HY A.tP D.tP
 wJ : Fun K "told" "Gift.told" HJ A.tQ D.tQ
 wK : Fun K "word" "Give.word" Hr A.tR D.tR
 wL : Fun K "told" "Give.told" HB A.tS D.tS
 wM : Fun K "word" "Split.word" Gv A.tT D.tT
 wN : Fun K "told" "Split.told" Gq A.tU D.tU
 wO : Fun K "word" "Parting.word" Em A.tV D.tV
 wP : Fun K "told" "Parting.told" Eu A.tW D.tW
 wQ : mg "copy_of_entry" = some (.ref A.tX)
 wR : PySem.W.keepIn K (.ref A.tX) = true
 wS : Fun K "copy_of_entry" "copy_of_entry" DR A.tX D.tX
 wT : Fun K "entries" "Ledger.entries" Di A.tY D.tY
 wU : mg "_law_shown" = some (.ref A.tZ)
 wV : PySem.W.keepIn K (.ref A.tZ) = true
 wW : Fun K "_law_shown" "_law_shown" Gn A.tZ D.tZ
 wX : mg "_law_model_shown" = some (.ref A.t3)
 wY : PySem.W.keepIn K (.ref A.t3) = true
 wZ : Fun K "_law_model_shown" "_law_model_shown" Cz A.t3 D.t3
 xb : Fun K "__init__" "Twice.__init__" Dj A.t4 D.t4
 xf : Fun K "enter" "Ledger.enter" Ej A.t6 D.t6
 xg : Fun K "__init__" "NoNumber.__init__" Cp A.t7 D.t7
 xh : Fun K "refuse_missing" "Ledger.refuse_missing" Bu A.t8 D.t8
 xj : Fun K "strike" "Ledger.strike" DP A.t9 D.t9
 xk : Fun K "correct" "Ledger.correct" Dd A.uc D.uc
 xl : mg "_law_refused" = some (.ref A.ud)
 xm : PySem.W.keepIn K (.ref A.ud) = true
 xn : Fun K "_law_refused" "_law_refused" Eo A.ud D.ud
 xo : mg "_law_entry" = some (.ref A.ue)
 xp : PySem.W.keepIn K (.ref A.ue) = true
 xq : Fun K "_law_entry" "_law_entry" Gj A.ue D.ue
 xr : mg "_law_named" = some (.ref A.uf)
 xt : PySem.W.keepIn K (.ref A.uf) = true
 xu : Fun K "_law_named" "_law_named" Gr A.uf D.uf
 xv : mg "_law_made" = some (.ref A.ug)
 xw : PySem.W.keepIn K (.ref A.ug) = true
 xx : Fun K "_law_made" "_law_made" HX A.ug D.ug
 xy : mg "_law_kind_right" = some (.ref A.uh)
 xz : PySem.W.keepIn K (.ref A.uh) = true
 xA : Fun K "_law_kind_right" "_law_kind_right" CT A.uh D.uh
 xB : mg "_law_corrected" = some (.ref A.ui)
 xC : PySem.W.keepIn K (.ref A.ui) = true
 xD : Fun K "_law_corrected" "_law_corrected" Dl A.ui D.ui
 xE : mg "_law_struck" = some (.ref A.uj)
 xF : PySem.W.keepIn K (.ref A.uj) = true
 xG : Fun K "_law_struck" "_law_struck" Fj A.uj D.uj
 xH : mg "_law_done" = some (.ref A.uk)
 xI : PySem.W.keepIn K (.ref A.uk) = true
 xJ : Fun K "_law_done" "_law_done" Ib A.uk D.uk
 xK : Fun K "law" "law" Vb A.law D.law
 xL : mg "range" = none
 xM : mg "len" = none
 xN : mg "dict" = none
 xO : mg "sorted" = none
 xP : mg "max" = none
 xQ : mg "zip" = none
 xR : mg "isinstance" = none
 xS : mg "int" = none
 xT : mg "bool" = none
 xU : mg "all" = none
 xV : mg "str" = none
 xW : mg "list" = none
 xX : mg "sum" = none
 xY : mg "tuple" = none
 xZ : mg "ValueError" = none
 x4 : mg "Ledger" = some (.ref A.ul)
 x5 : mg "Entry" = some (.ref A.um)
 x6 : mg "Parting" = some (.ref A.uo)
 x8 : mg "Buy" = some (.ref A.uq)
 x9 : mg "Sell" = some (.ref A.ut)
 yb : mg "Gift" = some (.ref A.uu)
 yc : mg "Give" = some (.ref A.uv)
 yd : mg "Split" = some (.ref A.uw)
 ye : mg "LotError" = some (.ref A.ux)
 yf : mg "Twice" = some (.ref A.uy)
 yg : mg "NoNumber" = some (.ref A.uz)
 yh : mg "Late" = some (.ref A.uA)
 yi : mg "NoEntry" = some (.ref A.uB)
 yj : mg "NoLot" = some (.ref A.uC)
 yk : mg "NoPieces" = some (.ref A.uD)
 ym : mg "NoText" = some (.ref A.uE)
 yn : mg "NoWay" = some (.ref A.uF)
 yo : mg "NoWeights" = some (.ref A.uG)
 yp : mg "NotHeld" = some (.ref A.uH)
 yq : mg "MOST_LETTERS" = some (.int 8 A.uI)
 yr : mg "MOST_DAY" = some (.int 1000000 A.uJ)
 yt : mg "MOST_NUMBER" = some (.int 1000000 A.uK)
 yu : mg "MOST_WHOLE" = some (.int 1000000 A.uL)
 yv : mg "MOST_PIECES" = some (.int 1000000000 A.uM)
 yw : mg "MOST_PRICE" = some (.int 1000000000 A.uN)
 yx : mg "MOST_FEE" = some (.int 1000000000 A.uO)
 yy : mg "MOST_GIFT_COST" = some (.int 1000000000000000000 A.uP)
 yz : mg "MOST_SPLIT" = some (.int 1000 A.uQ)
 yA : XCls K A.ux
 yB : XClsI K A.uy A.t4
 yC : XAsk K A.uy
 yD : NoAttr K A.uy "number"
 yE : XClsI K A.uz A.t7
 yF : XAsk K A.uz
 yG : NoAttr K A.uz "number"
 yH : XIni K A.ux
 yI : Cls K A.ul
 yJ : NoAttr K A.ul "by_number"
 yK : Cls K A.uo
 yL : InsTy K A.uo
 yM : NoAttr K A.uo "day"
 yN : NoAttr K A.uo "number"
 yO : NoAttr K A.uo "ware"
 yP : NoAttr K A.uo "other"
 yQ : NoAttr K A.uo "share"
 yR : NoAttr K A.uo "whole"
 yS : Cls K A.uq
 yT : InsTy K A.uq
 yU : NoAttr K A.uq "day"
 yV : NoAttr K A.uq "number"
 yW : NoAttr K A.uq "ware"
 yX : NoAttr K A.uq "pieces"
 yY : NoAttr K A.uq "price"
 yZ : NoAttr K A.uq "fee"
 y0 : NoAttr K A.uq "cost"
 y3 : Cls K A.ut
 y4 : InsTy K A.ut
 y6 : NoAttr K A.ut "day"
 y8 : NoAttr K A.ut "number"
 y9 : NoAttr K A.ut "ware"
 za : NoAttr K A.ut "pieces"
 zb : NoAttr K A.ut "price"
 zc : NoAttr K A.ut "fee"
 zd : NoAttr K A.ut "named"
 ze : NoAttr K A.ut "proceeds"
 zf : Cls K A.uu
 zg : InsTy K A.uu
 zh : NoAttr K A.uu "day"
 zi : NoAttr K A.uu "number"
 zj : NoAttr K A.uu "ware"
 zk : NoAttr K A.uu "pieces"
 zl : NoAttr K A.uu "cost"
 zm : NoAttr K A.uu "since"
 zn : Cls K A.uv
 zo : InsTy K A.uv
 zp : NoAttr K A.uv "day"
 zq : NoAttr K A.uv "number"
 zr : NoAttr K A.uv "ware"
 zt : NoAttr K A.uv "pieces"
 zu : NoAttr K A.uv "named"
 zv : Cls K A.uw
 zw : InsTy K A.uw
 zx : NoAttr K A.uw "day"
 zy : NoAttr K A.uw "number"
 zA : NoAttr K A.uw "ware"
 zB : NoAttr K A.uw "many"
 zC : NoAttr K A.uw "of"
 zD : Mk K A.uo A.tq
 zE : Mk K A.uq A.tz
 zF : Mk K A.ut A.tF
 zG : Mk K A.uu A.tG
 zH : Mk K A.uv A.tH
 zI : Mk K A.uw A.tI
 zJ : Mk K A.ul A.sT
 zK : Meth K A.uq "word" A.tK
 zL : Meth K A.ut "word" A.tN
 zM : Meth K A.uu "word" A.tP
 zN : Meth K A.uv "word" A.tR
 zO : Meth K A.uw "word" A.tT
 zP : Meth K A.uo "word" A.tV
 zQ : Meth K A.uq "told" A.tL
 zR : Meth K A.ut "told" A.tO
 zS : Meth K A.uu "told" A.tQ
 zT : Meth K A.uv "told" A.tS
 zU : Meth K A.uw "told" A.tU
 zV : Meth K A.uo "told" A.tW
 zW : Meth K A.ul "refuse_missing" A.t8
 zX : Meth K A.ul "enter" A.t6
 zY : Meth K A.ul "strike" A.t9
 zZ : Meth K A.ul "correct" A.uc
 z0 : Meth K A.ul "entries" A.tY
 z3 : ClsFn K A.um "__init__" A.tm
 z4 : PySem.W.kitOne K (.ref A.uy) (.ref A.ux) = some true
 z5 : PySem.W.kitOne K (.ref A.uz) (.ref A.ux) = some true
 z6 : PySem.W.kitOne K (.ref A.uy) (.ref A.uy) = some true
 z7 : PySem.W.kitOne K (.ref A.uy) (.ref A.uz) = some false
 z8 : PySem.W.kitOne K (.ref A.uz) (.ref A.uy) = some false
 z9 : PySem.W.kitOne K (.ref A.uz) (.ref A.uz) = some true
 aaa : PySem.W.kitOne K (.ref A.uy) (.type "ValueError") = some true
 aab : PySem.W.kitOne K (.ref A.uz) (.type "ValueError") = some true
 aac : PySem.W.kitAny K (.ref A.uy) [.ref A.uA, .ref A.uB, .ref A.uC, .ref A.uD, .ref A.uE, .ref A.uF, .ref A.uG, .ref A.uH] = some false
 aad : PySem.W.kitAny K (.ref A.uz) [.ref A.uA, .ref A.uB, .ref A.uC, .ref A.uD, .ref A.uE, .ref A.uF, .ref A.uG, .ref A.uH] = some false
 aae : PySem.W.kitOne K (.ref A.uq) (.ref A.ut) = some false /\ PySem.W.kitOne K (.ref A.uq) (.ref A.uu) = some false /\ PySem.W.kitOne K (.ref A.uq) (.ref A.uv) = some false /\ PySem.W.kitOne K (.ref A.uq) (.ref A.uw) = some false /\ PySem.W.kitOne K (.ref A.uq) (.ref A.uo) = some false
 aaf : PySem.W.kitOne K (.ref A.ut) (.ref A.uq) = some false /\ PySem.W.kitOne K (.ref A.ut) (.ref A.uu) = some false /\ PySem.W.kitOne K (.ref A.ut) (.ref A.uv) = some false /\ PySem.W.kitOne K (.ref A.ut) (.ref A.uw) = some false /\ PySem.W.kitOne K (.ref A.ut) (.ref A.uo) = some false
 aag : PySem.W.kitOne K (.ref A.uu) (.ref A.uq) = some false /\ PySem.W.kitOne K (.ref A.uu) (.ref A.ut) = some false /\ PySem.W.kitOne K (.ref A.uu) (.ref A.uv) = some false /\ PySem.W.kitOne K (.ref A.uu) (.ref A.uw) = some false /\ PySem.W.kitOne K (.ref A.uu) (.ref A.uo) = some false
 aah : PySem.W.kitOne K (.ref A.uv) (.ref A.uq) = some false /\ PySem.W.kitOne K (.ref A.uv) (.ref A.ut) = some false /\ PySem.W.kitOne K (.ref A.uv) (.ref A.uu) = some false /\ PySem.W.kitOne K (.ref A.uv) (.ref A.uw) = some false /\ PySem.W.kitOne K (.ref A.uv) (.ref A.uo) = some false
 aai : PySem.W.kitOne K (.ref A.uw) (.ref A.uq) = some false /\ PySem.W.kitOne K (.ref A.uw) (.ref A.ut) = some false /\ PySem.W.kitOne K (.ref A.uw) (.ref A.uu) = some false /\ PySem.W.kitOne K (.ref A.uw) (.ref A.uv) = some false /\ PySem.W.kitOne K (.ref A.uw) (.ref A.uo) = some false
 aaj : PySem.W.kitOne K (.ref A.uo) (.ref A.uq) = some false /\ PySem.W.kitOne K (.ref A.uo) (.ref A.ut) = some false /\ PySem.W.kitOne K (.ref A.uo) (.ref A.uu) = some false /\ PySem.W.kitOne K (.ref A.uo) (.ref A.uv) = some false /\ PySem.W.kitOne K (.ref A.uo) (.ref A.uw) = some false
local macro_rules | `(tactic| walk_at "sc") => `(tactic| exact ⟨rfl, rfl, rfl, by decide +kernel, rfl, by decide +kernel, by decide +kernel⟩)
theorem sc__law_mixed : FnScope ["_law_cell", "_law_k", "_law_number", "_law_j", "_law_here"] ["_law_cell", "_law_k"] (Ag Gh) := by walk_at "sc"
theorem NP : FnScope ["_law_script", "_law_k"] ["_law_script", "_law_k"] (Ag Ek) := by walk_at "sc"
theorem sc__law_sources : FnScope ["_law_script", "_law_cells", "_law_many"] ["_law_script"] (Ag Et) := by walk_at "sc"
theorem sc__law_take : FnScope ["_law_digits", "_law_many", "_law_found"] ["_law_digits", "_law_many"] (Ag Hw) := by walk_at "sc"
theorem sc__law_split_row : FnScope ["_law_day", "_law_number", "_law_ware", "_law_digits", "_law_here", "_law_many", "_law_of"] ["_law_day", "_law_number", "_law_ware", "_law_digits", "_law_here"] (Ag CZ) := by walk_at "sc"
theorem sc__law_part_row : FnScope ["_law_day", "_law_number", "_law_wares", "_law_digits", "_law_counts", "_law_ware", "_law_other", "_law_whole", "_law_share"] ["_law_day", "_law_number", "_law_wares", "_law_digits", "_law_counts"] (Ag Dz) := by walk_at "sc"
theorem TF : FnScope ["_law_digits", "_law_here"] ["_law_digits", "_law_here"] (Ag Ht) := by walk_at "sc"
theorem Rt : FnScope ["_law_digits"] ["_law_digits"] (Ag Gp) := by walk_at "sc"
theorem Qe : FnScope ["_law_digits"] ["_law_digits"] (Ag Fp) := by walk_at "sc"
theorem sc__law_row : FnScope ["_law_raw_here", "_law_counts", "_law_giving", "_law_day", "_law_number", "_law_kind", "_law_at", "_law_rest", "_law_digits", "_law_wares", "_law_ware", "_law_here", "_law_other", "_law_cost"] ["_law_raw_here", "_law_counts", "_law_giving"] (Ag Jo) := by walk_at "sc"
theorem sc__law_counted : FnScope ["_law_counts", "_law_row_here", "_law_word", "_law_ware", "_law_here", "_law_after"] ["_law_counts", "_law_row_here"] (Ag Ep) := by walk_at "sc"
theorem sc__law_raw : FnScope ["_law_source", "_law_k", "_law_digits", "_law_kind", "_law_at", "_law_day", "_law_number"] ["_law_source", "_law_k"] (Ag Jm) := by walk_at "sc"
theorem sc__law_history : FnScope ["_law_script", "_law_giving", "_law_counts", "_law_rows", "_law_sources_here", "_law_raw_here", "_law_row_here", "_law_more"] ["_law_script", "_law_giving"] (Ag En) := by walk_at "sc"
theorem Kg : FnScope ["self"] ["self"] (Ag CQ) := by walk_at "sc"
theorem sc__law_turned : FnScope ["_law_entries", "_law_cell", "_law_found", "_law_number", "_law_entry_here"] ["_law_entries", "_law_cell"] (Ag Fo) := by walk_at "sc"
theorem sc_refuse_twice : FnScope ["numbers", "rising", "ahead", "behind"] ["numbers"] (Ag Ei) := by walk_at "sc"
theorem Ul : FnScope ["entry"] ["entry"] (Ag Jk) := by walk_at "sc"
theorem UT : FnScope ["entries"] ["entries"] (Ag Jl) := by walk_at "sc"
theorem Ka : FnScope ["value"] ["value"] (Ag CV) := by walk_at "sc"
theorem Ox : FnScope ["what", "value", "least", "most"] ["what", "value", "least", "most"] (Ag Er) := by walk_at "sc"
theorem WN : FnScope ["value"] ["value"] (Ag Ku) := by walk_at "sc"
theorem QT : FnScope ["what", "value"] ["what", "value"] (Ag Gu) := by walk_at "sc"
theorem Ln : FnScope ["self", "day", "number", "ware"] ["self", "day", "number", "ware"] (Ag Dk) := by walk_at "sc"
theorem JN : FnScope ["self", "day", "number", "ware", "other", "share", "whole"] ["self", "day", "number", "ware", "other", "share", "whole"] (Ag CG) := by walk_at "sc"
theorem Qc : FnScope ["pieces", "price", "fee"] ["pieces", "price", "fee"] (Ag Fl) := by walk_at "sc"
theorem Pq : FnScope ["self", "day", "number", "ware", "pieces", "price", "fee"] ["self", "day", "number", "ware", "pieces", "price", "fee"] (Ag Cr) := by walk_at "sc"
theorem sc_check_named : FnScope ["named", "pieces", "seen", "lot", "lot_pieces"] ["named", "pieces"] (Ag Fv) := by walk_at "sc"
theorem QL : FnScope ["named"] ["named"] (Ag Gi) := by walk_at "sc"
theorem MT : FnScope ["self", "day", "number", "ware", "pieces", "price", "fee", "named"] ["self", "day", "number", "ware", "pieces", "price", "fee", "named"] (Ag Cg) := by walk_at "sc"
theorem MP : FnScope ["self", "day", "number", "ware", "pieces", "cost", "since"] ["self", "day", "number", "ware", "pieces", "cost", "since"] (Ag Dy) := by walk_at "sc"
theorem MK : FnScope ["self", "day", "number", "ware", "pieces", "named"] ["self", "day", "number", "ware", "pieces", "named"] (Ag Cd) := by walk_at "sc"
theorem Lr : FnScope ["self", "day", "number", "ware", "many", "of"] ["self", "day", "number", "ware", "many", "of"] (Ag Dh) := by walk_at "sc"
theorem sc_entry_that_tells : FnScope ["told", "word"] ["told"] (Ag Cy) := by walk_at "sc"
theorem Uq : FnScope ["self"] ["self"] (Ag Jq) := by walk_at "sc"
theorem Vl : FnScope ["self"] ["self"] (Ag Jh) := by walk_at "sc"
theorem QW : FnScope ["named"] ["named"] (Ag Gk) := by walk_at "sc"
theorem RZ : FnScope ["self"] ["self"] (Ag Ia) := by walk_at "sc"
theorem sc_Sell_told : FnScope ["self", "named"] ["self"] (Ag HW) := by walk_at "sc"
theorem SX : FnScope ["self"] ["self"] (Ag HY) := by walk_at "sc"
theorem Th : FnScope ["self"] ["self"] (Ag HJ) := by walk_at "sc"
theorem RV : FnScope ["self"] ["self"] (Ag Hr) := by walk_at "sc"
theorem RX : FnScope ["self"] ["self"] (Ag HB) := by walk_at "sc"
theorem Rn : FnScope ["self"] ["self"] (Ag Gv) := by walk_at "sc"
theorem Rq : FnScope ["self"] ["self"] (Ag Gq) := by walk_at "sc"
theorem Ot : FnScope ["self"] ["self"] (Ag Em) := by walk_at "sc"
theorem Np : FnScope ["self"] ["self"] (Ag Eu) := by walk_at "sc"
theorem Mu : FnScope ["entry"] ["entry"] (Ag DR) := by walk_at "sc"
theorem Li : FnScope ["self"] ["self"] (Ag Di) := by walk_at "sc"
theorem QF : FnScope ["_law_entries"] ["_law_entries"] (Ag Gn) := by walk_at "sc"
theorem JL : FnScope ["_law_model"] ["_law_model"] (Ag Cz) := by walk_at "sc"
theorem Lg : FnScope ["self", "number"] ["self", "number"] (Ag Dj) := by walk_at "sc"
theorem Nx : FnScope ["self", "entry"] ["self", "entry"] (Ag Ej) := by walk_at "sc"
theorem Jt : FnScope ["self", "number"] ["self", "number"] (Ag Cp) := by walk_at "sc"
theorem Hf : FnScope ["self", "number"] ["self", "number"] (Ag Bu) := by walk_at "sc"
theorem MN : FnScope ["self", "number"] ["self", "number"] (Ag DP) := by walk_at "sc"
theorem sc_Ledger_correct : FnScope ["self", "entry", "stood"] ["self", "entry"] (Ag Dd) := by walk_at "sc"
theorem sc__law_refused : FnScope ["_law_ledger", "_law_way_here", "_law_entry_here", "_law_told", "e"] ["_law_ledger", "_law_way_here", "_law_entry_here"] (Ag Eo) := by walk_at "sc"
theorem QK : FnScope ["_law_row_here"] ["_law_row_here"] (Ag Gj) := by walk_at "sc"
theorem QR : FnScope ["_law_row_here"] ["_law_row_here"] (Ag Gr) := by walk_at "sc"
theorem RN : FnScope ["_law_row_here"] ["_law_row_here"] (Ag HX) := by walk_at "sc"
theorem sc__law_kind_right : FnScope ["_law_entry_here", "_law_kinds"] ["_law_entry_here"] (Ag CT) := by walk_at "sc"
theorem sc__law_corrected : FnScope ["_law_ledger", "_law_model", "_law_number", "_law_cell", "_law_row_here", "_law_found"] ["_law_ledger", "_law_model", "_law_number", "_law_cell"] (Ag Dl) := by walk_at "sc"
theorem sc__law_struck : FnScope ["_law_ledger", "_law_model", "_law_gone", "_law_number", "_law_found"] ["_law_ledger", "_law_model", "_law_gone", "_law_number"] (Ag Fj) := by walk_at "sc"
theorem sc__law_done : FnScope ["_law_ledger", "_law_model", "_law_gone", "_law_cell", "_law_number", "_law_numbers", "_law_row_here", "_law_chosen"] ["_law_ledger", "_law_model", "_law_gone", "_law_cell"] (Ag Ib) := by walk_at "sc"
theorem sc_law : FnScope ["_law_script", "_law_rows", "_law_ledger", "_law_model", "_law_entry_here", "_law_gone", "_law_cell", "_law_found"] ["_law_script"] (Ag Vb) := by walk_at "sc"
section
variable {P : Program} {w : World} {K : Fg_} {mg : Str -> Option Value} {base : Heap} {A : Adr} {D : Fds}
theorem RG (T : Txt K mg A D) : Binds K D.sG ["_law_cell", "_law_k"] [] := T.uT.binds fun _ _ _ _ _ _ us hl => match us, hl with | [_, _], _ => rfl
theorem Es (T : Txt K mg A D) : Binds K D.sH ["_law_script", "_law_k"] [] := T.uW.binds fun _ _ _ _ _ _ us hl => match us, hl with | [_, _], _ => rfl
theorem Qk (T : Txt K mg A D) : Binds K D.sI ["_law_script"] [] := T.uZ.binds fun _ _ _ _ _ _ us hl => match us, hl with | [_], _ => rfl
theorem Ax (T : Txt K mg A D) : Binds K D.sJ ["_law_digits", "_law_many"] [] := T.va.binds fun _ _ _ _ _ _ us hl => match us, hl with | [_, _], _ => rfl
theorem Nb (T : Txt K mg A D) : Binds K D.sK ["_law_day", "_law_number", "_law_ware", "_law_digits", "_law_here"] [] := T.vd.binds fun _ _ _ _ _ _ us hl => match us, hl with | [_, _, _, _, _], _ => rfl
theorem Oi (T : Txt K mg A D) : Binds K D.sL ["_law_day", "_law_number", "_law_wares", "_law_digits", "_law_counts"] [] := T.vg.binds fun _ _ _ _ _ _ us hl => match us, hl with | [_, _, _, _, _], _ => rfl
theorem PL (T : Txt K mg A D) : Binds K D.sM ["_law_digits", "_law_here"] [] := T.vj.binds fun _ _ _ _ _ _ us hl => match us, hl with | [_, _], _ => rfl
theorem Mh (T : Txt K mg A D) : Binds K D.sN ["_law_digits"] [] := T.vn.binds fun _ _ _ _ _ _ us hl => match us, hl with | [_], _ => rfl
theorem Ke (T : Txt K mg A D) : Binds K D.sO ["_law_digits"] [] := T.vq.binds fun _ _ _ _ _ _ us hl => match us, hl with | [_], _ => rfl
theorem WP (T : Txt K mg A D) : Binds K D.sP ["_law_raw_here", "_law_counts", "_law_giving"] [] := T.vw.binds fun _ _ _ _ _ _ us hl => match us, hl with | [_, _, _], _ => rfl
theorem PN (T : Txt K mg A D) : Binds K D.sQ ["_law_counts", "_law_row_here"] [] := T.vz.binds fun _ _ _ _ _ _ us hl => match us, hl with | [_, _], _ => rfl
theorem Xa (T : Txt K mg A D) : Binds K D.sR ["_law_source", "_law_k"] [] := T.vC.binds fun _ _ _ _ _ _ us hl => match us, hl with | [_, _], _ => rfl
theorem Ql (T : Txt K mg A D) : Binds K D.sS ["_law_script", "_law_giving"] [] := T.vF.binds fun _ _ _ _ _ _ us hl => match us, hl with | [_, _], _ => rfl
theorem LC (T : Txt K mg A D) : Binds K D.sT ["self"] [] := T.vG.binds fun _ _ _ _ _ _ us hl => match us, hl with | [_], _ => rfl
theorem QM (T : Txt K mg A D) : Binds K D.sU ["_law_entries", "_law_cell"] [] := T.vJ.binds fun _ _ _ _ _ _ us hl => match us, hl with | [_, _], _ => rfl
theorem PQ (T : Txt K mg A D) : Binds K D.sV ["numbers"] [] := T.vM.binds fun _ _ _ _ _ _ us hl => match us, hl with | [_], _ => rfl
theorem Wr (T : Txt K mg A D) : Binds K D.sW ["entry"] [] := T.vO.binds fun _ _ _ _ _ _ us hl => match us, hl with | [_], _ => rfl
theorem Wv (T : Txt K mg A D) : Binds K D.sX ["entries"] [] := T.vR.binds fun _ _ _ _ _ _ us hl => match us, hl with | [_], _ => rfl
theorem Ls (T : Txt K mg A D) : Binds K D.sY ["value"] [] := T.vU.binds fun _ _ _ _ _ _ us hl => match us, hl with | [_], _ => rfl
theorem Be (T : Txt K mg A D) : Binds K D.sZ ["what", "value", "least", "most"] [] := T.vX.binds fun _ _ _ _ _ _ us hl => match us, hl with | [_, _, _, _], _ => rfl
theorem YW (T : Txt K mg A D) : Binds K D.tf ["value"] [] := T.v9.binds fun _ _ _ _ _ _ us hl => match us, hl with | [_], _ => rfl
theorem Mg (T : Txt K mg A D) : Binds K D.tj ["what", "value"] [] := T.wd.binds fun _ _ _ _ _ _ us hl => match us, hl with | [_, _], _ => rfl
theorem BW (T : Txt K mg A D) : Binds K D.tm ["self", "day", "number", "ware"] [] := T.we.binds fun _ _ _ _ _ _ us hl => match us, hl with | [_, _, _, _], _ => rfl
theorem Ge (T : Txt K mg A D) : Binds K D.tq ["self", "day", "number", "ware", "other", "share", "whole"] [] := T.wf.binds fun _ _ _ _ _ _ us hl => match us, hl with | [_, _, _, _, _, _, _], _ => rfl
theorem Ky (T : Txt K mg A D) : Binds K D.tw ["pieces", "price", "fee"] [] := T.wk.binds fun _ _ _ _ _ _ us hl => match us, hl with | [_, _, _], _ => rfl
theorem KJ (T : Txt K mg A D) : Binds K D.tD ["named", "pieces"] [] := T.wo.binds fun _ _ _ _ _ _ us hl => match us, hl with | [_, _], _ => rfl
theorem Gm (T : Txt K mg A D) : Binds K D.tE ["named"] [] := T.wt.binds fun _ _ _ _ _ _ us hl => match us, hl with | [_], _ => rfl
theorem Ir (T : Txt K mg A D) : Binds K D.tG ["self", "day", "number", "ware", "pieces", "cost", "since"] [] := T.wv.binds fun _ _ _ _ _ _ us hl => match us, hl with | [_, _, _, _, _, _, _], _ => rfl
theorem Ii (T : Txt K mg A D) : Binds K D.tI ["self", "day", "number", "ware", "many", "of"] [] := T.wx.binds fun _ _ _ _ _ _ us hl => match us, hl with | [_, _, _, _, _, _], _ => rfl
theorem JQ (T : Txt K mg A D) : Binds K D.tJ ["told"] [] := T.wA.binds fun _ _ _ _ _ _ us hl => match us, hl with | [_], _ => rfl
theorem Qt (T : Txt K mg A D) : Binds K D.tK ["self"] [] := T.wB.binds fun _ _ _ _ _ _ us hl => match us, hl with | [_], _ => rfl
theorem GD (T : Txt K mg A D) : Binds K D.tL ["self"] [] := T.wC.binds fun _ _ _ _ _ _ us hl => match us, hl with | [_], _ => rfl
theorem Mr (T : Txt K mg A D) : Binds K D.tM ["named"] [] := T.wF.binds fun _ _ _ _ _ _ us hl => match us, hl with | [_], _ => rfl
theorem Ow (T : Txt K mg A D) : Binds K D.tN ["self"] [] := T.wG.binds fun _ _ _ _ _ _ us hl => match us, hl with | [_], _ => rfl
theorem FT (T : Txt K mg A D) : Binds K D.tO ["self"] [] := T.wH.binds fun _ _ _ _ _ _ us hl => match us, hl with | [_], _ => rfl
theorem Pg (T : Txt K mg A D) : Binds K D.tP ["self"] [] := T.wI.binds fun _ _ _ _ _ _ us hl => match us, hl with | [_], _ => rfl
theorem FJ (T : Txt K mg A D) : Binds K D.tQ ["self"] [] := T.wJ.binds fun _ _ _ _ _ _ us hl => match us, hl with | [_], _ => rfl
theorem Oh (T : Txt K mg A D) : Binds K D.tR ["self"] [] := T.wK.binds fun _ _ _ _ _ _ us hl => match us, hl with | [_], _ => rfl
theorem FP (T : Txt K mg A D) : Binds K D.tS ["self"] [] := T.wL.binds fun _ _ _ _ _ _ us hl => match us, hl with | [_], _ => rfl
theorem Mt (T : Txt K mg A D) : Binds K D.tT ["self"] [] := T.wM.binds fun _ _ _ _ _ _ us hl => match us, hl with | [_], _ => rfl
theorem Ey (T : Txt K mg A D) : Binds K D.tU ["self"] [] := T.wN.binds fun _ _ _ _ _ _ us hl => match us, hl with | [_], _ => rfl
theorem Jy (T : Txt K mg A D) : Binds K D.tV ["self"] [] := T.wO.binds fun _ _ _ _ _ _ us hl => match us, hl with | [_], _ => rfl
theorem CW (T : Txt K mg A D) : Binds K D.tW ["self"] [] := T.wP.binds fun _ _ _ _ _ _ us hl => match us, hl with | [_], _ => rfl
theorem Gd (T : Txt K mg A D) : Binds K D.tX ["entry"] [] := T.wS.binds fun _ _ _ _ _ _ us hl => match us, hl with | [_], _ => rfl
theorem Dc (T : Txt K mg A D) : Binds K D.tY ["self"] [] := T.wT.binds fun _ _ _ _ _ _ us hl => match us, hl with | [_], _ => rfl
theorem Je (T : Txt K mg A D) : Binds K D.tZ ["_law_entries"] [] := T.wW.binds fun _ _ _ _ _ _ us hl => match us, hl with | [_], _ => rfl
theorem Du (T : Txt K mg A D) : Binds K D.t3 ["_law_model"] [] := T.wZ.binds fun _ _ _ _ _ _ us hl => match us, hl with | [_], _ => rfl
theorem MJ (T : Txt K mg A D) : Binds K D.t4 ["self", "number"] [] := T.xb.binds fun _ _ _ _ _ _ us hl => match us, hl with | [_, _], _ => rfl
theorem Gz (T : Txt K mg A D) : Binds K D.t6 ["self", "entry"] [] := T.xf.binds fun _ _ _ _ _ _ us hl => match us, hl with | [_, _], _ => rfl
theorem JC (T : Txt K mg A D) : Binds K D.t7 ["self", "number"] [] := T.xg.binds fun _ _ _ _ _ _ us hl => match us, hl with | [_, _], _ => rfl
theorem Ea (T : Txt K mg A D) : Binds K D.t8 ["self", "number"] [] := T.xh.binds fun _ _ _ _ _ _ us hl => match us, hl with | [_, _], _ => rfl
theorem Jb (T : Txt K mg A D) : Binds K D.t9 ["self", "number"] [] := T.xj.binds fun _ _ _ _ _ _ us hl => match us, hl with | [_, _], _ => rfl
theorem Ik (T : Txt K mg A D) : Binds K D.uc ["self", "entry"] [] := T.xk.binds fun _ _ _ _ _ _ us hl => match us, hl with | [_, _], _ => rfl
theorem El (T : Txt K mg A D) : Binds K D.ud ["_law_ledger", "_law_way_here", "_law_entry_here"] [] := T.xn.binds fun _ _ _ _ _ _ us hl => match us, hl with | [_, _, _], _ => rfl
theorem Mi (T : Txt K mg A D) : Binds K D.ue ["_law_row_here"] [] := T.xq.binds fun _ _ _ _ _ _ us hl => match us, hl with | [_], _ => rfl
theorem RP (T : Txt K mg A D) : Binds K D.uf ["_law_row_here"] [] := T.xu.binds fun _ _ _ _ _ _ us hl => match us, hl with | [_], _ => rfl
theorem Hq (T : Txt K mg A D) : Binds K D.ug ["_law_row_here"] [] := T.xx.binds fun _ _ _ _ _ _ us hl => match us, hl with | [_], _ => rfl
theorem Lj (T : Txt K mg A D) : Binds K D.uh ["_law_entry_here"] [] := T.xA.binds fun _ _ _ _ _ _ us hl => match us, hl with | [_], _ => rfl
theorem Mv (T : Txt K mg A D) : Binds K D.ui ["_law_ledger", "_law_model", "_law_number", "_law_cell"] [] := T.xD.binds fun _ _ _ _ _ _ us hl => match us, hl with | [_, _, _, _], _ => rfl
theorem QV (T : Txt K mg A D) : Binds K D.uj ["_law_ledger", "_law_model", "_law_gone", "_law_number"] [] := T.xG.binds fun _ _ _ _ _ _ us hl => match us, hl with | [_, _, _, _], _ => rfl
theorem Ue (T : Txt K mg A D) : Binds K D.uk ["_law_ledger", "_law_model", "_law_gone", "_law_cell"] [] := T.xJ.binds fun _ _ _ _ _ _ us hl => match us, hl with | [_, _, _, _], _ => rfl
theorem Df (T : Txt K mg A D) : ∃ ds, Binds K D.tz ["self", "day", "number", "ware", "pieces", "price", "fee"] ds /\ Vals (([V.int 0] : List V).drop 1) ds := T.wl.binds (ps := ["self", "day", "number", "ware", "pieces", "price", "fee"]) 1 fun Td kV doc pm an cdv ct its us h1 h2 => match its, h1, h2 with
 | [i0], _, h2 => by
  have h3 : us.length = 7 := by simpa using h2
  exact match us, h3 with | [u0, u1, u2, u3, u4, u5, u6], _ => ⟨_, rfl, rfl⟩
theorem BL (T : Txt K mg A D) : ∃ ds, Binds K D.tH ["self", "day", "number", "ware", "pieces", "named"] ds /\ Vals (([V.non] : List V).drop 1) ds := T.ww.binds (ps := ["self", "day", "number", "ware", "pieces", "named"]) 1 fun Td kV doc pm an cdv ct its us h1 h2 => match its, h1, h2 with
 | [i0], _, h2 => by
  have h3 : us.length = 6 := by simpa using h2
  exact match us, h3 with | [u0, u1, u2, u3, u4, u5], _ => ⟨_, rfl, rfl⟩
theorem BJ (T : Txt K mg A D) : ∃ ds, Binds K D.tF ["self", "day", "number", "ware", "pieces", "price", "fee", "named"] ds /\ Vals (([V.int 0, V.non] : List V).drop 2) ds := T.wu.binds (ps := ["self", "day", "number", "ware", "pieces", "price", "fee", "named"]) 2 fun Td kV doc pm an cdv ct its us h1 h2 => match its, h1, h2 with
 | [i0, i1], _, h2 => by
  have h3 : us.length = 8 := by simpa using h2
  exact match us, h3 with | [u0, u1, u2, u3, u4, u5, u6, u7], _ => ⟨_, rfl, rfl⟩
end
end My
namespace My
open PySem L2 PyProof.Rows
section
variable {P : Program} {w : World} {K : Fg_} {mg : Str -> Option Value} {base : Heap} {A : Adr} {D : Fds}
theorem Txt.ok_try (T : Txt K mg A D) : ∀ C, C = A.uy \/ C = A.uz -> (∃ fI, XClsI K C fI) /\ PySem.W.kitOne K (.ref C) (.ref A.ux) = some true := fun C h => h.elim (fun e => by subst e; exact ⟨⟨_, T.yB⟩, T.z4⟩) fun e => by subst e; exact ⟨⟨_, T.yE⟩, T.z5⟩
end
end My
namespace My
open PySem L2 PyProof.Rows
section
variable {P : Program} {w : World} {K : Fg_} {mg : Str -> Option Value} {base : Heap} {A : Adr} {D : Fds}
theorem abV {ns : List Int} {i : Nat} {y : V} (h : (ns.map V.int)[i]? = some y) : ∃ z, y = V.int z /\ ns[i]? = some z := by
 rw [List.getElem?_map] at h
 cases e : ns[i]? with
 | none => rw [e] at h; cases h
 | some z => rw [e] at h; exact ⟨z, (Option.some.inj h).symm, rfl⟩
end
end My
namespace My
open PySem L2 PyProof.Rows
section
variable {P : Program} {w : World} {K : Fg_} {mg : Str -> Option Value} {base : Heap} {A : Adr} {D : Fds}
def Ou (K : Fg_) : Sp := fun vs H Q _ => ∃ (a : Addr) (ns : List Int) (k : Nat), vs = [.ref a, .int k] /\ SqL K H a (ns.map V.int) /\ Q (.int (ns.getD k 0)) H
theorem Dw (T : Txt K mg A D) : FnOk P w K mg base CX0 1 A.sH D.sH ["_law_script", "_law_k"] (Ou K) := by
 refine T.uW.ok NP (fun vs H Q E h => ?_) (fun cdv A outer s H vs Q E hr h => ?_)
 ·obtain ⟨a, ns, k', rfl, _⟩ := h; rfl
 ·obtain ⟨a, ns, k', rfl, hS, k⟩ := h
  refine ⟨_, (Ac (Bq (Al (ZR) (pv 1) (Bf (DX (K := K)) (by rfl) T.xM (by decide +kernel) (Aa (pv 0) Ad)) (Ay _)) (Af (Am (Ao (Cv (K := K)) (pv 0) (pv 1) (fun _ _ => rfl)))) Av)
   (Af (Am Ab))), ?_⟩
  walk_at "rda"
  refine ⟨_, .inl hS, ?_⟩
  rw [List.length_map]
  by_cases h : k' < ns.length
  ·rw [if_pos (by omega)]
   refine ⟨_, hS, _, JG (j := k') (v := .int (ns.getD k' 0)) ?_, k⟩
   rw [List.getElem?_map, List.getElem?_eq_getElem h, List.getD_eq_getElem?_getD, List.getElem?_eq_getElem h]
   rfl
  ·rw [if_neg (by omega)]
   rw [List.getD_eq_getElem?_getD, List.getElem?_eq_none (by omega)] at k
   exact k
end
end My
namespace My
open PySem L2 PyProof.Rows
section
variable {P : Program} {w : World} {K : Fg_} {mg : Str -> Option Value} {base : Heap} {A : Adr} {D : Fds}
theorem aaq (xs : List V) (n : Nat) : Xf xs (some (n : Int)) none = xs.drop n := by
 unfold Xf
 rw [HT.sIx_none, HT.sIx_nat]
 rcases Nat.le_total n xs.length with h | h
 ·rw [Nat.min_eq_left h, List.take_of_length_le (by rw [List.length_drop]; exact Nat.le_refl _)]
 ·rw [Nat.min_eq_right h, List.drop_of_length_le (Nat.le_refl _), List.drop_of_length_le h, List.take_nil]
end
end My
namespace My
open PySem L2 PyProof.Rows
section
variable {P : Program} {w : World} {K : Fg_} {mg : Str -> Option Value} {base : Heap} {A : Adr} {D : Fds}
def Nm (z : Str) : Prop := 1 <= z.length /\ z.length <= 8 /\ ∀ c ∈ z.cps.toList, 97 <= c /\ c <= 122
def Kv : Sp := fun vs H Q _ => ∃ i : Int, vs = [.int i] /\ Q (.bl true) H
theorem KN (T : Txt K mg A D) : FnOk P w K mg base CX0 1 A.sY D.sY ["value"] Kv := by
 refine T.vU.ok Ka (fun vs H Q E h => ?_) (fun cdv A outer s H vs Q E hr h => ?_)
 ·obtain ⟨i, rfl, _⟩ := h; rfl
 ·obtain ⟨i, rfl, k⟩ := h
  refine ⟨_, (Af (Am (acQ (Bf (IW (K := K)) (by rfl) T.xR (by decide +kernel) (Aa (pv 0) (Aa (WD "int" (by rfl) T.xS (by decide +kernel)) Ad))) (acV (ada (Bf (IW (K := K)) (by rfl) T.xR (by decide +kernel) (Aa (pv 0) (Aa (WD "bool" (by rfl) T.xT (by decide +kernel)) Ad)))))))), ?_⟩
  walk_at "rd"
  refine ⟨_, .int i, true, by with_unfolding_all rfl, ?_⟩
  walk_at "rd"
  refine ⟨_, .int i, false, by with_unfolding_all rfl, ?_⟩
  walk_at "rd"
  exact k
def Oe : Sp := fun vs H Q _ => ∃ (z : Str) (i lo hi : Int), vs = [.str z, .int i, .int lo, .int hi] /\ lo <= i /\ i <= hi /\ Q .non H
theorem Ba (T : Txt K mg A D) : FnOk P w K mg base CX0 2 A.sZ D.sZ ["what", "value", "least", "most"] Oe := by
 refine T.vX.ok Ox (fun vs H Q E h => ?_) (fun cdv A outer s H vs Q E hr h => ?_)
 ·obtain ⟨z, i, lo, hi, rfl, _⟩ := h; rfl
 ·obtain ⟨z, i, lo, hi, rfl, h1, h2, k⟩ := h
  refine ⟨_, (Af (Bq (PW.pt (Kp (IK (Iu (Ai (KN (K := K) T) (hr.mono (by decide)) (by rfl) T.vS T.vT (Ls T) .nil Ak (Aa (pv 1) Ad)))) (Kp (Al (ZR) (pv 1) (pv 2) (Ay _)) (Jd (Al (Tv) (pv 1) (pv 3) (Ay _)))))) (Af (Ie)) Av)), ?_⟩
  walk_at "rda"
  refine ⟨i, rfl, ?_⟩
  walk_at "rda"
  rw [if_neg (by omega), if_neg (by omega)]
  exact k
def WK : Sp := fun vs H Q _ => ∃ z : Str, vs = [.str z] /\ Nm z /\ ∀ H', Same H H' -> Q (.bl true) H'
theorem Wt (T : Txt K mg A D) : FnOk P w K mg base CX0 1 A.tf D.tf ["value"] WK := by
 refine T.v9.ok WN (fun vs H Q E h => ?_) (fun cdv A outer s H vs Q E hr h => ?_)
 ·obtain ⟨z, rfl, _⟩ := h; rfl
 ·obtain ⟨z, rfl, ⟨n1, n2, n3⟩, k⟩ := h
  refine ⟨_, (Ac (Bq (PW.pt (Kp (IK (Iu (Bf (IW (K := K)) (by rfl) T.xR (by decide +kernel) (Aa (pv 0) (Aa (WD "str" (by rfl) T.xV (by decide +kernel)) Ad))))) (Kp (Al (ZR) (Bf Mf (by rfl) T.xM (by decide +kernel) (Aa (pv 0) Ad)) Ab (Ay _)) (Jd (Al (Tv) (Bf Mf (by rfl) T.xM (by decide +kernel) (Aa (pv 0) Ad)) (Bl (v := V.int 8) (by rfl) T.yq ⟨_, rfl⟩) (Ay _)))))) (Af (Am HF)) Av)
   (Af (Am (Bf (Zn (K := K) rfl) (by rfl) T.xU (by decide +kernel) (Aa (Eh (cap := [Option.none]) (N' := ["sign"]) rfl (by walk_at "compok") (acR (pv 0)) (fun _ _ _ _ => (Bm (i := 0) (show (["sign"] : List Str).Nodup from by decide +kernel) rfl (Or.inl rfl) (Or.inr rfl))) (fun _ _ _ _ => Ec) (fun _ _ _ _ => (ZZ (Tj) (Tj) Aw (pv 0) Aw))) Ad))))), ?_⟩
  walk_at "rda"
  refine ⟨_, .str z, true, by with_unfolding_all rfl, ?_⟩
  walk_at "rda"
  have hz : z.length <= sizeLine := by rw [sizeLine_eq]; omega
  iterate 2 (refine ⟨hz, ?_⟩; rw [if_neg (by omega)])
  refine CompP.str (fun σ => ∃ v, σ = [v]) (fun _ => true) (fun _ => .bl true) ⟨Option.none, rfl⟩ hz ?_ ?_
  ·rintro x hx σ H5 R1 R2 ⟨v, rfl⟩ sm k1 k2
   obtain ⟨c, hc, rfl⟩ := List.mem_map.mp hx
   obtain ⟨c1, c2⟩ := n3 c hc
   walk_at "rd"
   have ea : (Str.ofString "a").cps.toList = [97] := by decide +kernel
   have ez : (Str.ofString "z").cps.toList = [122] := by decide +kernel
   rw [ea, ez]
   have h1 : ¬ [c] < [97] := fun h => by
    rcases List.cons_lt_cons_iff.mp h with h | h
    ·omega
    ·exact absurd h.2 (List.not_lt_nil _)
   have h2 : ¬ [122] < [c] := fun h => by
    rcases List.cons_lt_cons_iff.mp h with h | h
    ·omega
    ·exact absurd h.2 (List.not_lt_nil _)
   rw [if_pos h1, decide_eq_false h2]
   exact k1 rfl _ _ ⟨_, rfl⟩ (Same.refl _)
  ·intro Da H' hD sm e
   rw [Kr] at e
   walk_at "rda"
   refine ⟨(L2.signs z).map fun _ => true, SqL.of (by rw [e, List.map_map]; rfl), ?_⟩
   have : ((L2.signs z).map fun _ => true).all id = true := by simp
   rw [this]
   exact k H' sm
def Ra : Sp := fun vs H Q _ => ∃ (t z : Str), vs = [.str t, .str z] /\ Nm z /\ ∀ H', Same H H' -> Q .non H'
theorem Kf (T : Txt K mg A D) : FnOk P w K mg base CX0 2 A.tj D.tj ["what", "value"] Ra := by
 refine T.wd.ok QT (fun vs H Q E h => ?_) (fun cdv A outer s H vs Q E hr h => ?_)
 ·obtain ⟨t, z, rfl, _⟩ := h; rfl
 ·obtain ⟨t, z, rfl, hn, k⟩ := h
  refine ⟨_, (Af (Bq (IK (Iu (Ai (Wt (K := K) T) (hr.mono (by decide)) (by rfl) T.vY T.vZ (YW T) .nil Ak (Aa (pv 1) Ad)))) (Af (Ie)) Av)), ?_⟩
  walk_at "rda"
  refine ⟨z, rfl, hn, fun H' sm => ?_⟩
  walk_at "rda"
  exact k H' sm
def Qi : Sp := fun vs H Q _ => ∃ (p r f : Int), vs = [.int p, .int r, .int f] /\ (1 <= p /\ p <= 1000000000) /\ (0 <= r /\ r <= 1000000000) /\ (0 <= f /\ f <= 1000000000) /\ Q .non H
theorem Jw (T : Txt K mg A D) : FnOk P w K mg base CX0 3 A.tw D.tw ["pieces", "price", "fee"] Qi := by
 refine T.wk.ok Qc (fun vs H Q E h => ?_) (fun cdv A outer s H vs Q E hr h => ?_)
 ·obtain ⟨p, r, f, rfl, _⟩ := h; rfl
 ·obtain ⟨p, r, f, rfl, h1, h2, h3, k⟩ := h
  refine ⟨_, (Ac (Bh (Ai (Ba (K := K) T) (hr.mono (by decide)) (by rfl) T.vV T.vW (Be T) .nil Ak (Aa Aw (Aa (pv 0) (Aa Ab (Aa (Bl (v := V.int 1000000000) (by rfl) T.yv ⟨_, rfl⟩) Ad))))))
   (Ac (Bh (Ai (Ba (K := K) T) (hr.mono (by decide)) (by rfl) T.vV T.vW (Be T) .nil Ak (Aa Aw (Aa (pv 1) (Aa Ab (Aa (Bl (v := V.int 1000000000) (by rfl) T.yw ⟨_, rfl⟩) Ad))))))
   (Af (Bh (Ai (Ba (K := K) T) (hr.mono (by decide)) (by rfl) T.vV T.vW (Be T) .nil Ak (Aa Aw (Aa (pv 2) (Aa Ab (Aa (Bl (v := V.int 1000000000) (by rfl) T.yx ⟨_, rfl⟩) Ad))))))))), ?_⟩
  walk_at "rda"
  refine ⟨_, _, _, _, rfl, h1.1, h1.2, ?_⟩
  walk_at "rda"
  refine ⟨_, _, _, _, rfl, h2.1, h2.2, ?_⟩
  walk_at "rda"
  refine ⟨_, _, _, _, rfl, h3.1, h3.2, ?_⟩
  exact k
theorem BX {f : Str} {v : V} {fs : List (Str × V)} (ns : List Str) (e : fs.map (·.1) = ns) (h : ns.contains f = false) : Qs f v fs = fs ++ [(f, v)] := QZ f v (e ▸ h)
def fsE (d n : Int) (w : Str) : List (Str × V) := [("day", .int d), ("number", .int n), ("ware", .str w)]
structure Base (d n : Int) (w : Str) : Prop where
 d0 : 0 <= d
 d1 : d <= 1000000
 n0 : 0 <= n
 n1 : n <= 1000000
 w : Nm w
structure CE (K : Fg_) (C : Addr) : Prop where
 c : Cls K C
 d : NoAttr K C "day"
 n : NoAttr K C "number"
 w : NoAttr K C "ware"
structure New (B H : Hp) (x : Addr) (C dx : Addr) (fs : List (Str × V)) : Prop where
 s : Same B H
 n : B x = Option.none
 h : H x = some (.ins C dx fs)
theorem New.put {B H : Hp} {x C dx : Addr} {fs gs : List (Str × V)} (h : New B H x C dx fs) (e : gs = gs) : New B (upd H x (.ins C dx gs)) x C dx gs := ⟨h.s.upd h.n, h.n, Ae⟩
theorem New.same {B H H' : Hp} {x C dx : Addr} {fs : List (Str × V)} (h : New B H x C dx fs) (e : Same H H') : New B H' x C dx fs := ⟨h.s.trans e, h.n, e _ _ h.h⟩
def Lp (K : Fg_) : Sp := fun vs H Q _ => ∃ (x : Addr) (d n : Int) (w : Str) (B : Hp) (C dx : Addr), vs = [.ref x, .int d, .int n, .str w] /\ New B H x C dx [] /\ CE K C /\ Base d n w /\
 ∀ H', New B H' x C dx (fsE d n w) -> Q .non H'
theorem BK (T : Txt K mg A D) : FnOk P w K mg base CX0 3 A.tm D.tm ["self", "day", "number", "ware"] (Lp K) := by
 refine T.we.ok Ln (fun vs H Q E h => ?_) (fun cdv A outer s H vs Q E hr h => ?_)
 ·obtain ⟨x, d, n, w, B, C, dx, rfl, _⟩ := h; rfl
 ·obtain ⟨x, d, n, w, B, C, dx, rfl, hN, hC, hB, k⟩ := h
  refine ⟨_, (Ac (Bh (Ai (Ba (K := K) T) (hr.mono (by decide)) (by rfl) T.vV T.vW (Be T) .nil Ak (Aa Aw (Aa (pv 1) (Aa Ab (Aa (Bl (v := V.int 1000000) (by rfl) T.yr ⟨_, rfl⟩) Ad))))))
   (Ac (Bh (Ai (Ba (K := K) T) (hr.mono (by decide)) (by rfl) T.vV T.vW (Be T) .nil Ak (Aa Aw (Aa (pv 2) (Aa Ab (Aa (Bl (v := V.int 1000000) (by rfl) T.yt ⟨_, rfl⟩) Ad))))))
   (Ac (Bh (Ai (Kf (K := K) T) (hr.mono (by decide)) (by rfl) T.wb T.wc (Mg T) .nil Ak (Aa Aw (Aa (pv 3) Ad))))
   (Ac (BP (K := K) (pv 0) (pv 1) rfl)
   (Ac (BP (K := K) (pv 0) (pv 2) rfl)
   (Af (BP (K := K) (pv 0) (pv 3) rfl))))))), ?_⟩
  walk_at "rda"
  refine ⟨_, _, _, _, rfl, hB.d0, hB.d1, ?_⟩
  walk_at "rda"
  refine ⟨_, _, _, _, rfl, hB.n0, hB.n1, ?_⟩
  walk_at "rda"
  refine ⟨_, _, rfl, hB.w, fun H' sm => ?_⟩
  walk_at "rda"
  have hN := hN.same sm
  refine ⟨C, dx, _, hN.h, hC.c, hC.d, by decide, ?_⟩
  rw [QZ _ _ (by decide +kernel)]
  have hN := hN.put (gs := [] ++ [(Str.ofString "day", V.int d)]) rfl
  refine ⟨C, dx, _, hN.h, hC.c, hC.n, by simp, ?_⟩
  rw [BX (f := Str.ofString "number") ["day"] (by rfl) (by decide +kernel)]
  have hN := hN.put (gs := ([] ++ [(Str.ofString "day", V.int d)]) ++ [(Str.ofString "number", V.int n)]) rfl
  refine ⟨C, dx, _, hN.h, hC.c, hC.w, by simp, ?_⟩
  rw [BX (f := Str.ofString "ware") ["day", "number"] (by rfl) (by decide +kernel)]
  exact k _ (hN.put rfl)
end
end My
namespace My
open PySem L2 PyProof.Rows
section
variable {P : Program} {w : World} {K : Fg_} {mg : Str -> Option Value} {base : Heap} {A : Adr} {D : Fds}
abbrev Rs := List (Addr × Int × Int)
def refs (rs : Rs) : List V := rs.map fun r => V.ref r.1
def Lots (H : Hp) (rs : Rs) : Prop := ∀ r ∈ rs, H r.1 = some (.tup [.int r.2.1, .int r.2.2])
theorem Lots.same {H H' : Hp} {rs : Rs} (h : Lots H rs) (s : Same H H') : Lots H' rs := fun r hr => s _ _ (h r hr)
structure GoodN (rs : Rs) (p : Int) : Prop where
 l : rs.length <= 5
 b : ∀ r ∈ rs, 0 <= r.2.1 /\ r.2.1 <= 1000000 /\ 1 <= r.2.2 /\ r.2.2 <= p
 u : (rs.map (·.2.1)).Nodup
 s : (rs.map (·.2.2)).sum = p
def NL (H : Hp) (v : V) : Option Rs -> Prop
 | Option.none => v = .non
 | some rs => ∃ l, v = .ref l /\ H l = some (.lst (refs rs)) /\ Lots H rs
def abr (p : Int) : Option Rs -> Prop
 | Option.none => True
 | some rs => GoodN rs p
theorem NL.same {H H' : Hp} {v : V} {o : Option Rs} (h : NL H v o) (s : Same H H') : NL H' v o := by
 cases o with
 | none => exact h
 | some rs => obtain ⟨l, e, h1, h2⟩ := h; exact ⟨l, e, s _ _ h1, h2.same s⟩
theorem Vs {κ : Type} [DecidableEq κ] (kvs : List (κ × V)) (k : κ) (v : V) : (putK kvs k v).length <= kvs.length + 1 := by
 unfold putK
 split
 ·rw [List.length_map]; omega
 ·rw [List.length_append]; exact Nat.le_refl _
theorem aau {rs : Rs} {i : Nat} {y : V} (h : (refs rs)[i]? = some y) : ∃ r, rs[i]? = some r /\ y = .ref r.1 := by
 unfold refs at h
 rw [List.getElem?_map] at h
 cases e : rs[i]? with
 | none => rw [e] at h; cases h
 | some r => rw [e] at h; exact ⟨r, rfl, (Option.some.inj h).symm⟩
theorem fresh_at {rs : Rs} {i : Nat} {r : Addr × Int × Int} (h : (rs.map (·.2.1)).Nodup) (e : rs[i]? = some r) : r.2.1 ∉ (rs.take i).map (·.2.1) := by
 intro hm
 have hl : i < rs.length := (List.getElem?_eq_some_iff.mp e).1
 have h2 : rs.map (·.2.1) = (rs.take i).map (·.2.1) ++ (rs.drop i).map (·.2.1) := by rw [<- List.map_append, List.take_append_drop]
 rw [h2] at h
 have h3 := (List.nodup_append.mp h).2.2 _ hm r.2.1 (by
  rw [List.mem_map]
  exact ⟨r, by rw [List.mem_iff_getElem?]; exact ⟨0, by rw [List.getElem?_drop]; exact e⟩, rfl⟩)
 exact h3 rfl
theorem Zv (rs : Rs) : (refs rs).length = rs.length := by unfold refs; rw [List.length_map]
def secs (H : Hp) : V -> V
 | .ref a => match H a with
  | some (.tup [_, x]) => x
  | _ => .non
 | _ => .non
theorem Yr {H : Hp} {r : Addr × Int × Int} (h : H r.1 = some (.tup [.int r.2.1, .int r.2.2])) : secs H (.ref r.1) = .int r.2.2 := by
 show (match H r.1 with | some (.tup [_, x]) => x | _ => .non) = _
 rw [h]
theorem XX {H : Hp} {rs : Rs} (h : Lots H rs) : (refs rs).map (secs H) = rs.map fun r => V.int r.2.2 := by
 unfold refs
 rw [List.map_map]
 exact List.map_congr_left fun r hr => Yr (h r hr)
def Qa (K : Fg_) : Sp := fun vs H Q _ => ∃ (v : V) (p : Int) (o : Option Rs), vs = [v, .int p] /\ NL H v o /\ abr p o /\ ∀ H', Same H H' -> Q .non H'
theorem Jx (T : Txt K mg A D) : FnOk P w K mg base CX0 3 A.tD D.tD ["named", "pieces"] (Qa K) := by
 refine T.wo.ok sc_check_named (fun vs H Q E h => ?_) (fun cdv A outer s H vs Q E hr h => ?_)
 ·obtain ⟨v, p, o, rfl, _⟩ := h; rfl
 ·obtain ⟨v, p, o, rfl, hn, hg, k⟩ := h
  refine ⟨_, (Ac (Bq (Al (Zo) (pv 0) Jz (Ay _)) (Af (ach)) Av)
   (Ac (Bq (IK (Iu (Bf (IW (K := K)) (by rfl) T.xR (by decide +kernel) (Aa (pv 0) (Aa (WD "list" (by rfl) T.xW (by decide +kernel)) Ad))))) (Af (Ie)) Av)
   (Ac (Bd (i := 2) sc_check_named.nd rfl (Or.inl rfl) Ni)
   (Ac (Mp PassesOwn.never rfl (CN (K := K) (pv 0)) (Rb (K := K) (n := 2) rfl (DY (Bm (i := 3) sc_check_named.nd rfl (Or.inl rfl)) (DY (Bm (i := 4) sc_check_named.nd rfl (Or.inl rfl)) Rx)))
    (Ac (Bh (Ai (Ba (K := K) T) (hr.mono (by decide)) (by rfl) T.vV T.vW (Be T) .nil Ak (Aa Aw (Aa (pv 3) (Aa Ab (Aa (Bl (v := V.int 1000000) (by rfl) T.yt ⟨_, rfl⟩) Ad))))))
    (Ac (Bh (Ai (Ba (K := K) T) (hr.mono (by decide)) (by rfl) T.vV T.vW (Be T) .nil Ak (Aa Aw (Aa (pv 4) (Aa Ab (Aa (pv 1) Ad))))))
    (Ac (Bq (Al (RK (Ff hr)) (pv 3) (pv 2) (by with_unfolding_all rfl)) (Af (Ie)) Av)
    (Af (Gy (Ff hr) (pv 2) (pv 3) HF rfl))))))
   (Af (Bq (Al (adH) (Bf (Yv (K := K) rfl) (by rfl) T.xX (by decide +kernel) (Aa (Eh (cap := [Option.none]) (N' := ["pair"]) rfl (by walk_at "compok") (CN (K := K) (pv 0)) (fun _ _ _ _ => (Bm (i := 0) (show (["pair"] : List Str).Nodup from by decide +kernel) rfl (Or.inl rfl) (Or.inr rfl))) (fun _ _ _ _ => Ec) (fun _ _ _ _ => (Ao (Ah (K := K)) (pv 0) Ab (fun _ _ => rfl)))) Ad)) (pv 1) (Ay _)) (Af (Ie)) Av)))))), ?_⟩
  cases o with
  | none =>
   cases hn
   walk_at "rda"
   exact k H (Same.refl H)
  | some rs =>
   obtain ⟨l, rfl, hl, hL⟩ := hn
   walk_at "rda"
   refine ⟨_, .lst hl, true, by with_unfolding_all rfl, ?_⟩
   walk_at "rda"
   intro sd hsd
   refine ⟨⟨_, (Same.new hsd).seq (SqL.of hl)⟩, ?_⟩
   refine ForP.list (K := K) (xs := refs rs) (fun i σ H2 => ∃ v3 v4 kvs, σ = [some (.ref l), some (.int p), some (.ref sd), v3, v4] /\ Same H H2 /\ H2 sd = some (.dK kvs) /\ kvs.length <= i /\ ∀ j : Int, j ∉ (rs.take i).map (·.2.1) -> Gs kvs (Sum.inl j) = Option.none)
    ⟨Option.none, Option.none, [], rfl, Same.new hsd, Ae, Nat.le_refl _, fun _ _ => rfl⟩ (fun i σ H2 _ ⟨_, _, _, _, s2, _⟩ => s2.seq (SqL.of hl)) ?_ ?_
   ·rintro i y σ H2 hi ⟨v3, v4, kvs, rfl, s2, h2, hk, hv⟩
    obtain ⟨r, hri, rfl⟩ := aau hi
    have hil : i < rs.length := (List.getElem?_eq_some_iff.mp hri).1
    have hrm : r ∈ rs := List.mem_of_getElem? hri
    have hb := hg.b r hrm
    have hl5 := hg.l
    walk_at "rd"
    refine ⟨_, SqT.of (s2 _ _ (hL r hrm)), rfl, ?_⟩
    walk_at "rd"
    refine ⟨_, _, _, _, rfl, hb.1, hb.2.1, ?_⟩
    walk_at "rd"
    refine ⟨_, _, _, _, rfl, hb.2.2.1, hb.2.2.2, ?_⟩
    walk_at "rda"
    have hno := hv _ (fresh_at hg.u hri)
    refine ⟨_, DGet.k (k := Sum.inl r.2.1) h2, ?_⟩
    rw [hno]
    simp only [Option.isSome_none, Bool.false_eq_true, if_false]
    refine ⟨_, DPut.k (k := Sum.inl r.2.1) h2 (by rw [sizeLine_eq]; omega), s2.upd hsd, _, Ae, ?_, ?_⟩
    ·have := Vs kvs (Sum.inl r.2.1 : Key) (V.bl true)
     omega
    ·intro j hj
     rw [List.take_add_one, hri, List.map_append, List.mem_append, not_or] at hj
     rw [aaC, if_neg, hv j hj.1]
     intro e
     cases e
     exact hj.2 (by simp)
   ·rintro σ H2 ⟨v3, v4, kvs, rfl, s2, h2, hk, hv⟩
    walk_at "rda"
    refine ⟨⟨_, s2.seq (SqL.of hl)⟩, ?_⟩
    refine CompP.list (xs := refs rs) (fun σ => ∃ v, σ = [v]) (fun _ => true) (secs H) (s2.seq (SqL.of hl)) ⟨Option.none, rfl⟩ (by rw [Zv, sizeLine_eq]; have := hg.l; omega) ?_ ?_
    ·rintro x hx σ H5 R1 R2 ⟨v, rfl⟩ sm k1 k2
     obtain ⟨r, hrm, rfl⟩ := List.mem_map.mp hx
     walk_at "rd"
     refine ⟨_, SqT.of (sm _ _ (s2 _ _ (hL r hrm))), _, JG (j := 1) rfl, ?_⟩
     have := k1 rfl [some (V.ref r.1)] H5 ⟨_, rfl⟩ (Same.refl _)
     rw [Yr (hL r hrm)] at this
     exact this
    ·intro Da H' hD sm e
     rw [Kr, XX hL] at e
     walk_at "rda"
     refine ⟨rs.map (·.2.2), SqL.of (by rw [e, List.map_map]; rfl), ?_⟩
     rw [hg.s]
     walk_at "rda"
     exact k H' (s2.trans sm)
def NT (H : Hp) (v : V) : Option Rs -> Prop
 | Option.none => v = .non
 | some rs => ∃ l, v = .ref l /\ H l = some (.tup (refs rs)) /\ Lots H rs
theorem NT.same {H H' : Hp} {v : V} {o : Option Rs} (h : NT H v o) (s : Same H H') : NT H' v o := by
 cases o with
 | none => exact h
 | some rs => obtain ⟨l, e, h1, h2⟩ := h; exact ⟨l, e, s _ _ h1, h2.same s⟩
def Rp (K : Fg_) : Sp := fun vs H Q _ => ∃ (v : V) (o : Option Rs), vs = [v] /\ (NL H v o \/ NT H v o) /\ ∀ v' H', Same H H' -> NL H' v' o -> (∀ q, v' = .ref q -> H q = Option.none) -> Q v' H'
theorem Fw (T : Txt K mg A D) : FnOk P w K mg base CX0 1 A.tE D.tE ["named"] (Rp K) := by
 refine T.wt.ok QL (fun vs H Q E h => ?_) (fun cdv A outer s H vs Q E hr h => ?_)
 ·obtain ⟨v, o, rfl, _⟩ := h; rfl
 ·obtain ⟨v, o, rfl, hn, k⟩ := h
  refine ⟨_, (Af (Am (VL (Al (Zo) (pv 0) Jz (Ay _)) Jz (Jc (KZ (K := K)) (by rfl) T.xW (by decide +kernel) (Aa (pv 0) Ad))))), ?_⟩
  cases o with
  | none =>
   obtain rfl : v = .non := hn.elim id id
   walk_at "rda"
   exact k _ H (Same.refl H) rfl (fun q e => by cases e)
  | some rs =>
   obtain ⟨l, rfl, hl, hL⟩ : ∃ l, v = .ref l /\ (H l = some (.lst (refs rs)) \/ H l = some (.tup (refs rs))) /\ Lots H rs := hn.elim (fun ⟨l, a, b, c⟩ => ⟨l, a, .inl b, c⟩) fun ⟨l, a, b, c⟩ => ⟨l, a, .inr b, c⟩
   walk_at "rda"
   refine ⟨_, hl.imp SqL.of SqT.of, fun q hq => k _ _ (Same.new hq) ⟨q, rfl, Ae, hL.same (Same.new hq)⟩ (fun q' e => by cases e; exact hq)⟩
def Rf (K : Fg_) : Sp := fun vs H Q _ => ∃ (v : V) (o : Option Rs), vs = [v] /\ NL H v o /\ ∀ v' H', Same H H' -> NT H' v' o -> Q v' H'
theorem Kd (T : Txt K mg A D) : FnOk P w K mg base CX0 1 A.tM D.tM ["named"] (Rf K) := by
 refine T.wF.ok QW (fun vs H Q E h => ?_) (fun cdv A outer s H vs Q E hr h => ?_)
 ·obtain ⟨v, o, rfl, _⟩ := h; rfl
 ·obtain ⟨v, o, rfl, hn, k⟩ := h
  refine ⟨_, (Af (Am (VL (Al (Zo) (pv 0) Jz (Ay _)) Jz (Jc (Uj (K := K)) (by rfl) T.xY (by decide +kernel) (Aa (pv 0) Ad))))), ?_⟩
  cases o with
  | none =>
   cases hn
   walk_at "rda"
   exact k _ H (Same.refl H) rfl
  | some rs =>
   obtain ⟨l, rfl, hl, hL⟩ := hn
   walk_at "rda"
   refine ⟨_, .inl ⟨SqL.of hl, fun q hq => k _ _ (Same.new hq) ⟨q, rfl, Ae, hL.same (Same.new hq)⟩⟩⟩
end
end My
namespace My
open PySem L2 PyProof.Rows
section
variable {P : Program} {w : World} {K : Fg_} {mg : Str -> Option Value} {base : Heap} {A : Adr} {D : Fds}
theorem NL.updI {H : Hp} {v : V} {o : Option Rs} {x C dx : Addr} {fs : List (Str × V)} {u : HO} (h : NL H v o) (hx : H x = some (.ins C dx fs)) : NL (upd H x u) v o := by
 cases o with
 | none => exact h
 | some rs =>
  obtain ⟨l, e, h1, h2⟩ := h
  refine ⟨l, e, ?_, fun r hr => ?_⟩
  ·rw [Aj (fun z => by rw [z, hx] at h1; cases h1)]; exact h1
  ·have h3 := h2 r hr
   rw [Aj (fun z => by rw [z, hx] at h3; cases h3)]; exact h3
inductive Ent where
 | buy (d n : Int) (w : Str) (p r f : Int)
 | sell (d n : Int) (w : Str) (p r f : Int) (o : Option Rs)
 | gift (d n : Int) (w : Str) (p c s : Int)
 | give (d n : Int) (w : Str) (p : Int) (o : Option Rs)
 | split (d n : Int) (w : Str) (m f : Int)
 | part (d n : Int) (w u : Str) (s t : Int)
def Rg (lo hi x : Int) : Prop := lo <= x /\ x <= hi
def Ent.good : Ent -> Prop
 | .buy d n w p r f => Base d n w /\ Rg 1 1000000000 p /\ Rg 0 1000000000 r /\ Rg 0 1000000000 f
 | .sell d n w p r f o => Base d n w /\ Rg 1 1000000000 p /\ Rg 0 1000000000 r /\ Rg 0 1000000000 f /\ abr p o
 | .gift d n w p c s => Base d n w /\ Rg 1 1000000000 p /\ Rg 0 1000000000000000000 c /\ Rg 0 d s
 | .give d n w p o => Base d n w /\ Rg 1 1000000000 p /\ abr p o
 | .split d n w m f => Base d n w /\ Rg 1 1000 m /\ Rg 1 1000 f
 | .part d n w u s t => Base d n w /\ Nm u /\ u ≠ w /\ Rg 1 1000000 t /\ Rg 0 t s
def Ent.fs (nv : V) : Ent -> List (Str × V)
 | .buy d n w p r f => [("day", .int d), ("number", .int n), ("ware", .str w), ("pieces", .int p), ("price", .int r), ("fee", .int f), ("cost", .int (p * r + f))]
 | .sell d n w p r f _ => [("day", .int d), ("number", .int n), ("ware", .str w), ("pieces", .int p), ("price", .int r), ("fee", .int f), ("named", nv), ("proceeds", .int (p * r - f))]
 | .gift d n w p c s => [("day", .int d), ("number", .int n), ("ware", .str w), ("pieces", .int p), ("cost", .int c), ("since", .int s)]
 | .give d n w p _ => [("day", .int d), ("number", .int n), ("ware", .str w), ("pieces", .int p), ("named", nv)]
 | .split d n w m f => [("day", .int d), ("number", .int n), ("ware", .str w), ("many", .int m), ("of", .int f)]
 | .part d n w u s t => [("day", .int d), ("number", .int n), ("ware", .str w), ("other", .str u), ("share", .int s), ("whole", .int t)]
def Ent.word : Ent -> Str
 | .buy .. => "buy"
 | .sell .. => "sell"
 | .gift .. => "gift"
 | .give .. => "give"
 | .split .. => "split"
 | .part .. => "part"
def Ent.args (nv : V) : Ent -> List V
 | .buy d n w p r f => [.int d, .int n, .str w, .int p, .int r, .int f]
 | .sell d n w p r f _ => [.int d, .int n, .str w, .int p, .int r, .int f, nv]
 | .gift d n w p c s => [.int d, .int n, .str w, .int p, .int c, .int s]
 | .give d n w p _ => [.int d, .int n, .str w, .int p, nv]
 | .split d n w m f => [.int d, .int n, .str w, .int m, .int f]
 | .part d n w u s t => [.int d, .int n, .str w, .str u, .int s, .int t]
def Ent.lots : Ent -> Option Rs
 | .sell _ _ _ _ _ _ o => o
 | .give _ _ _ _ o => o
 | _ => Option.none
def Ent.cls (A : Adr) : Ent -> Addr
 | .buy .. => A.uq
 | .sell .. => A.ut
 | .gift .. => A.uu
 | .give .. => A.uv
 | .split .. => A.uw
 | .part .. => A.uo
def Made (A : Adr) (B H : Hp) (x : Addr) (e : Ent) : Prop := ∃ dx nv, New B H x (e.cls A) dx (e.fs nv) /\ NL H nv e.lots /\ ∀ q, nv = .ref q -> B q = Option.none
def IsE (A : Adr) (H : Hp) (x : Addr) (e : Ent) : Prop := ∃ dx nv, H x = some (.ins (e.cls A) dx (e.fs nv)) /\ NL H nv e.lots
theorem Made.isE {A : Adr} {B H : Hp} {x : Addr} {e : Ent} : Made A B H x e -> IsE A H x e := fun ⟨dx, nv, h, n, _⟩ => ⟨dx, nv, h.h, n⟩
theorem IsE.same {A : Adr} {H H' : Hp} {x : Addr} {e : Ent} (s : Same H H') : IsE A H x e -> IsE A H' x e := fun ⟨dx, nv, h, n⟩ => ⟨dx, nv, s _ _ h, n.same s⟩
def QC (C : Addr) (A : Adr) (isK : Ent -> Bool) : Sp := fun vs H Q _ => ∃ (x : Addr) (e : Ent) (B : Hp) (dx : Addr) (nv : V), isK e = true /\ vs = .ref x :: e.args nv /\ New B H x (e.cls A) dx [] /\ e.good /\ NL B nv e.lots /\
 ∀ H', Made A B H' x e -> Q .non H'
def Ds : Ent -> Bool := fun e => match e with | .buy .. => true | _ => false
theorem aaN (T : Txt K mg A D) : CE K A.uq := ⟨T.yS, T.yU, T.yV, T.yW⟩
def Bp : Ent -> Bool := fun e => match e with | .sell .. => true | _ => false
theorem YD (T : Txt K mg A D) : CE K A.ut := ⟨T.y3, T.y6, T.y8, T.y9⟩
def Ce : Ent -> Bool := fun e => match e with | .gift .. => true | _ => false
theorem Zd (T : Txt K mg A D) : CE K A.uu := ⟨T.zf, T.zh, T.zi, T.zj⟩
def Br : Ent -> Bool := fun e => match e with | .give .. => true | _ => false
theorem XQ (T : Txt K mg A D) : CE K A.uv := ⟨T.zn, T.zp, T.zq, T.zr⟩
def Bv : Ent -> Bool := fun e => match e with | .split .. => true | _ => false
theorem Vx (T : Txt K mg A D) : CE K A.uw := ⟨T.zv, T.zx, T.zy, T.zA⟩
def Cm : Ent -> Bool := fun e => match e with | .part .. => true | _ => false
theorem Qx (T : Txt K mg A D) : CE K A.uo := ⟨T.yK, T.yM, T.yN, T.yO⟩
theorem Ip (T : Txt K mg A D) : FnOk P w K mg base CX0 4 A.tz D.tz ["self", "day", "number", "ware", "pieces", "price", "fee"] (QC A.uq A Ds) := by
 refine T.wl.ok Pq (fun vs H Q E h => ?_) (fun cdv A' outer s H vs Q E hr h => ?_)
 ·obtain ⟨x, e, B, dx, nv, hk, rfl, _⟩ := h
  cases e <;> first | rfl | cases hk
 ·obtain ⟨x, e, B, dx, nv, hk, rfl, hN, hg, hv, k⟩ := h
  cases e with
  | sell => cases hk
  | gift => cases hk
  | give => cases hk
  | split => cases hk
  | part => cases hk
  | buy d n w p r f =>
  refine ⟨_, (Ac (Bh (Fy T.z3 (BK (K := K) T) (hr.mono (by decide)) (by rfl) T.x5 T.we.kp (BW T) .nil Ak (Aa (pv 0) (Aa (pv 1) (Aa (pv 2) (Aa (pv 3) Ad))))))
   (Ac (Bh (Ai (Jw (K := K) T) (hr.mono (by decide)) (by rfl) T.wg T.wj (Ky T) .nil Ak (Aa (pv 4) (Aa (pv 5) (Aa (pv 6) Ad)))))
   (Ac (BP (K := K) (pv 0) (pv 4) rfl)
   (Ac (BP (K := K) (pv 0) (pv 5) rfl)
   (Ac (BP (K := K) (pv 0) (pv 6) rfl)
   (Af (BP (K := K) (pv 0) (Az Cj (Az Dp (pv 4) (pv 5)) (pv 6)) rfl))))))), ?_⟩
  simp only [Ent.args]
  walk_at "rda"
  refine ⟨x, d, n, w, B, _, dx, rfl, hN, aaN T, hg.1, fun H1 hN => ?_⟩
  walk_at "rda"
  refine ⟨_, _, _, rfl, hg.2.1, hg.2.2.1, hg.2.2.2, ?_⟩
  walk_at "rda"
  refine ⟨_, dx, _, hN.h, T.yS, T.yX, by simp [fsE], ?_⟩
  rw [BX (f := Str.ofString "pieces") ["day", "number", "ware"] (by rfl) (by decide +kernel)]
  have hN := hN.put (gs := (fsE d n w ++ [(Str.ofString "pieces", V.int p)])) rfl
  refine ⟨_, dx, _, hN.h, T.yS, T.yY, by simp [fsE], ?_⟩
  rw [BX (f := Str.ofString "price") ["day", "number", "ware", "pieces"] (by rfl) (by decide +kernel)]
  have hN := hN.put (gs := ((fsE d n w ++ [(Str.ofString "pieces", V.int p)]) ++ [(Str.ofString "price", V.int r)])) rfl
  refine ⟨_, dx, _, hN.h, T.yS, T.yZ, by simp [fsE], ?_⟩
  rw [BX (f := Str.ofString "fee") ["day", "number", "ware", "pieces", "price"] (by rfl) (by decide +kernel)]
  have hN := hN.put (gs := (((fsE d n w ++ [(Str.ofString "pieces", V.int p)]) ++ [(Str.ofString "price", V.int r)]) ++ [(Str.ofString "fee", V.int f)])) rfl
  refine ⟨CMulU.big (Nat.lt_of_le_of_lt (show p.natAbs <= 1000000000 from by have := hg.2.1; unfold Rg at this; omega) (by decide)) (Nat.lt_of_le_of_lt (show r.natAbs <= 1000000000 from by have := hg.2.2.1; unfold Rg at this; omega) (by decide)), ?_⟩
  refine ⟨_, dx, _, hN.h, T.yS, T.y0, by simp [fsE], ?_⟩
  rw [BX (f := Str.ofString "cost") ["day", "number", "ware", "pieces", "price", "fee"] (by rfl) (by decide +kernel)]
  have hN := hN.put (gs := ((((fsE d n w ++ [(Str.ofString "pieces", V.int p)]) ++ [(Str.ofString "price", V.int r)]) ++ [(Str.ofString "fee", V.int f)]) ++ [(Str.ofString "cost", V.int (p * r + f))])) rfl
  exact k _ ⟨dx, nv, hN, hv.same hN.s, fun q e => by cases hv; cases e⟩
theorem Fe (T : Txt K mg A D) : FnOk P w K mg base CX0 4 A.tF D.tF ["self", "day", "number", "ware", "pieces", "price", "fee", "named"] (QC A.ut A Bp) := by
 refine T.wu.ok MT (fun vs H Q E h => ?_) (fun cdv A' outer s H vs Q E hr h => ?_)
 ·obtain ⟨x, e, B, dx, nv, hk, rfl, _⟩ := h
  cases e <;> first | rfl | cases hk
 ·obtain ⟨x, e, B, dx, nv, hk, rfl, hN, hg, hv, k⟩ := h
  cases e with
  | buy => cases hk
  | gift => cases hk
  | give => cases hk
  | split => cases hk
  | part => cases hk
  | sell d n w p r f o =>
  refine ⟨_, (Ac (Bh (Fy T.z3 (BK (K := K) T) (hr.mono (by decide)) (by rfl) T.x5 T.we.kp (BW T) .nil Ak (Aa (pv 0) (Aa (pv 1) (Aa (pv 2) (Aa (pv 3) Ad))))))
   (Ac (Bh (Ai (Jw (K := K) T) (hr.mono (by decide)) (by rfl) T.wg T.wj (Ky T) .nil Ak (Aa (pv 4) (Aa (pv 5) (Aa (pv 6) Ad)))))
   (Ac (Bh (Ai (Jx (K := K) T) (hr.mono (by decide)) (by rfl) T.wm T.wn (KJ T) .nil Ak (Aa (pv 7) (Aa (pv 4) Ad))))
   (Ac (BP (K := K) (pv 0) (pv 4) rfl)
   (Ac (BP (K := K) (pv 0) (pv 5) rfl)
   (Ac (BP (K := K) (pv 0) (pv 6) rfl)
   (Ac (BP (K := K) (pv 0) (Ai (Fw (K := K) T) (hr.mono (by decide)) (by rfl) T.wq T.wr (Gm T) .nil Ak (Aa (pv 7) Ad)) rfl)
   (Af (BP (K := K) (pv 0) (Az aaM (Az Dp (pv 4) (pv 5)) (pv 6)) rfl))))))))), ?_⟩
  simp only [Ent.args]
  walk_at "rda"
  refine ⟨x, d, n, w, B, _, dx, rfl, hN, YD T, hg.1, fun H1 hN => ?_⟩
  walk_at "rda"
  refine ⟨_, _, _, rfl, hg.2.1, hg.2.2.1, hg.2.2.2.1, ?_⟩
  walk_at "rda"
  refine ⟨_, _, _, rfl, hv.same hN.s, hg.2.2.2.2, fun H2 sm => ?_⟩
  have hN := hN.same sm
  walk_at "rda"
  refine ⟨_, dx, _, hN.h, T.y3, T.za, by simp [fsE], ?_⟩
  rw [BX (f := Str.ofString "pieces") ["day", "number", "ware"] (by rfl) (by decide +kernel)]
  have hN := hN.put (gs := (fsE d n w ++ [(Str.ofString "pieces", V.int p)])) rfl
  refine ⟨_, dx, _, hN.h, T.y3, T.zb, by simp [fsE], ?_⟩
  rw [BX (f := Str.ofString "price") ["day", "number", "ware", "pieces"] (by rfl) (by decide +kernel)]
  have hN := hN.put (gs := ((fsE d n w ++ [(Str.ofString "pieces", V.int p)]) ++ [(Str.ofString "price", V.int r)])) rfl
  refine ⟨_, dx, _, hN.h, T.y3, T.zc, by simp [fsE], ?_⟩
  rw [BX (f := Str.ofString "fee") ["day", "number", "ware", "pieces", "price"] (by rfl) (by decide +kernel)]
  have hN := hN.put (gs := (((fsE d n w ++ [(Str.ofString "pieces", V.int p)]) ++ [(Str.ofString "price", V.int r)]) ++ [(Str.ofString "fee", V.int f)])) rfl
  refine ⟨_, _, rfl, .inl (hv.same hN.s), fun v' H3 sm hnl hq => ?_⟩
  have hb : ∀ q, v' = .ref q -> B q = Option.none := fun q e => hN.s.free (hq q e)
  have hN := hN.same sm
  walk_at "rda"
  have hnl := hnl.updI (u := .ins A.ut dx ((((fsE d n w ++ [(Str.ofString "pieces", V.int p)]) ++ [(Str.ofString "price", V.int r)]) ++ [(Str.ofString "fee", V.int f)]) ++ [(Str.ofString "named", v')])) hN.h
  refine ⟨_, dx, _, hN.h, T.y3, T.zd, by simp [fsE], ?_⟩
  rw [BX (f := Str.ofString "named") ["day", "number", "ware", "pieces", "price", "fee"] (by rfl) (by decide +kernel)]
  have hN := hN.put (gs := ((((fsE d n w ++ [(Str.ofString "pieces", V.int p)]) ++ [(Str.ofString "price", V.int r)]) ++ [(Str.ofString "fee", V.int f)]) ++ [(Str.ofString "named", v')])) rfl
  refine ⟨CMulU.big (Nat.lt_of_le_of_lt (show p.natAbs <= 1000000000 from by have := hg.2.1; unfold Rg at this; omega) (by decide)) (Nat.lt_of_le_of_lt (show r.natAbs <= 1000000000 from by have := hg.2.2.1; unfold Rg at this; omega) (by decide)), ?_⟩
  have hnl := hnl.updI (u := .ins A.ut dx (((((fsE d n w ++ [(Str.ofString "pieces", V.int p)]) ++ [(Str.ofString "price", V.int r)]) ++ [(Str.ofString "fee", V.int f)]) ++ [(Str.ofString "named", v')]) ++ [(Str.ofString "proceeds", V.int (p * r - f))])) hN.h
  refine ⟨_, dx, _, hN.h, T.y3, T.ze, by simp [fsE], ?_⟩
  rw [BX (f := Str.ofString "proceeds") ["day", "number", "ware", "pieces", "price", "fee", "named"] (by rfl) (by decide +kernel)]
  have hN := hN.put (gs := (((((fsE d n w ++ [(Str.ofString "pieces", V.int p)]) ++ [(Str.ofString "price", V.int r)]) ++ [(Str.ofString "fee", V.int f)]) ++ [(Str.ofString "named", v')]) ++ [(Str.ofString "proceeds", V.int (p * r - f))])) rfl
  exact k _ ⟨dx, v', hN, hnl, hb⟩
theorem Ig (T : Txt K mg A D) : FnOk P w K mg base CX0 4 A.tG D.tG ["self", "day", "number", "ware", "pieces", "cost", "since"] (QC A.uu A Ce) := by
 refine T.wv.ok MP (fun vs H Q E h => ?_) (fun cdv A' outer s0 H vs Q E hr h => ?_)
 ·obtain ⟨x, e, B, dx, nv, hk, rfl, _⟩ := h
  cases e <;> first | rfl | cases hk
 ·obtain ⟨x, e, B, dx, nv, hk, rfl, hN, hg, hv, k⟩ := h
  cases e with
  | buy => cases hk
  | sell => cases hk
  | give => cases hk
  | split => cases hk
  | part => cases hk
  | gift d n w p c s =>
  refine ⟨_, (Ac (Bh (Fy T.z3 (BK (K := K) T) (hr.mono (by decide)) (by rfl) T.x5 T.we.kp (BW T) .nil Ak (Aa (pv 0) (Aa (pv 1) (Aa (pv 2) (Aa (pv 3) Ad))))))
   (Ac (Bh (Ai (Ba (K := K) T) (hr.mono (by decide)) (by rfl) T.vV T.vW (Be T) .nil Ak (Aa Aw (Aa (pv 4) (Aa Ab (Aa (Bl (v := V.int 1000000000) (by rfl) T.yv ⟨_, rfl⟩) Ad))))))
   (Ac (Bh (Ai (Ba (K := K) T) (hr.mono (by decide)) (by rfl) T.vV T.vW (Be T) .nil Ak (Aa Aw (Aa (pv 5) (Aa Ab (Aa (Bl (v := V.int 1000000000000000000) (by rfl) T.yy ⟨_, rfl⟩) Ad))))))
   (Ac (Bh (Ai (Ba (K := K) T) (hr.mono (by decide)) (by rfl) T.vV T.vW (Be T) .nil Ak (Aa Aw (Aa (pv 6) (Aa Ab (Aa (pv 1) Ad))))))
   (Ac (BP (K := K) (pv 0) (pv 4) rfl)
   (Ac (BP (K := K) (pv 0) (pv 5) rfl)
   (Af (BP (K := K) (pv 0) (pv 6) rfl)))))))), ?_⟩
  simp only [Ent.args]
  walk_at "rda"
  refine ⟨x, d, n, w, B, _, dx, rfl, hN, Zd T, hg.1, fun H1 hN => ?_⟩
  walk_at "rda"
  refine ⟨_, _, _, _, rfl, hg.2.1.1, hg.2.1.2, ?_⟩
  walk_at "rda"
  refine ⟨_, _, _, _, rfl, hg.2.2.1.1, hg.2.2.1.2, ?_⟩
  walk_at "rda"
  refine ⟨_, _, _, _, rfl, hg.2.2.2.1, hg.2.2.2.2, ?_⟩
  walk_at "rda"
  refine ⟨_, dx, _, hN.h, T.zf, T.zk, by simp [fsE], ?_⟩
  rw [BX (f := Str.ofString "pieces") ["day", "number", "ware"] (by rfl) (by decide +kernel)]
  have hN := hN.put (gs := (fsE d n w ++ [(Str.ofString "pieces", V.int p)])) rfl
  refine ⟨_, dx, _, hN.h, T.zf, T.zl, by simp [fsE], ?_⟩
  rw [BX (f := Str.ofString "cost") ["day", "number", "ware", "pieces"] (by rfl) (by decide +kernel)]
  have hN := hN.put (gs := ((fsE d n w ++ [(Str.ofString "pieces", V.int p)]) ++ [(Str.ofString "cost", V.int c)])) rfl
  refine ⟨_, dx, _, hN.h, T.zf, T.zm, by simp [fsE], ?_⟩
  rw [BX (f := Str.ofString "since") ["day", "number", "ware", "pieces", "cost"] (by rfl) (by decide +kernel)]
  have hN := hN.put (gs := (((fsE d n w ++ [(Str.ofString "pieces", V.int p)]) ++ [(Str.ofString "cost", V.int c)]) ++ [(Str.ofString "since", V.int s)])) rfl
  exact k _ ⟨dx, nv, hN, hv.same hN.s, fun q e => by cases hv; cases e⟩
theorem Fd (T : Txt K mg A D) : FnOk P w K mg base CX0 4 A.tH D.tH ["self", "day", "number", "ware", "pieces", "named"] (QC A.uv A Br) := by
 refine T.ww.ok MK (fun vs H Q E h => ?_) (fun cdv A' outer s H vs Q E hr h => ?_)
 ·obtain ⟨x, e, B, dx, nv, hk, rfl, _⟩ := h
  cases e <;> first | rfl | cases hk
 ·obtain ⟨x, e, B, dx, nv, hk, rfl, hN, hg, hv, k⟩ := h
  cases e with
  | buy => cases hk
  | sell => cases hk
  | gift => cases hk
  | split => cases hk
  | part => cases hk
  | give d n w p o =>
  refine ⟨_, (Ac (Bh (Fy T.z3 (BK (K := K) T) (hr.mono (by decide)) (by rfl) T.x5 T.we.kp (BW T) .nil Ak (Aa (pv 0) (Aa (pv 1) (Aa (pv 2) (Aa (pv 3) Ad))))))
   (Ac (Bh (Ai (Ba (K := K) T) (hr.mono (by decide)) (by rfl) T.vV T.vW (Be T) .nil Ak (Aa Aw (Aa (pv 4) (Aa Ab (Aa (Bl (v := V.int 1000000000) (by rfl) T.yv ⟨_, rfl⟩) Ad))))))
   (Ac (Bh (Ai (Jx (K := K) T) (hr.mono (by decide)) (by rfl) T.wm T.wn (KJ T) .nil Ak (Aa (pv 5) (Aa (pv 4) Ad))))
   (Ac (BP (K := K) (pv 0) (pv 4) rfl)
   (Af (BP (K := K) (pv 0) (Ai (Fw (K := K) T) (hr.mono (by decide)) (by rfl) T.wq T.wr (Gm T) .nil Ak (Aa (pv 5) Ad)) rfl)))))), ?_⟩
  simp only [Ent.args]
  walk_at "rda"
  refine ⟨x, d, n, w, B, _, dx, rfl, hN, XQ T, hg.1, fun H1 hN => ?_⟩
  walk_at "rda"
  refine ⟨_, _, _, _, rfl, hg.2.1.1, hg.2.1.2, ?_⟩
  walk_at "rda"
  refine ⟨_, _, _, rfl, hv.same hN.s, hg.2.2, fun H2 sm => ?_⟩
  have hN := hN.same sm
  walk_at "rda"
  refine ⟨_, dx, _, hN.h, T.zn, T.zt, by simp [fsE], ?_⟩
  rw [BX (f := Str.ofString "pieces") ["day", "number", "ware"] (by rfl) (by decide +kernel)]
  have hN := hN.put (gs := (fsE d n w ++ [(Str.ofString "pieces", V.int p)])) rfl
  refine ⟨_, _, rfl, .inl (hv.same hN.s), fun v' H3 sm hnl hq => ?_⟩
  have hb : ∀ q, v' = .ref q -> B q = Option.none := fun q e => hN.s.free (hq q e)
  have hN := hN.same sm
  walk_at "rda"
  have hnl := hnl.updI (u := .ins A.uv dx ((fsE d n w ++ [(Str.ofString "pieces", V.int p)]) ++ [(Str.ofString "named", v')])) hN.h
  refine ⟨_, dx, _, hN.h, T.zn, T.zu, by simp [fsE], ?_⟩
  rw [BX (f := Str.ofString "named") ["day", "number", "ware", "pieces"] (by rfl) (by decide +kernel)]
  have hN := hN.put (gs := ((fsE d n w ++ [(Str.ofString "pieces", V.int p)]) ++ [(Str.ofString "named", v')])) rfl
  exact k _ ⟨dx, v', hN, hnl, hb⟩
theorem GR (T : Txt K mg A D) : FnOk P w K mg base CX0 4 A.tI D.tI ["self", "day", "number", "ware", "many", "of"] (QC A.uw A Bv) := by
 refine T.wx.ok Lr (fun vs H Q E h => ?_) (fun cdv A' outer s H vs Q E hr h => ?_)
 ·obtain ⟨x, e, B, dx, nv, hk, rfl, _⟩ := h
  cases e <;> first | rfl | cases hk
 ·obtain ⟨x, e, B, dx, nv, hk, rfl, hN, hg, hv, k⟩ := h
  cases e with
  | buy => cases hk
  | sell => cases hk
  | gift => cases hk
  | give => cases hk
  | part => cases hk
  | split d n w m f =>
  refine ⟨_, (Ac (Bh (Fy T.z3 (BK (K := K) T) (hr.mono (by decide)) (by rfl) T.x5 T.we.kp (BW T) .nil Ak (Aa (pv 0) (Aa (pv 1) (Aa (pv 2) (Aa (pv 3) Ad))))))
   (Ac (Bh (Ai (Ba (K := K) T) (hr.mono (by decide)) (by rfl) T.vV T.vW (Be T) .nil Ak (Aa Aw (Aa (pv 4) (Aa Ab (Aa (Bl (v := V.int 1000) (by rfl) T.yz ⟨_, rfl⟩) Ad))))))
   (Ac (Bh (Ai (Ba (K := K) T) (hr.mono (by decide)) (by rfl) T.vV T.vW (Be T) .nil Ak (Aa Aw (Aa (pv 5) (Aa Ab (Aa (Bl (v := V.int 1000) (by rfl) T.yz ⟨_, rfl⟩) Ad))))))
   (Ac (BP (K := K) (pv 0) (pv 4) rfl)
   (Af (BP (K := K) (pv 0) (pv 5) rfl)))))), ?_⟩
  simp only [Ent.args]
  walk_at "rda"
  refine ⟨x, d, n, w, B, _, dx, rfl, hN, Vx T, hg.1, fun H1 hN => ?_⟩
  walk_at "rda"
  refine ⟨_, _, _, _, rfl, hg.2.1.1, hg.2.1.2, ?_⟩
  walk_at "rda"
  refine ⟨_, _, _, _, rfl, hg.2.2.1, hg.2.2.2, ?_⟩
  walk_at "rda"
  refine ⟨_, dx, _, hN.h, T.zv, T.zB, by simp [fsE], ?_⟩
  rw [BX (f := Str.ofString "many") ["day", "number", "ware"] (by rfl) (by decide +kernel)]
  have hN := hN.put (gs := (fsE d n w ++ [(Str.ofString "many", V.int m)])) rfl
  refine ⟨_, dx, _, hN.h, T.zv, T.zC, by simp [fsE], ?_⟩
  rw [BX (f := Str.ofString "of") ["day", "number", "ware", "many"] (by rfl) (by decide +kernel)]
  have hN := hN.put (gs := ((fsE d n w ++ [(Str.ofString "many", V.int m)]) ++ [(Str.ofString "of", V.int f)])) rfl
  exact k _ ⟨dx, nv, hN, hv.same hN.s, fun q e => by cases hv; cases e⟩
theorem FW (T : Txt K mg A D) : FnOk P w K mg base CX0 4 A.tq D.tq ["self", "day", "number", "ware", "other", "share", "whole"] (QC A.uo A Cm) := by
 refine T.wf.ok JN (fun vs H Q E h => ?_) (fun cdv A' outer s0 H vs Q E hr h => ?_)
 ·obtain ⟨x, e, B, dx, nv, hk, rfl, _⟩ := h
  cases e <;> first | rfl | cases hk
 ·obtain ⟨x, e, B, dx, nv, hk, rfl, hN, hg, hv, k⟩ := h
  cases e with
  | buy => cases hk
  | sell => cases hk
  | gift => cases hk
  | give => cases hk
  | split => cases hk
  | part d n w u s t =>
  refine ⟨_, (Ac (Bh (Fy T.z3 (BK (K := K) T) (hr.mono (by decide)) (by rfl) T.x5 T.we.kp (BW T) .nil Ak (Aa (pv 0) (Aa (pv 1) (Aa (pv 2) (Aa (pv 3) Ad))))))
   (Ac (Bh (Ai (Kf (K := K) T) (hr.mono (by decide)) (by rfl) T.wb T.wc (Mg T) .nil Ak (Aa Aw (Aa (pv 4) Ad))))
   (Ac (Bq (Al (Ck) (pv 4) (pv 3) (Ay _)) (Af (Ie)) Av)
   (Ac (Bh (Ai (Ba (K := K) T) (hr.mono (by decide)) (by rfl) T.vV T.vW (Be T) .nil Ak (Aa Aw (Aa (pv 6) (Aa Ab (Aa (Bl (v := V.int 1000000) (by rfl) T.yu ⟨_, rfl⟩) Ad))))))
   (Ac (Bh (Ai (Ba (K := K) T) (hr.mono (by decide)) (by rfl) T.vV T.vW (Be T) .nil Ak (Aa Aw (Aa (pv 5) (Aa Ab (Aa (pv 6) Ad))))))
   (Ac (BP (K := K) (pv 0) (pv 4) rfl)
   (Ac (BP (K := K) (pv 0) (pv 5) rfl)
   (Af (BP (K := K) (pv 0) (pv 6) rfl))))))))), ?_⟩
  simp only [Ent.args]
  walk_at "rda"
  refine ⟨x, d, n, w, B, _, dx, rfl, hN, Qx T, hg.1, fun H1 hN => ?_⟩
  walk_at "rda"
  refine ⟨_, _, rfl, hg.2.1, fun H2 sm => ?_⟩
  have hN := hN.same sm
  walk_at "rda"
  rw [if_neg hg.2.2.1]
  refine ⟨_, _, _, _, rfl, hg.2.2.2.1.1, hg.2.2.2.1.2, ?_⟩
  walk_at "rda"
  refine ⟨_, _, _, _, rfl, hg.2.2.2.2.1, hg.2.2.2.2.2, ?_⟩
  walk_at "rda"
  refine ⟨_, dx, _, hN.h, T.yK, T.yP, by simp [fsE], ?_⟩
  rw [BX (f := Str.ofString "other") ["day", "number", "ware"] (by rfl) (by decide +kernel)]
  have hN := hN.put (gs := (fsE d n w ++ [(Str.ofString "other", V.str u)])) rfl
  refine ⟨_, dx, _, hN.h, T.yK, T.yQ, by simp [fsE], ?_⟩
  rw [BX (f := Str.ofString "share") ["day", "number", "ware", "other"] (by rfl) (by decide +kernel)]
  have hN := hN.put (gs := ((fsE d n w ++ [(Str.ofString "other", V.str u)]) ++ [(Str.ofString "share", V.int s)])) rfl
  refine ⟨_, dx, _, hN.h, T.yK, T.yR, by simp [fsE], ?_⟩
  rw [BX (f := Str.ofString "whole") ["day", "number", "ware", "other", "share"] (by rfl) (by decide +kernel)]
  have hN := hN.put (gs := (((fsE d n w ++ [(Str.ofString "other", V.str u)]) ++ [(Str.ofString "share", V.int s)]) ++ [(Str.ofString "whole", V.int t)])) rfl
  exact k _ ⟨dx, nv, hN, hv.same hN.s, fun q e => by cases hv; cases e⟩
end
end My
namespace My
open PySem L2 PyProof.Rows
section
variable {P : Program} {w : World} {K : Fg_} {mg : Str -> Option Value} {base : Heap} {A : Adr} {D : Fds}
def GF (isK : Ent -> Bool) : Sp := fun vs H Q _ => ∃ (x : Addr) (e : Ent), isK e = true /\ vs = [.ref x] /\ Q (.str e.word) H
def GQ (A : Adr) (isK : Ent -> Bool) : Sp := fun vs H Q _ => ∃ (x : Addr) (e : Ent), isK e = true /\ vs = [.ref x] /\ IsE A H x e /\
 ∀ t nt H', Same H H' -> H t = Option.none -> H' t = some (.tup (.str e.word :: e.args nt)) -> NT H' nt e.lots -> Q (.ref t) H'
theorem Nu (T : Txt K mg A D) : FnOk P w K mg base CX0 1 A.tK D.tK ["self"] (GF Ds) := by
 refine T.wB.ok Uq (fun vs H Q E h => ?_) (fun cdv A' outer s0 H vs Q E hr h => ?_)
 ·obtain ⟨x, e, hk, rfl, _⟩ := h; rfl
 ·obtain ⟨x, e, hk, rfl, k⟩ := h
  refine ⟨_, (Af (Am Aw)), ?_⟩
  walk_at "rda"
  cases e <;> first | exact k | cases hk
theorem Ml (T : Txt K mg A D) : FnOk P w K mg base CX0 1 A.tN D.tN ["self"] (GF Bp) := by
 refine T.wG.ok RZ (fun vs H Q E h => ?_) (fun cdv A' outer s0 H vs Q E hr h => ?_)
 ·obtain ⟨x, e, hk, rfl, _⟩ := h; rfl
 ·obtain ⟨x, e, hk, rfl, k⟩ := h
  refine ⟨_, (Af (Am Aw)), ?_⟩
  walk_at "rda"
  cases e <;> first | exact k | cases hk
theorem Ms (T : Txt K mg A D) : FnOk P w K mg base CX0 1 A.tP D.tP ["self"] (GF Ce) := by
 refine T.wI.ok SX (fun vs H Q E h => ?_) (fun cdv A' outer s0 H vs Q E hr h => ?_)
 ·obtain ⟨x, e, hk, rfl, _⟩ := h; rfl
 ·obtain ⟨x, e, hk, rfl, k⟩ := h
  refine ⟨_, (Af (Am Aw)), ?_⟩
  walk_at "rda"
  cases e <;> first | exact k | cases hk
theorem Mm (T : Txt K mg A D) : FnOk P w K mg base CX0 1 A.tR D.tR ["self"] (GF Br) := by
 refine T.wK.ok RV (fun vs H Q E h => ?_) (fun cdv A' outer s0 H vs Q E hr h => ?_)
 ·obtain ⟨x, e, hk, rfl, _⟩ := h; rfl
 ·obtain ⟨x, e, hk, rfl, k⟩ := h
  refine ⟨_, (Af (Am Aw)), ?_⟩
  walk_at "rda"
  cases e <;> first | exact k | cases hk
theorem Kw (T : Txt K mg A D) : FnOk P w K mg base CX0 1 A.tT D.tT ["self"] (GF Bv) := by
 refine T.wM.ok Rn (fun vs H Q E h => ?_) (fun cdv A' outer s0 H vs Q E hr h => ?_)
 ·obtain ⟨x, e, hk, rfl, _⟩ := h; rfl
 ·obtain ⟨x, e, hk, rfl, k⟩ := h
  refine ⟨_, (Af (Am Aw)), ?_⟩
  walk_at "rda"
  cases e <;> first | exact k | cases hk
theorem Io (T : Txt K mg A D) : FnOk P w K mg base CX0 1 A.tV D.tV ["self"] (GF Cm) := by
 refine T.wO.ok Ot (fun vs H Q E h => ?_) (fun cdv A' outer s0 H vs Q E hr h => ?_)
 ·obtain ⟨x, e, hk, rfl, _⟩ := h; rfl
 ·obtain ⟨x, e, hk, rfl, k⟩ := h
  refine ⟨_, (Af (Am Aw)), ?_⟩
  walk_at "rda"
  cases e <;> first | exact k | cases hk
theorem Gb (T : Txt K mg A D) : FnOk P w K mg base CX0 2 A.tL D.tL ["self"] (GQ A Ds) := by
 refine T.wC.ok Vl (fun vs H Q E h => ?_) (fun cdv A' outer s0 H vs Q E hr h => ?_)
 ·obtain ⟨x, e, hk, rfl, _⟩ := h; rfl
 ·obtain ⟨x, e, hk, rfl, ⟨dx, nv, hx, hn⟩, k⟩ := h
  refine ⟨_, (Af (Am (Bw (Aa (Bt (pv 0) (.cons T.yS T.zK (Nu (K := K) T) (hr.mono (by decide)) (Qt T) .nil) Ak) (Aa (Ar (K := K) (pv 0) rfl) (Aa (Ar (K := K) (pv 0) rfl) (Aa (Ar (K := K) (pv 0) rfl) (Aa (Ar (K := K) (pv 0) rfl) (Aa (Ar (K := K) (pv 0) rfl) (Aa (Ar (K := K) (pv 0) rfl) Ad)))))))))), ?_⟩
  cases e with
  | sell => cases hk
  | gift => cases hk
  | give => cases hk
  | split => cases hk
  | part => cases hk
  | buy d n w p r f =>
  walk_at "rda"
  refine ⟨_, dx, _, hx, _, List.mem_cons_self, by rfl, ?_⟩
  refine ⟨x, .buy d n w p r f, rfl, rfl, ?_⟩
  refine ⟨_, dx, _, hx, T.yS, T.yU, _, by rfl, ?_⟩
  refine ⟨_, dx, _, hx, T.yS, T.yV, _, by rfl, ?_⟩
  refine ⟨_, dx, _, hx, T.yS, T.yW, _, by rfl, ?_⟩
  refine ⟨_, dx, _, hx, T.yS, T.yX, _, by rfl, ?_⟩
  refine ⟨_, dx, _, hx, T.yS, T.yY, _, by rfl, ?_⟩
  refine ⟨_, dx, _, hx, T.yS, T.yZ, _, by rfl, ?_⟩
  refine ⟨by rw [sizeLine_eq]; decide, fun t ht => k t .non _ (Same.new ht) ht Ae rfl⟩
theorem Ew (T : Txt K mg A D) : FnOk P w K mg base CX0 2 A.tO D.tO ["self"] (GQ A Bp) := by
 refine T.wH.ok sc_Sell_told (fun vs H Q E h => ?_) (fun cdv A' outer s0 H vs Q E hr h => ?_)
 ·obtain ⟨x, e, hk, rfl, _⟩ := h; rfl
 ·obtain ⟨x, e, hk, rfl, ⟨dx, nv, hx, hn⟩, k⟩ := h
  refine ⟨_, (Ac (Bd (i := 1) sc_Sell_told.nd rfl (Or.inl rfl) (Ai (Kd (K := K) T) (hr.mono (by decide)) (by rfl) T.wD T.wE (Mr T) .nil Ak (Aa (Ar (K := K) (pv 0) rfl) Ad)))
   (Af (Am (Bw (Aa (Bt (pv 0) (.cons T.y3 T.zL (Ml (K := K) T) (hr.mono (by decide)) (Ow T) .nil) Ak) (Aa (Ar (K := K) (pv 0) rfl) (Aa (Ar (K := K) (pv 0) rfl) (Aa (Ar (K := K) (pv 0) rfl) (Aa (Ar (K := K) (pv 0) rfl) (Aa (Ar (K := K) (pv 0) rfl) (Aa (Ar (K := K) (pv 0) rfl) (Aa (pv 1) Ad)))))))))))), ?_⟩
  cases e with
  | buy => cases hk
  | gift => cases hk
  | give => cases hk
  | split => cases hk
  | part => cases hk
  | sell d n w p r f o =>
  walk_at "rda"
  refine ⟨_, dx, _, hx, T.y3, T.zd, _, by rfl, ?_⟩
  refine ⟨_, _, rfl, hn, fun nt H1 s1 h1 => ?_⟩
  walk_at "rda"
  refine ⟨_, dx, _, (s1 _ _ hx), _, List.mem_cons_self, by rfl, ?_⟩
  refine ⟨x, .sell d n w p r f o, rfl, rfl, ?_⟩
  refine ⟨_, dx, _, (s1 _ _ hx), T.y3, T.y6, _, by rfl, ?_⟩
  refine ⟨_, dx, _, (s1 _ _ hx), T.y3, T.y8, _, by rfl, ?_⟩
  refine ⟨_, dx, _, (s1 _ _ hx), T.y3, T.y9, _, by rfl, ?_⟩
  refine ⟨_, dx, _, (s1 _ _ hx), T.y3, T.za, _, by rfl, ?_⟩
  refine ⟨_, dx, _, (s1 _ _ hx), T.y3, T.zb, _, by rfl, ?_⟩
  refine ⟨_, dx, _, (s1 _ _ hx), T.y3, T.zc, _, by rfl, ?_⟩
  refine ⟨by rw [sizeLine_eq]; decide, fun t ht => k t nt _ (s1.upd (s1.free ht)) (s1.free ht) Ae (h1.same (Same.new ht))⟩
theorem Ez (T : Txt K mg A D) : FnOk P w K mg base CX0 2 A.tQ D.tQ ["self"] (GQ A Ce) := by
 refine T.wJ.ok Th (fun vs H Q E h => ?_) (fun cdv A' outer s0 H vs Q E hr h => ?_)
 ·obtain ⟨x, e, hk, rfl, _⟩ := h; rfl
 ·obtain ⟨x, e, hk, rfl, ⟨dx, nv, hx, hn⟩, k⟩ := h
  refine ⟨_, (Af (Am (Bw (Aa (Bt (pv 0) (.cons T.zf T.zM (Ms (K := K) T) (hr.mono (by decide)) (Pg T) .nil) Ak) (Aa (Ar (K := K) (pv 0) rfl) (Aa (Ar (K := K) (pv 0) rfl) (Aa (Ar (K := K) (pv 0) rfl) (Aa (Ar (K := K) (pv 0) rfl) (Aa (Ar (K := K) (pv 0) rfl) (Aa (Ar (K := K) (pv 0) rfl) Ad)))))))))), ?_⟩
  cases e with
  | buy => cases hk
  | sell => cases hk
  | give => cases hk
  | split => cases hk
  | part => cases hk
  | gift d n w p c s =>
  walk_at "rda"
  refine ⟨_, dx, _, hx, _, List.mem_cons_self, by rfl, ?_⟩
  refine ⟨x, .gift d n w p c s, rfl, rfl, ?_⟩
  refine ⟨_, dx, _, hx, T.zf, T.zh, _, by rfl, ?_⟩
  refine ⟨_, dx, _, hx, T.zf, T.zi, _, by rfl, ?_⟩
  refine ⟨_, dx, _, hx, T.zf, T.zj, _, by rfl, ?_⟩
  refine ⟨_, dx, _, hx, T.zf, T.zk, _, by rfl, ?_⟩
  refine ⟨_, dx, _, hx, T.zf, T.zl, _, by rfl, ?_⟩
  refine ⟨_, dx, _, hx, T.zf, T.zm, _, by rfl, ?_⟩
  refine ⟨by rw [sizeLine_eq]; decide, fun t ht => k t .non _ (Same.new ht) ht Ae rfl⟩
theorem Fb (T : Txt K mg A D) : FnOk P w K mg base CX0 2 A.tS D.tS ["self"] (GQ A Br) := by
 refine T.wL.ok RX (fun vs H Q E h => ?_) (fun cdv A' outer s0 H vs Q E hr h => ?_)
 ·obtain ⟨x, e, hk, rfl, _⟩ := h; rfl
 ·obtain ⟨x, e, hk, rfl, ⟨dx, nv, hx, hn⟩, k⟩ := h
  refine ⟨_, (Af (Am (Bw (Aa (Bt (pv 0) (.cons T.zn T.zN (Mm (K := K) T) (hr.mono (by decide)) (Oh T) .nil) Ak) (Aa (Ar (K := K) (pv 0) rfl) (Aa (Ar (K := K) (pv 0) rfl) (Aa (Ar (K := K) (pv 0) rfl) (Aa (Ar (K := K) (pv 0) rfl) (Aa (Ai (Kd (K := K) T) (hr.mono (by decide)) (by rfl) T.wD T.wE (Mr T) .nil Ak (Aa (Ar (K := K) (pv 0) rfl) Ad)) Ad))))))))), ?_⟩
  cases e with
  | buy => cases hk
  | sell => cases hk
  | gift => cases hk
  | split => cases hk
  | part => cases hk
  | give d n w p o =>
  walk_at "rda"
  refine ⟨_, dx, _, hx, _, List.mem_cons_self, by rfl, ?_⟩
  refine ⟨x, .give d n w p o, rfl, rfl, ?_⟩
  refine ⟨_, dx, _, hx, T.zn, T.zp, _, by rfl, ?_⟩
  refine ⟨_, dx, _, hx, T.zn, T.zq, _, by rfl, ?_⟩
  refine ⟨_, dx, _, hx, T.zn, T.zr, _, by rfl, ?_⟩
  refine ⟨_, dx, _, hx, T.zn, T.zt, _, by rfl, ?_⟩
  refine ⟨_, dx, _, hx, T.zn, T.zu, _, by rfl, ?_⟩
  refine ⟨_, _, rfl, hn, fun nt H1 s1 h1 => ?_⟩
  walk_at "rda"
  refine ⟨by rw [sizeLine_eq]; decide, fun t ht => k t nt _ (s1.upd (s1.free ht)) (s1.free ht) Ae (h1.same (Same.new ht))⟩
theorem DW (T : Txt K mg A D) : FnOk P w K mg base CX0 2 A.tU D.tU ["self"] (GQ A Bv) := by
 refine T.wN.ok Rq (fun vs H Q E h => ?_) (fun cdv A' outer s0 H vs Q E hr h => ?_)
 ·obtain ⟨x, e, hk, rfl, _⟩ := h; rfl
 ·obtain ⟨x, e, hk, rfl, ⟨dx, nv, hx, hn⟩, k⟩ := h
  refine ⟨_, (Af (Am (Bw (Aa (Bt (pv 0) (.cons T.zv T.zO (Kw (K := K) T) (hr.mono (by decide)) (Mt T) .nil) Ak) (Aa (Ar (K := K) (pv 0) rfl) (Aa (Ar (K := K) (pv 0) rfl) (Aa (Ar (K := K) (pv 0) rfl) (Aa (Ar (K := K) (pv 0) rfl) (Aa (Ar (K := K) (pv 0) rfl) Ad))))))))), ?_⟩
  cases e with
  | buy => cases hk
  | sell => cases hk
  | gift => cases hk
  | give => cases hk
  | part => cases hk
  | split d n w m f =>
  walk_at "rda"
  refine ⟨_, dx, _, hx, _, List.mem_cons_self, by rfl, ?_⟩
  refine ⟨x, .split d n w m f, rfl, rfl, ?_⟩
  refine ⟨_, dx, _, hx, T.zv, T.zx, _, by rfl, ?_⟩
  refine ⟨_, dx, _, hx, T.zv, T.zy, _, by rfl, ?_⟩
  refine ⟨_, dx, _, hx, T.zv, T.zA, _, by rfl, ?_⟩
  refine ⟨_, dx, _, hx, T.zv, T.zB, _, by rfl, ?_⟩
  refine ⟨_, dx, _, hx, T.zv, T.zC, _, by rfl, ?_⟩
  refine ⟨by rw [sizeLine_eq]; decide, fun t ht => k t .non _ (Same.new ht) ht Ae rfl⟩
theorem CK (T : Txt K mg A D) : FnOk P w K mg base CX0 2 A.tW D.tW ["self"] (GQ A Cm) := by
 refine T.wP.ok Np (fun vs H Q E h => ?_) (fun cdv A' outer s0 H vs Q E hr h => ?_)
 ·obtain ⟨x, e, hk, rfl, _⟩ := h; rfl
 ·obtain ⟨x, e, hk, rfl, ⟨dx, nv, hx, hn⟩, k⟩ := h
  refine ⟨_, (Af (Am (Bw (Aa (Bt (pv 0) (.cons T.yK T.zP (Io (K := K) T) (hr.mono (by decide)) (Jy T) .nil) Ak) (Aa (Ar (K := K) (pv 0) rfl) (Aa (Ar (K := K) (pv 0) rfl) (Aa (Ar (K := K) (pv 0) rfl) (Aa (Ar (K := K) (pv 0) rfl) (Aa (Ar (K := K) (pv 0) rfl) (Aa (Ar (K := K) (pv 0) rfl) Ad)))))))))), ?_⟩
  cases e with
  | buy => cases hk
  | sell => cases hk
  | gift => cases hk
  | give => cases hk
  | split => cases hk
  | part d n w u s t =>
  walk_at "rda"
  refine ⟨_, dx, _, hx, _, List.mem_cons_self, by rfl, ?_⟩
  refine ⟨x, .part d n w u s t, rfl, rfl, ?_⟩
  refine ⟨_, dx, _, hx, T.yK, T.yM, _, by rfl, ?_⟩
  refine ⟨_, dx, _, hx, T.yK, T.yN, _, by rfl, ?_⟩
  refine ⟨_, dx, _, hx, T.yK, T.yO, _, by rfl, ?_⟩
  refine ⟨_, dx, _, hx, T.yK, T.yP, _, by rfl, ?_⟩
  refine ⟨_, dx, _, hx, T.yK, T.yQ, _, by rfl, ?_⟩
  refine ⟨_, dx, _, hx, T.yK, T.yR, _, by rfl, ?_⟩
  refine ⟨by rw [sizeLine_eq]; decide, fun t ht => k t .non _ (Same.new ht) ht Ae rfl⟩
end
end My
namespace My
open PySem L2 PyProof.Rows
section
variable {P : Program} {w : World} {K : Fg_} {mg : Str -> Option Value} {base : Heap} {A : Adr} {D : Fds}
local macro_rules | `(tactic| walk_at "nx") => `(tactic| (rw [ap_seq]; walk_at "rdi"))
def TupE (H : Hp) (t : Addr) (e : Ent) : Prop := ∃ nt, H t = some (.tup (.str e.word :: e.args nt)) /\ NT H nt e.lots
theorem TupE.same {H H' : Hp} {t : Addr} {e : Ent} (s : Same H H') : TupE H t e -> TupE H' t e := fun ⟨nt, h, n⟩ => ⟨nt, s _ _ h, n.same s⟩
theorem Gf {H : Hp} {x dx C : Addr} (hx : H x = Option.none) (hdx : H dx = Option.none) : New H (upd (upd H dx (.own x)) x (.ins C dx [])) x C dx [] := ⟨(Same.new hdx).upd hx, hx, Ae⟩
end
end My
namespace My
open PySem L2 PyProof.Rows
section
variable {P : Program} {w : World} {K : Fg_} {mg : Str -> Option Value} {base : Heap} {A : Adr} {D : Fds}
def Ent.day : Ent -> Int
 | .buy d .. => d
 | .sell d .. => d
 | .gift d .. => d
 | .give d .. => d
 | .split d .. => d
 | .part d .. => d
def Ent.num : Ent -> Int
 | .buy _ n .. => n
 | .sell _ n .. => n
 | .gift _ n .. => n
 | .give _ n .. => n
 | .split _ n .. => n
 | .part _ n .. => n
def Ent.ware : Ent -> Str
 | .buy _ _ w .. => w
 | .sell _ _ w .. => w
 | .gift _ _ w .. => w
 | .give _ _ w .. => w
 | .split _ _ w .. => w
 | .part _ _ w .. => w
theorem Nt (T : Txt K mg A D) (e : Ent) : CE K (e.cls A) := by
 cases e with
 | buy => exact aaN T
 | sell => exact YD T
 | gift => exact Zd T
 | give => exact XQ T
 | split => exact Vx T
 | part => exact Qx T
theorem Vv (e : Ent) (nv : V) : (e.fs nv).lookup (Str.ofString "day") = some (.int e.day) := by cases e <;> rfl
theorem Bs (e : Ent) (nv : V) : (e.fs nv).lookup (Str.ofString "number") = some (.int e.num) := by cases e <;> rfl
theorem Xp (e : Ent) (nv : V) : (e.fs nv).lookup (Str.ofString "word") = Option.none := by cases e <;> rfl
theorem IV (e : Ent) (nv : V) : (e.fs nv).lookup (Str.ofString "told") = Option.none := by cases e <;> rfl
def aeH (A : Adr) : List (Addr × Sp) := [(A.uq, GF Ds), (A.ut, GF Bp), (A.uu, GF Ce), (A.uv, GF Br), (A.uw, GF Bv), (A.uo, GF Cm)]
def aeu (A : Adr) : List (Addr × Sp) := [(A.uq, GQ A Ds), (A.ut, GQ A Bp), (A.uu, GQ A Ce), (A.uv, GQ A Br), (A.uw, GQ A Bv), (A.uo, GQ A Cm)]
theorem aeh (A : Adr) (e : Ent) : ∃ isK, isK e = true /\ (e.cls A, GF isK) ∈ aeH A := by
 cases e with
 | buy => exact ⟨Ds, rfl, .head _⟩
 | sell => exact ⟨Bp, rfl, .tail _ (.head _)⟩
 | gift => exact ⟨Ce, rfl, .tail _ (.tail _ (.head _))⟩
 | give => exact ⟨Br, rfl, .tail _ (.tail _ (.tail _ (.head _)))⟩
 | split => exact ⟨Bv, rfl, .tail _ (.tail _ (.tail _ (.tail _ (.head _))))⟩
 | part => exact ⟨Cm, rfl, .tail _ (.tail _ (.tail _ (.tail _ (.tail _ (.head _)))))⟩
theorem Ys (A : Adr) (e : Ent) : ∃ isK, isK e = true /\ (e.cls A, GQ A isK) ∈ aeu A := by
 cases e with
 | buy => exact ⟨Ds, rfl, .head _⟩
 | sell => exact ⟨Bp, rfl, .tail _ (.head _)⟩
 | gift => exact ⟨Ce, rfl, .tail _ (.tail _ (.head _))⟩
 | give => exact ⟨Br, rfl, .tail _ (.tail _ (.tail _ (.head _)))⟩
 | split => exact ⟨Bv, rfl, .tail _ (.tail _ (.tail _ (.tail _ (.head _))))⟩
 | part => exact ⟨Cm, rfl, .tail _ (.tail _ (.tail _ (.tail _ (.tail _ (.head _)))))⟩
def pairD (r : Addr × Int × Int) : DV := .tup [.int r.2.1, .int r.2.2]
def ntD : Option Rs -> DV
 | Option.none => .non
 | some rs => .tup (rs.map pairD)
def Ent.argsD : Ent -> List DV
 | .buy d n w p r f => [.int d, .int n, .str w, .int p, .int r, .int f]
 | .sell d n w p r f o => [.int d, .int n, .str w, .int p, .int r, .int f, ntD o]
 | .gift d n w p c s => [.int d, .int n, .str w, .int p, .int c, .int s]
 | .give d n w p o => [.int d, .int n, .str w, .int p, ntD o]
 | .split d n w m f => [.int d, .int n, .str w, .int m, .int f]
 | .part d n w u s t => [.int d, .int n, .str w, .str u, .int s, .int t]
def Ent.dvT (e : Ent) : DV := .tup (.str e.word :: e.argsD)
theorem Tt {H : Hp} : ∀ {rs : Rs}, Lots H rs -> RepsD K H (refs rs) (rs.map pairD)
 | [], _ => .nil
 | r :: rs, h => .cons (.tup (SqT.of (h r (.head _))) (.cons (.int _) (.cons (.int _) .nil))) (Tt fun q hq => h q (.tail _ hq))
theorem aaV {H : Hp} {nt : V} {o : Option Rs} (h : NT H nt o) : RepD K H nt (ntD o) := by
 cases o with
 | none => cases h; exact .non
 | some rs => obtain ⟨l, rfl, h1, h2⟩ := h; exact .tup (SqT.of h1) (Tt h2)
theorem Rz {H : Hp} {t : Addr} {e : Ent} (h : TupE H t e) : RepD K H (.ref t) e.dvT := by
 obtain ⟨nt, h1, h2⟩ := h
 refine .tup (SqT.of h1) (.cons (.str _) ?_)
 cases e with
 | buy => exact .cons (.int _) (.cons (.int _) (.cons (.str _) (.cons (.int _) (.cons (.int _) (.cons (.int _) (.nil))))))
 | sell => exact .cons (.int _) (.cons (.int _) (.cons (.str _) (.cons (.int _) (.cons (.int _) (.cons (.int _) (.cons (aaV h2) (.nil)))))))
 | gift => exact .cons (.int _) (.cons (.int _) (.cons (.str _) (.cons (.int _) (.cons (.int _) (.cons (.int _) (.nil))))))
 | give => exact .cons (.int _) (.cons (.int _) (.cons (.str _) (.cons (.int _) (.cons (aaV h2) (.nil)))))
 | split => exact .cons (.int _) (.cons (.int _) (.cons (.str _) (.cons (.int _) (.cons (.int _) (.nil)))))
 | part => exact .cons (.int _) (.cons (.int _) (.cons (.str _) (.cons (.str _) (.cons (.int _) (.cons (.int _) (.nil))))))
theorem Qw : ∀ rs : Rs, Ef (rs.map pairD) <= 1
 | [] => by decide
 | r :: rs => by
  rw [List.map_cons]
  unfold Ef
  exact Nat.max_le.mpr ⟨by simp [pairD, GX, Ef], Qw rs⟩
theorem Vn (o : Option Rs) : GX (ntD o) <= 2 := by
 cases o with
 | none => decide
 | some rs => show Ef (rs.map pairD) + 1 <= 2; have := Qw rs; omega
theorem VG (e : Ent) : 1 <= GX e.dvT /\ GX e.dvT <= 20 := by
 refine ⟨Nat.succ_le_succ (Nat.zero_le _), ?_⟩
 cases e with
 | sell d n w p r f o =>
  have := Vn o
  simp only [Ent.dvT, Ent.argsD, GX, Ef]
  omega
 | give d n w p o =>
  have := Vn o
  simp only [Ent.dvT, Ent.argsD, GX, Ef]
  omega
 | _ => simp only [Ent.dvT, Ent.argsD, GX, Ef]; decide
theorem Tf {H : Hp} {Q : VK} {p q : Addr} {e : Ent} (h1 : TupE H p e) (h2 : TupE H q e) (k : Q (.bl false) H) : adF K (.ref p) (.ref q) H Q :=
 ⟨e.dvT, e.dvT, Rz h1, Rz h2, (VG e).1, (VG e).2, by rw [Hg]; exact k⟩
theorem Lots.put {H : Hp} {rs : Rs} {l : Addr} {xs : List V} {u : HO} (h : Lots H rs) (hl : H l = some (.lst xs)) : Lots (upd H l u) rs := fun r hr => by
 have h2 := h r hr
 rw [Aj (fun z => by rw [z, hl] at h2; cases h2)]
 exact h2
theorem NT.put {H : Hp} {v : V} {o : Option Rs} {l : Addr} {xs : List V} {u : HO} (h : NT H v o) (hl : H l = some (.lst xs)) : NT (upd H l u) v o := by
 cases o with
 | none => exact h
 | some rs =>
  obtain ⟨q, rfl, h1, h2⟩ := h
  refine ⟨q, rfl, ?_, h2.put hl⟩
  rw [Aj (fun z => by rw [z, hl] at h1; cases h1)]
  exact h1
theorem TupE.put {H : Hp} {t : Addr} {e : Ent} {l : Addr} {xs : List V} {u : HO} (h : TupE H t e) (hl : H l = some (.lst xs)) : TupE (upd H l u) t e := by
 obtain ⟨nt, h1, h2⟩ := h
 refine ⟨nt, ?_, h2.put hl⟩
 rw [Aj (fun z => by rw [z, hl] at h1; cases h1)]
 exact h1
def Kept (A : Adr) (l : Addr) (H : Hp) (x : Addr) (e : Ent) : Prop := ∃ dx nv, H x = some (.ins (e.cls A) dx (e.fs nv)) /\ NL H nv e.lots /\ ∀ q, nv = .ref q -> q ≠ l
theorem Kept.isE {l : Addr} {H : Hp} {x : Addr} {e : Ent} : Kept A l H x e -> IsE A H x e := fun ⟨dx, nv, h, n, _⟩ => ⟨dx, nv, h, n⟩
theorem Kept.same {l : Addr} {H H' : Hp} {x : Addr} {e : Ent} (s : Same H H') : Kept A l H x e -> Kept A l H' x e := fun ⟨dx, nv, h, n, q⟩ => ⟨dx, nv, s _ _ h, n.same s, q⟩
theorem Made.kept {B H : Hp} {x : Addr} {e : Ent} {l : Addr} {ys : List V} (h : Made A B H x e) (hB : B l = some (.lst ys)) : Kept A l H x e := by
 obtain ⟨dx, nv, h1, h2, h3⟩ := h
 exact ⟨dx, nv, h1.h, h2, fun q e z => by rw [<- z, h3 q e] at hB; cases hB⟩
theorem Kept.put {H : Hp} {x : Addr} {e : Ent} {l : Addr} {xs : List V} {u : HO} (h : Kept A l H x e) (hl : H l = some (.lst xs)) : Kept A l (upd H l u) x e := by
 obtain ⟨dx, nv, hx, h2, h3⟩ := h
 refine ⟨dx, nv, ?_, ?_, h3⟩
 ·rw [Aj (fun z => by rw [z, hl] at hx; cases hx)]
  exact hx
 ·generalize e.lots = o at h2
  cases o with
  | none => exact h2
  | some rs =>
   obtain ⟨q, rfl, h4, h5⟩ := h2
   refine ⟨q, rfl, ?_, h5.put hl⟩
   rw [Aj (h3 q rfl)]
   exact h4
end
end My
namespace My
open PySem L2 PyProof.Rows
section
variable {P : Program} {w : World} {K : Fg_} {mg : Str -> Option Value} {base : Heap} {A : Adr} {D : Fds}
local macro_rules | `(tactic| walk_at "nx") => `(tactic| (rw [ap_seq]; walk_at "rdi"))
theorem at3 {a b c i : Int} {lo hi : Int} (h0 : 0 <= i) (h1 : i < 3) (ha : Rg lo hi a) (hb : Rg lo hi b) (hc : Rg lo hi c) : ∃ v, atI [V.int a, V.int b, V.int c] i = some (.int v) /\ Rg lo hi v := by
 have h : i = 0 \/ i = 1 \/ i = 2 := by omega
 rcases h with h | h | h <;> rw [h]
 ·exact ⟨a, rfl, ha⟩
 ·exact ⟨b, rfl, hb⟩
 ·exact ⟨c, rfl, hc⟩
theorem Ih {lo hi x m : Int} (hm : 0 < m) (hl : lo <= 0) (hh : m - 1 <= hi) : Rg lo hi (x % m) := ⟨by have := Int.emod_nonneg x (show m ≠ 0 by omega); omega, by have := Int.emod_lt_of_pos x hm; omega⟩
theorem Xj {ws : List Str} {i : Int} (h0 : 0 <= i) (h1 : i < ws.length) : ∃ w, atI (ws.map V.str) i = some (.str w) /\ ws[i.toNat]? = some w := by
 have hj : i.toNat < ws.length := by omega
 refine ⟨ws[i.toNat], ?_, List.getElem?_eq_getElem hj⟩
 have e : ((i.toNat : Nat) : Int) = i := by omega
 have h := JG (xs := ws.map V.str) (j := i.toNat) (v := .str ws[i.toNat]) (by rw [List.getElem?_map, List.getElem?_eq_getElem hj]; rfl)
 rwa [e] at h
theorem abt {ws : List Str} (hu : ws.Nodup) {i j : Nat} {u v : Str} (hi : ws[i]? = some u) (hj : ws[j]? = some v) (h : i ≠ j) : u ≠ v := fun e => by
 subst e
 have h1 := (List.getElem?_eq_some_iff.mp hi)
 have h2 := (List.getElem?_eq_some_iff.mp hj)
 exact h ((List.getElem_inj (xs := ws) hu (h₀ := h1.1) (h₁ := h2.1)).mp (h1.2.trans h2.2.symm))
theorem e6 : (10 : Int) ^ Int.toNat 6 = 1000000 := by decide
theorem aaA {a b L : Int} (a0 : 0 <= a) (a1 : a < L) (b0 : 0 <= b) (b1 : b < L - 1) : (a + 1 + b) % L ≠ a := by
 by_cases h : a + 1 + b < L
 ·rw [Int.emod_eq_of_lt (by omega) h]; omega
 ·have e : (a + 1 + b) % L = (a + 1 + b - L) % L := by
   have := Int.add_emod_right (a + 1 + b - L) L
   rw [Int.sub_add_cancel] at this
   exact this
  rw [e, Int.emod_eq_of_lt (by omega) (by omega)]
  omega
end
end My
namespace My
open PySem L2 PyProof.Rows
section
variable {P : Program} {w : World} {K : Fg_} {mg : Str -> Option Value} {base : Heap} {A : Adr} {D : Fds}
local macro_rules | `(tactic| walk_at "nx") => `(tactic| ((try dsimp only); rw [ap_seq]; walk_at "rdi"))
theorem abH {J : It} {cap : List (Option Nat)} {g : TG} {te : TE} {σ : L2.St} {H : Hp} {Q : VK} (n : Nat) (Xs : Nat -> V -> Prop) (Sσ : L2.St -> Prop) (F : Nat -> V -> Hp -> Prop) (h0 : Sσ (Im σ cap)) (hz : n <= sizeLine)
  (hgo : ∀ i H5, i < n -> Same H H5 -> J.go i H5 /\ ∀ y H', J.yld i H5 y H' -> H' = H5 /\ Xs i y) (hst : ∀ H5, Same H H5 -> J.stop n H5)
  (hs : ∀ D i x, i < n -> Xs i x -> ∀ (σ : L2.St) (H5 : Hp) (R : L2.St -> VK), Sσ σ -> Same H H5 -> H D = Option.none -> (∃ acc, H5 D = some (.lst acc)) -> (∀ v σ4 H6, Sσ σ4 -> Same H5 H6 -> (∀ H', But D H6 H' -> F i v H') -> R σ4 v H6) -> g x σ H5 fun σ4 H4 => te σ4 H4 (R σ4))
  (k : ∀ D H' acc, H D = Option.none -> Same H H' -> H' D = some (.lst acc) -> acc.length = n -> (∀ (i : Nat) v, acc[i]? = some v -> F i v H') -> Q (.ref D) H') : CompP cap J g QD te σ H Q := by
 intro D hD
 refine ⟨fun i m acc σ H2 => m = n - i /\ i <= n /\ Sσ σ /\ Same H H2 /\ acc.length = i /\ ∀ (j : Nat) v, acc[j]? = some v -> ∀ H', But D H2 H' -> F j v H', ⟨n, rfl, Nat.zero_le _, h0, Same.new hD, rfl, fun j v e => by simp at e⟩, ?_⟩
 rintro i m acc σ1 H2 ⟨rfl, hi, hσ, sm, hal, hF⟩ hA
 by_cases hlt : i < n
 ·obtain ⟨g1, g2⟩ := hgo i H2 hlt sm
  refine .inr ⟨g1, fun y H3 hy => ?_⟩
  obtain ⟨e3, hx⟩ := g2 y H3 hy
  subst e3
  simp only [ap_noIf, if_true]
  refine hs D i _ hlt hx σ1 H3 _ hσ sm hD ⟨_, hA⟩ fun v σ4 H6 hσ4 s6 hF6 => ?_
  have hA6 := s6 _ _ hA
  refine ⟨acc, hA6, by omega, n - (i + 1), by omega, rfl, hlt, hσ4, (sm.trans s6).upd hD, by rw [List.length_append, hal]; rfl, fun j u hj H' hb => ?_⟩
  have hb6 : But D H6 H' := fun b o hne e => hb b o hne ((Aj hne).trans e)
  by_cases hjl : j < acc.length
  ·rw [List.getElem?_append_left hjl] at hj
   exact hF j u hj H' fun b o hne e => hb6 b o hne (s6 _ _ e)
  ·rw [List.getElem?_append_right (by omega)] at hj
   have hj0 : j - acc.length = 0 := by
    have := (List.getElem?_eq_some_iff.mp hj).1
    simp at this
    omega
   rw [hj0] at hj
   cases hj
   obtain rfl : j = i := by omega
   exact hF6 H' hb6
 ·obtain rfl : i = n := by omega
  exact .inl ⟨hst H2 sm, k D H2 acc hD sm hA hal fun j v e => hF j v e H2 fun b o _ e => e⟩
theorem acp {lo : Int} {cap : List (Option Nat)} {g : TG} {te : TE} {σ : L2.St} {H : Hp} {Q : VK} {n : Nat} (Sσ : L2.St -> Prop) (F : Nat -> V -> Hp -> Prop) (h0 : Sσ (Im σ cap)) (hz : n <= sizeLine)
  (hs : ∀ D i, i < n -> ∀ (σ : L2.St) (H5 : Hp) (R : L2.St -> VK), Sσ σ -> Same H H5 -> H D = Option.none -> (∃ acc, H5 D = some (.lst acc)) -> (∀ v σ4 H6, Sσ σ4 -> Same H5 H6 -> (∀ H', But D H6 H' -> F i v H') -> R σ4 v H6) -> g (.int (lo + i)) σ H5 fun σ4 H4 => te σ4 H4 (R σ4))
  (k : ∀ D H' acc, H D = Option.none -> Same H H' -> H' D = some (.lst acc) -> acc.length = n -> (∀ (i : Nat) v, acc[i]? = some v -> F i v H') -> Q (.ref D) H') : CompP cap (Itr lo n) g QD te σ H Q :=
 abH n (fun i x => x = .int (lo + i)) Sσ F h0 hz (fun i H5 hi _ => ⟨hi, fun y H' hy => ⟨hy.1, hy.2⟩⟩) (fun _ _ => Nat.le_refl n) (fun D i x hi hx => by subst hx; exact hs D i hi) k
theorem Vr {a : Addr} {o : Obj} {kvs : List (Key × V)} {cap : List (Option Nat)} {g : TG} {te : TE} {σ : L2.St} {H : Hp} {Q : VK} (Sσ : L2.St -> Prop) (F : Nat -> V -> Hp -> Prop) (hH : H a = some (.frz o (.dK kvs))) (h0 : Sσ (Im σ cap)) (hz : kvs.length <= sizeLine)
  (hs : ∀ D i kv, kvs[i]? = some kv -> ∀ (σ : L2.St) (H5 : Hp) (R : L2.St -> VK), Sσ σ -> Same H H5 -> H D = Option.none -> (∃ acc, H5 D = some (.lst acc)) -> (∀ v σ4 H6, Sσ σ4 -> Same H5 H6 -> (∀ H', But D H6 H' -> F i v H') -> R σ4 v H6) -> g (kV kv.1) σ H5 fun σ4 H4 => te σ4 H4 (R σ4))
  (k : ∀ D H' acc, H D = Option.none -> Same H H' -> H' D = some (.lst acc) -> acc.length = kvs.length -> (∀ (i : Nat) v, acc[i]? = some v -> F i v H') -> Q (.ref D) H') : CompP cap (Itk a o kvs) g QD te σ H Q :=
 abH kvs.length (fun i x => ∃ kv, kvs[i]? = some kv /\ x = kV kv.1) Sσ F h0 hz (fun i H5 hi s => ⟨⟨s _ _ hH, hi⟩, fun y H' hy => hy⟩) (fun _ s => ⟨s _ _ hH, Nat.le_refl _⟩) (fun D i x hi ⟨kv, e, hx⟩ => by subst hx; exact hs D i kv e) k
theorem ZG {a : Addr} {o : Obj} {kvs : List (Key × V)} {cap : List (Option Nat)} {g : TG} {te : TE} {σ : L2.St} {H : Hp} {Q : VK} (Sσ : L2.St -> Prop) (F : Nat -> V -> Hp -> Prop) (hH : H a = some (.frz o (.dK kvs))) (h0 : Sσ (Im σ cap)) (hz : kvs.length <= sizeLine)
  (hs : ∀ D i kv, kvs[i]? = some kv -> ∀ (σ : L2.St) (H5 : Hp) (R : L2.St -> VK), Sσ σ -> Same H H5 -> H D = Option.none -> (∃ acc, H5 D = some (.lst acc)) -> (∀ v σ4 H6, Sσ σ4 -> Same H5 H6 -> (∀ H', But D H6 H' -> F i v H') -> R σ4 v H6) -> g kv.2 σ H5 fun σ4 H4 => te σ4 H4 (R σ4))
  (k : ∀ D H' acc, H D = Option.none -> Same H H' -> H' D = some (.lst acc) -> acc.length = kvs.length -> (∀ (i : Nat) v, acc[i]? = some v -> F i v H') -> Q (.ref D) H') : CompP cap (Itv a o kvs) g QD te σ H Q :=
 abH kvs.length (fun i x => ∃ kv, kvs[i]? = some kv /\ x = kv.2) Sσ F h0 hz (fun i H5 hi s => ⟨⟨s _ _ hH, hi⟩, fun y H' hy => ⟨hy.1, by
  obtain ⟨_, h⟩ := hy
  rw [List.getElem?_map] at h
  cases e : kvs[i]? with
  | none => rw [e] at h; cases h
  | some kv => rw [e] at h; exact ⟨kv, rfl, (Option.some.inj h).symm⟩⟩⟩) (fun _ s => ⟨s _ _ hH, Nat.le_refl _⟩) (fun D i x hi ⟨kv, e, hx⟩ => by subst hx; exact hs D i kv e) k
end
end My
namespace My
open PySem L2 PyProof.Rows
section
variable {P : Program} {w : World} {K : Fg_} {mg : Str -> Option Value} {base : Heap} {A : Adr} {D : Fds}
def GC (kvs : List (Key × V)) (z : Str) : Int := match Gs kvs (Sum.inr z) with
 | some (.int i) => i
 | _ => 0
theorem Rk : ∀ {kvs : List (Key × V)} {k : Key} {v : V}, Gs kvs k = some v -> (k, v) ∈ kvs
 | [], _, _, h => by cases h
 | p :: kvs, k, v, h => by
  by_cases e : p.1 = k
  ·rw [Cw e] at h
   cases h
   rw [<- e]
   exact List.mem_cons_self
  ·rw [Cq e] at h
   exact List.mem_cons_of_mem _ (Rk h)
theorem Qy : ∀ {kvs : List (Key × V)} {k : Key} {v : V}, (kvs.map (·.1)).Nodup -> (k, v) ∈ kvs -> Gs kvs k = some v
 | p :: kvs, k, v, hu, h => by
  rw [List.map_cons, List.nodup_cons] at hu
  rcases List.mem_cons.mp h with e | h
  ·subst e
   exact Cw rfl
  ·have : p.1 ≠ k := fun e => hu.1 (by rw [e]; exact List.mem_map.mpr ⟨(k, v), h, rfl⟩)
   rw [Cq this]
   exact Qy hu.2 h
theorem Ye {kvs : List (Key × V)} {k : Key} {v : V} (hu : (kvs.map (·.1)).Nodup) : ((putK kvs k v).map (·.1)).Nodup := by
 cases e : Gs kvs k with
 | none => exact abz v hu e
 | some w =>
  unfold putK
  rw [if_pos (by rw [Fq, e]; rfl), List.map_map]
  have : ((fun x : Key × V => x.1) ∘ fun kv : Key × V => if kv.1 = k then (kv.1, v) else kv) = fun x => x.1 := by
   funext kv
   show (if kv.1 = k then (kv.1, v) else kv).1 = kv.1
   split <;> rfl
  rw [this]
  exact hu
theorem abF {kvs : List (Key × V)} {k : Key} {v : V} {p : Key × V} (h : p ∈ putK kvs k v) : p = (k, v) \/ p ∈ kvs := by
 unfold putK at h
 split at h
 ·obtain ⟨q, hq, rfl⟩ := List.mem_map.mp h
  split
  ·rename_i e
   exact .inl (by rw [e])
  ·exact .inr hq
 ·rcases List.mem_append.mp h with h | h
  ·exact .inr h
  ·exact .inl (List.mem_singleton.mp h)
structure Cnt (kvs : List (Key × V)) : Prop where
 k : ∀ kv ∈ kvs, ∃ (z : Str) (i : Int), kv = (Sum.inr z, .int i) /\ 0 <= i
 u : (kvs.map (·.1)).Nodup
theorem Cnt.nil : Cnt [] := ⟨fun kv h => (List.not_mem_nil h).elim, .nil⟩
theorem Cnt.get {kvs : List (Key × V)} (h : Cnt kvs) (z : Str) : (Gs kvs (Sum.inr z)).getD (.int 0) = .int (GC kvs z) /\ 0 <= GC kvs z := by
 unfold GC
 cases e : Gs kvs (Sum.inr z) with
 | none => exact ⟨rfl, Int.le_refl _⟩
 | some v =>
  obtain ⟨y, i, ey, hi⟩ := h.k _ (Rk e)
  cases ey
  exact ⟨rfl, hi⟩
theorem Cnt.put {kvs : List (Key × V)} (h : Cnt kvs) (z : Str) {n : Int} (hn : 0 <= n) : Cnt (putK kvs (Sum.inr z) (.int n)) :=
 ⟨fun kv hkv => (abF hkv).elim (fun e => ⟨z, n, e, hn⟩) (h.k kv), Ye h.u⟩
def Fits (kvs : List (Key × V)) : Ent -> Prop
 | .buy _ _ _ p _ _ => p <= 1000000
 | .gift _ _ _ p _ _ => p <= 1000000
 | .sell _ _ w p _ _ _ => p <= GC kvs w
 | .give _ _ w p _ => p <= GC kvs w
 | _ => True
theorem Nh {α : Type} {f : α -> α} : ∀ {l : List α}, (∀ x ∈ l, f x = x) -> l.map f = l
 | [], _ => rfl
 | x :: l, h => by rw [List.map_cons, h x (.head _), Nh fun y hy => h y (.tail _ hy)]
end
end My
namespace My
open PySem L2 PyProof.Rows
section
variable {P : Program} {w : World} {K : Fg_} {mg : Str -> Option Value} {base : Heap} {A : Adr} {D : Fds}
theorem Bc {t u : TS} {D : _} {σ : L2.St} {H : Hp} (h : ∀ v, v = u -> acD t v D σ H) : acD t u D σ H := h u rfl
theorem Nf {wi : TI} {g : TG} {tb : TS} {D : _} {σ : L2.St} {H : Hp} (h : ∀ v, v = tb -> adD wi g v D σ H) : adD wi g tb D σ H := h tb rfl
theorem Ed {c : _} {t u : TS} {D : _} {σ : L2.St} {H : Hp} (h : ∀ v w, v = t -> w = u -> adA c v w D σ H) : adA c t u D σ H := h t u rfl rfl
end
end My
namespace My
open PySem L2 PyProof.Rows
section
variable {P : Program} {w : World} {K : Fg_} {mg : Str -> Option Value} {base : Heap} {A : Adr} {D : Fds}
local macro_rules | `(tactic| walk_at "nx") => `(tactic| ((try dsimp only); rw [ap_seq]; walk_at "rdi"))
theorem Ld (T : Txt K mg A D) : FnOk P w K mg base CX0 1 A.t4 D.t4 ["self", "number"] (Uy A.uy "number") := by
 refine T.xb.ok Lg (fun vs H Q E h => ?_) (fun cdv A' outer s0 H vs Q E hr h => ?_)
 ·obtain ⟨e, n, rfl, _⟩ := h; rfl
 ·obtain ⟨e, n, rfl, hn, hH, k⟩ := h
  refine ⟨_, (Ac (Bh (VN (K := K) T.yH (by rfl) T.ye (Aa (pv 0) (Aa (Xr (pv 1)) Ad))))
   (Af (Vy (K := K) (pv 0) (pv 1) rfl))), ?_⟩
  simp only [start_eq]
  walk_at "nx"
  exact ⟨hn, fun z _ => ⟨_, hH, _, T.yB, _, hH, _, T.yB, T.yD, fun d hd hde => k d hd hde⟩⟩
theorem Ju (T : Txt K mg A D) : FnOk P w K mg base CX0 1 A.t7 D.t7 ["self", "number"] (Uy A.uz "number") := by
 refine T.xg.ok Jt (fun vs H Q E h => ?_) (fun cdv A' outer s0 H vs Q E hr h => ?_)
 ·obtain ⟨e, n, rfl, _⟩ := h; rfl
 ·obtain ⟨e, n, rfl, hn, hH, k⟩ := h
  refine ⟨_, (Ac (Bh (VN (K := K) T.yH (by rfl) T.ye (Aa (pv 0) (Aa (Xg (pv 1)) Ad))))
   (Af (Vy (K := K) (pv 0) (pv 1) rfl))), ?_⟩
  simp only [start_eq]
  walk_at "nx"
  exact ⟨hn, fun z _ => ⟨_, hH, _, T.yE, _, hH, _, T.yE, T.yG, fun d hd hde => k d hd hde⟩⟩
end
end My
namespace My
open PySem L2 PyProof.Rows
section
variable {P : Program} {w : World} {K : Fg_} {mg : Str -> Option Value} {base : Heap} {A : Adr} {D : Fds}
local macro_rules | `(tactic| walk_at "nx") => `(tactic| ((try dsimp only); rw [ap_seq]; walk_at "rdi"))
abbrev EL := List (Addr × Ent)
def Bj (es : EL) : List V := es.map fun r => V.ref r.1
def EntAt (A : Adr) (H : Hp) (es : EL) : Prop := ∀ r ∈ es, IsE A H r.1 r.2
theorem EntAt.same {H H' : Hp} {es : EL} (h : EntAt A H es) (s : Same H H') : EntAt A H' es := fun r hr => (h r hr).same s
theorem Bk (es : EL) : (Bj es).length = es.length := by unfold Bj; rw [List.length_map]
theorem Hl {rs : EL} {i : Nat} {y : V} (h : (Bj rs)[i]? = some y) : ∃ r, rs[i]? = some r /\ y = .ref r.1 := by
 unfold Bj at h
 rw [List.getElem?_map] at h
 cases e : rs[i]? with
 | none => rw [e] at h; cases h
 | some r => rw [e] at h; exact ⟨r, rfl, (Option.some.inj h).symm⟩
theorem aao {f : Addr × Ent -> Int} {rs : EL} : ∀ {acc : List V}, acc.length = rs.length -> (∀ (i : Nat) v, acc[i]? = some v -> ∃ l, rs[i]? = some l /\ v = .int (f l)) -> acc = (rs.map f).map V.int := by
 intro acc hlen h
 refine List.ext_getElem? fun i => ?_
 rw [List.getElem?_map, List.getElem?_map]
 by_cases hi : i < acc.length
 ·obtain ⟨l, h1, h2⟩ := h i _ (List.getElem?_eq_getElem hi)
  rw [List.getElem?_eq_getElem hi, h2, h1]
  rfl
 ·rw [List.getElem?_eq_none (by omega), List.getElem?_eq_none (by omega)]
  rfl
theorem ZM (T : Txt K mg A D) {H : Hp} {q : Addr} {es : EL} {Q : VK} {σ : L2.St} (hq : H q = some (.lst (Bj es))) (hE : EntAt A H es) (hl : es.length <= 100)
  (k : ∀ D H', H D = Option.none -> Same H H' -> H' D = some (.lst ((es.map fun l => l.2.num).map V.int)) -> Q (.ref D) H') : CompP [Option.none] (Itl K q) (XH 0) QD (adE K (acj 0) "number") σ H Q := by
 refine CompP.listE (K := K) (fun σ => ∃ a, σ = [a]) (fun i v _ => ∃ l, es[i]? = some l /\ v = .int l.2.num) (SqL.of hq) ⟨_, rfl⟩ (by rw [Bk, sizeLine_eq]; omega) ?_ ?_
 ·rintro Da i x hx σ H5 R ⟨_, rfl⟩ sm hD _ kk
  obtain ⟨l, hl', rfl⟩ := Hl hx
  obtain ⟨dx, nv, hx', hn⟩ := (hE l (List.mem_of_getElem? hl')).same sm
  have hC := Nt T l.2
  walk_at "rdi"
  exact ⟨_, dx, _, hx', hC.c, hC.n, _, Bs l.2 nv, kk _ _ H5 ⟨_, rfl⟩ (Same.refl _) fun H' _ => ⟨l, hl', rfl⟩⟩
 ·intro Da H' acc hD sm hA hlen hF
  rw [aao (f := fun l => l.2.num) (by rw [hlen, Bk]) hF] at hA
  exact k Da H' hD sm hA
theorem aeG {g : TG} {tb : TS} {D : Ends} {σ : L2.St} {H : Hp} {a b : Addr} {xs ys : List V} (Pv : Nat -> L2.St -> Hp -> Prop) (n : Nat) (hn1 : n <= xs.length) (hn2 : n <= ys.length) (hend : xs.length <= n \/ ys.length <= n) (h0 : Pv 0 σ H) (hl : ∀ i σ H, i <= n -> Pv i σ H -> SqL K H a xs /\ SqL K H b ys)
  (hs : ∀ i x y σ H p, xs[i]? = some x -> ys[i]? = some y -> Pv i σ H -> H p = Option.none -> g (.ref p) σ (upd H p (.tup [x, y])) fun σ2 H2 => tb { D with nx := Pv (i + 1), ct := Pv (i + 1), bk := D.nx } σ2 H2) (hd : ∀ σ H, Pv n σ H -> D.nx σ H) : ForP (Itz K a b) g tb D σ H := by
 refine ⟨fun i m σ H => m = n - i /\ i <= n /\ Pv i σ H, ⟨n, by simp, Nat.zero_le _, h0⟩, ?_⟩
 rintro i m σ H ⟨rfl, hi, p⟩
 obtain ⟨q1, q2⟩ := hl i σ H hi p
 by_cases hlt : i < n
 ·have h1 : i < xs.length := by omega
  have h2 : i < ys.length := by omega
  refine .inr ⟨⟨xs, ys, xs[i], ys[i], q1, q2, by simp, by simp⟩, Pv (i + 1), fun σ' H' p' => ⟨n - (i + 1), by omega, rfl, hlt, p'⟩, fun v H' y => ?_⟩
  obtain ⟨pp, x, y, hp, rfl, rfl, e1, e2⟩ := y
  exact hs i x y σ _ pp (e1 xs q1) (e2 ys q2) p hp
 ·have e : i = n := by omega
  subst e
  exact .inl ⟨⟨xs, ys, q1, q2, hend⟩, hd σ H p⟩
def Pk (K : Fg_) : Sp := fun vs H Q _ => ∃ (a : Addr) (ns : List Int), vs = [.ref a] /\ SqL K H a (ns.map V.int) /\ ns.length < 64 /\ ns.Nodup /\ ∀ H', Same H H' -> Q .non H'
theorem Nz (T : Txt K mg A D) : FnOk P w K mg base CX0 1 A.sV D.sV ["numbers"] (Pk K) := by
 refine T.vM.ok sc_refuse_twice (fun vs H Q E h => ?_) (fun cdv A' outer s0 H vs Q E hr h => ?_)
 ·obtain ⟨a, ns, rfl, _⟩ := h; rfl
 ·obtain ⟨a, ns, rfl, hS, hl, hu, k⟩ := h
  refine ⟨_, (Ac (Bd (i := 1) sc_refuse_twice.nd rfl (Or.inl rfl) (Bf (Ui (K := K)) (by rfl) T.xO (by decide +kernel) (Aa (pv 0) Ad)))
   (Af (Mp PassesOwn.never rfl (adi (K := K) (by rfl) T.xQ (Aa (pv 1) (Aa (QJ (Ri (K := K)) (pv 1) (Rc Ab) YZ) Ad))) (Rb (K := K) (n := 2) rfl (DY (Bm (i := 2) sc_refuse_twice.nd rfl (Or.inl rfl)) (DY (Bm (i := 3) sc_refuse_twice.nd rfl (Or.inl rfl)) Rx)))
    (Af (Bq (Al (Ck) (pv 2) (pv 3) (Ay _)) (Af (Ie)) Av))))), ?_⟩
  simp only [start_eq]
  walk_at "nx"
  refine ⟨ns, hS, hl, fun p ms hp hpm hord => ?_⟩
  have hms : ms.Nodup := hpm.nodup_iff.mpr hu
  have S1 := Same.new (o := .lst (ms.map V.int)) hp
  have h1 : (upd H p (.lst (ms.map V.int))) p = some (.lst (ms.map V.int)) := Ae
  generalize upd H p (.lst (ms.map V.int)) = H1 at S1 h1
  try dsimp only
  rw [ap_for]
  walk_at "rdi"
  refine ⟨_, SqL.of h1, fun pc hpc => ?_⟩
  rw [show Xf (ms.map V.int) (some 1) Option.none = (ms.drop 1).map V.int by rw [List.map_drop]; exact aaq (ms.map V.int) 1]
  have S2 := S1.trans (Same.new (o := .lst ((ms.drop 1).map V.int)) hpc)
  have h2 : (upd H1 pc (.lst ((ms.drop 1).map V.int))) pc = some (.lst ((ms.drop 1).map V.int)) := Ae
  have h2p := Same.new (o := .lst ((ms.drop 1).map V.int)) hpc _ _ h1
  generalize upd H1 pc (.lst ((ms.drop 1).map V.int)) = H2 at S2 h2 h2p
  refine ⟨⟨_, SqL.of h2p⟩, ⟨_, SqL.of h2⟩, ?_⟩
  refine aeG (K := K) (a := p) (b := pc) (xs := ms.map V.int) (ys := (ms.drop 1).map V.int) (fun i σ Hx => (∃ v2 v3, σ = [some (.ref a), some (.ref p), v2, v3]) /\ Same H2 Hx) (ms.length - 1) (by rw [List.length_map]; omega) (by rw [List.length_map, List.length_drop]; omega) (.inr (by rw [List.length_map, List.length_drop]; omega))
   ⟨⟨_, _, rfl⟩, Same.refl _⟩ (fun i σ Hx _ ⟨_, s⟩ => ⟨s.seq (SqL.of h2p), s.seq (SqL.of h2)⟩) ?_ ?_
  ·rintro i x y σ H3 pt hx hy ⟨⟨v2, v3, rfl⟩, s3⟩ hpt
   rw [List.getElem?_map] at hx hy
   obtain ⟨m1, hm1, rfl⟩ := Option.map_eq_some_iff.mp hx
   obtain ⟨m2, hm2, rfl⟩ := Option.map_eq_some_iff.mp hy
   rw [List.getElem?_drop] at hm2
   have hne : m1 ≠ m2 := by
    obtain ⟨q1, e1⟩ := List.getElem?_eq_some_iff.mp hm1
    obtain ⟨q2, e2⟩ := List.getElem?_eq_some_iff.mp hm2
    have := List.pairwise_iff_getElem.mp hms i (1 + i) q1 q2 (by omega)
    rw [e1, e2] at this
    exact this
   have S3 := s3.trans (Same.new (o := .tup [V.int m1, V.int m2]) hpt)
   have h3 : (upd H3 pt (.tup [V.int m1, V.int m2])) pt = some (.tup [V.int m1, V.int m2]) := Ae
   generalize upd H3 pt (.tup [V.int m1, V.int m2]) = H4 at S3 h3
   walk_at "rdi"
   refine ⟨_, SqT.of h3, rfl, _, _, rfl, _, _, rfl, rfl, ?_⟩
   refine ⟨rfl, ?_⟩
   rw [if_neg (fun e => hne (by cases e; rfl))]
   exact S3
  ·rintro σ H3 ⟨⟨v2, v3, rfl⟩, s3⟩
   exact k _ (S2.trans s3)
end
end My
namespace My
open PySem L2 PyProof.Rows
section
variable {P : Program} {w : World} {K : Fg_} {mg : Str -> Option Value} {base : Heap} {A : Adr} {D : Fds}
local macro_rules | `(tactic| walk_at "nx") => `(tactic| ((try dsimp only); rw [ap_seq]; walk_at "rdi"))
def Ud (A : Adr) : Sp := fun vs H Q _ => ∃ (x : Addr) (e : Ent), vs = [.ref x] /\ IsE A H x e /\ ∀ t, H t = Option.none -> Q (.ref t) (upd H t (.tup [.int e.day, .int e.num]))
theorem Vd (T : Txt K mg A D) : FnOk P w K mg base CX0 1 A.sW D.sW ["entry"] (Ud A) := by
 refine T.vO.ok Ul (fun vs H Q E h => ?_) (fun cdv A' outer s0 H vs Q E hr h => ?_)
 ·obtain ⟨x, e, rfl, _⟩ := h; rfl
 ·obtain ⟨x, e, rfl, ⟨dx, nv, hx, hn⟩, k⟩ := h
  refine ⟨_, (Af (Am (Bw (Aa (Ar (K := K) (pv 0) rfl) (Aa (Ar (K := K) (pv 0) rfl) Ad))))), ?_⟩
  have hC := Nt T e
  walk_at "rda"
  exact ⟨_, dx, _, hx, hC.c, hC.d, _, Vv e nv, _, dx, _, hx, hC.c, hC.n, _, Bs e nv, by rw [sizeLine_eq]; decide, fun t ht => k t ht⟩
def aep : V -> Int
 | .int i => i
 | _ => 0
def kfE (H : Hp) : V -> List Int
 | .ref b => match H b with
  | some (.ins _ _ fs) => [aep ((fs.lookup (Str.ofString "day")).getD .non), aep ((fs.lookup (Str.ofString "number")).getD .non)]
  | _ => []
 | _ => []
theorem Oc {H : Hp} {b : Addr} {e : Ent} (h : IsE A H b e) : kfE H (.ref b) = [e.day, e.num] := by
 obtain ⟨dx, nv, hx, _⟩ := h
 unfold kfE
 dsimp only
 rw [hx]
 dsimp only
 rw [Vv, Bs]
 rfl
def BfE (d e : Ent) : Prop := d.day < e.day \/ (d.day = e.day /\ d.num < e.num)
theorem BfE.asym {d e : Ent} (h : BfE d e) (h' : BfE e d) : False := by
 unfold BfE at h h'
 omega
theorem Zk {d e : Ent} (h : Js [d.day, d.num] [e.day, e.num] false = true) (hn : d.num ≠ e.num) : BfE d e := by
 rw [Js] at h
 by_cases e1 : d.day = e.day
 ·rw [if_pos e1, Js, if_neg hn] at h
  exact .inr ⟨e1, of_decide_eq_true h⟩
 ·rw [if_neg e1] at h
  exact .inl (of_decide_eq_true h)
theorem YJ {l k : List Ent} (h : l.Perm k) (h1 : l.Pairwise BfE) (h2 : k.Pairwise BfE) : l = k := List.Perm.eq_of_pairwise (fun a b _ _ x y => (x.asym y).elim) h1 h2 h
theorem Lw {α : Type} {f : α -> V} : ∀ {zs ys : List V}, zs.Perm ys -> ∀ {rs : List α}, ys = rs.map f -> ∃ rs' : List α, zs = rs'.map f /\ rs'.Perm rs := by
 intro zs ys h
 induction h with
 | nil => intro rs e; exact ⟨[], rfl, by cases rs with | nil => exact .nil | cons _ _ => cases e⟩
 | cons x _ ih =>
  intro rs e
  cases rs with
  | nil => cases e
  | cons r rs =>
   rw [List.map_cons] at e
   obtain ⟨e1, e2⟩ := List.cons.inj e
   obtain ⟨rs', a1, a2⟩ := ih e2
   exact ⟨r :: rs', by rw [List.map_cons, <- a1, e1], a2.cons r⟩
 | swap x y l =>
  intro rs e
  cases rs with
  | nil => cases e
  | cons r rs => cases rs with
   | nil => cases e
   | cons r2 rs =>
    rw [List.map_cons, List.map_cons] at e
    obtain ⟨e1, e2⟩ := List.cons.inj e
    obtain ⟨e3, e4⟩ := List.cons.inj e2
    exact ⟨r2 :: r :: rs, by rw [List.map_cons, List.map_cons, e1, e3, e4], .swap _ _ _⟩
 | trans _ _ ih1 ih2 =>
  intro rs e
  obtain ⟨r2, a1, a2⟩ := ih2 e
  obtain ⟨r3, b1, b2⟩ := ih1 a1
  exact ⟨r3, b1, b2.trans a2⟩
def Ur (A : Adr) : Sp := fun vs H Q _ => ∃ (q : Addr) (es : EL), vs = [.ref q] /\ H q = some (.lst (Bj es)) /\ EntAt A H es /\ es.length < 64 /\ (es.map (·.2.num)).Nodup /\
 ∀ p es' H', Same H H' -> H p = Option.none -> H' p = some (.lst (Bj es')) -> es'.Perm es -> (es'.map (·.2)).Pairwise BfE -> Q (.ref p) H'
theorem TY (T : Txt K mg A D) : FnOk P w K mg base CX0 4 A.sX D.sX ["entries"] (Ur A) := by
 refine T.vR.ok UT (fun vs H Q E h => ?_) (fun cdv A' outer s0 H vs Q E hr h => ?_)
 ·obtain ⟨q, es, rfl, _⟩ := h; rfl
 ·obtain ⟨q, es, rfl, hq, hE, hl, hu, k⟩ := h
  refine ⟨_, (Ac (Bh (Ai (Nz (K := K) T) (hr.mono (by decide)) (by rfl) T.vK T.vL (PQ T) .nil Ak (Aa (Eh (cap := [Option.none]) (N' := ["entry"]) rfl (by walk_at "compok") (CN (K := K) (pv 0)) (fun _ _ _ _ => (Bm (i := 0) (show (["entry"] : List Str).Nodup from by decide +kernel) rfl (Or.inl rfl) (Or.inr rfl))) (fun _ _ _ _ => Ec) (fun _ _ _ _ => (Ar (K := K) (pv 0) rfl))) Ad)))
   (Af (Am (Ub (K := K) (by rfl) (WT (Vd (K := K) T) (hr.mono (by decide)) (Wr T) (by rfl) T.xO (by decide +kernel) (by rfl) T.vN (Aa (pv 0) Ad)))))), ?_⟩
  simp only [start_eq]
  walk_at "nx"
  refine ⟨⟨_, SqL.of hq⟩, ZM T hq hE (by omega) fun D1 H1 hD1 s1 h1 => ?_⟩
  refine ⟨D1, _, rfl, SqL.of h1, by rw [List.length_map]; exact hl, hu, fun H2 s2 => ?_⟩
  have S2 := s1.trans s2
  have hE2 := hE.same S2
  walk_at "rdi"
  refine ⟨_, SqL.of (S2 _ _ hq), by rw [Bk]; exact hl, kfE H2, fun y hy => ?_, fun p zs H3 s3 hn hz hperm hord => ?_⟩
  ·obtain ⟨o, ho, rfl⟩ := List.mem_map.mp hy
   rw [Oc (hE2 o ho)]
   refine ⟨by simp, fun H5 s5 R hR => ⟨o.1, o.2, rfl, (hE2 o ho).same s5, fun t ht => hR t _ (Same.new ht) ?_⟩⟩
   rw [Oc (hE2 o ho)]
   exact Ae
  ·obtain ⟨os, rfl, hpm⟩ := Lw (f := fun r : Addr × Ent => V.ref r.1) hperm rfl
   have hou : es.Pairwise fun a b => a.2.num ≠ b.2.num := List.pairwise_map.mp hu
   have hou' : os.Pairwise fun a b => a.2.num ≠ b.2.num := by
    have : (os.map fun r => r.2.num).Nodup := (hpm.map fun r => r.2.num).nodup_iff.mpr hu
    exact List.pairwise_map.mp this
   have hor := hord 2 (fun y hy => by
    obtain ⟨r, hr, rfl⟩ := List.mem_map.mp hy
    rw [Oc (hE2 r hr)]
    rfl) (by
    refine List.pairwise_map.mpr (List.pairwise_map.mpr (List.Pairwise.imp_of_mem (fun {a b} ha hb hne z => hne ?_) hou))
    rw [Oc (hE2 a ha), Oc (hE2 b hb)] at z
    exact (List.cons.inj (List.cons.inj z).2).1)
   refine k p os H3 (S2.trans s3) (S2.free hn) hz hpm ?_
   refine List.pairwise_map.mpr (List.Pairwise.imp_of_mem (fun {a b} ha hb h => ?_) ((List.pairwise_map.mp hor).and hou'))
   have h1 := h.1
   rw [Oc (hE2 a (hpm.mem_iff.mp ha)), Oc (hE2 b (hpm.mem_iff.mp hb))] at h1
   exact Zk h1 h.2
end
end My
namespace My
open PySem L2 PyProof.Rows
section
variable {P : Program} {w : World} {K : Fg_} {mg : Str -> Option Value} {base : Heap} {A : Adr} {D : Fds}
theorem Ga (e : Ent) : decide (V.str e.word = V.str (Str.ofString "buy")) = Ds e /\ decide (V.str e.word = V.str (Str.ofString "sell")) = Bp e /\ decide (V.str e.word = V.str (Str.ofString "gift")) = Ce e /\ decide (V.str e.word = V.str (Str.ofString "give")) = Br e /\
  decide (V.str e.word = V.str (Str.ofString "split")) = Bv e /\ decide (V.str e.word = V.str (Str.ofString "part")) = Cm e := by
 have key : ∀ a b : Str, decide (V.str a = V.str b) = decide (a = b) := fun a b => by
  by_cases h : a = b
  ·rw [h]; simp
  ·rw [decide_eq_false h, decide_eq_false (fun z => h (V.str.inj z))]
 simp only [key]
 cases e with
 | buy => show decide (Str.ofString "buy" = _) = true /\ decide (Str.ofString "buy" = _) = false /\ decide (Str.ofString "buy" = _) = false /\ decide (Str.ofString "buy" = _) = false /\ decide (Str.ofString "buy" = _) = false /\ decide (Str.ofString "buy" = _) = false; decide +kernel
 | sell => show decide (Str.ofString "sell" = _) = false /\ decide (Str.ofString "sell" = _) = true /\ decide (Str.ofString "sell" = _) = false /\ decide (Str.ofString "sell" = _) = false /\ decide (Str.ofString "sell" = _) = false /\ decide (Str.ofString "sell" = _) = false; decide +kernel
 | gift => show decide (Str.ofString "gift" = _) = false /\ decide (Str.ofString "gift" = _) = false /\ decide (Str.ofString "gift" = _) = true /\ decide (Str.ofString "gift" = _) = false /\ decide (Str.ofString "gift" = _) = false /\ decide (Str.ofString "gift" = _) = false; decide +kernel
 | give => show decide (Str.ofString "give" = _) = false /\ decide (Str.ofString "give" = _) = false /\ decide (Str.ofString "give" = _) = false /\ decide (Str.ofString "give" = _) = true /\ decide (Str.ofString "give" = _) = false /\ decide (Str.ofString "give" = _) = false; decide +kernel
 | split => show decide (Str.ofString "split" = _) = false /\ decide (Str.ofString "split" = _) = false /\ decide (Str.ofString "split" = _) = false /\ decide (Str.ofString "split" = _) = false /\ decide (Str.ofString "split" = _) = true /\ decide (Str.ofString "split" = _) = false; decide +kernel
 | part => show decide (Str.ofString "part" = _) = false /\ decide (Str.ofString "part" = _) = false /\ decide (Str.ofString "part" = _) = false /\ decide (Str.ofString "part" = _) = false /\ decide (Str.ofString "part" = _) = false /\ decide (Str.ofString "part" = _) = true; decide +kernel
theorem Gw {e : Ent} {z : Str} {b : Bool} (h : decide (V.str e.word = V.str z) = b) (hw : V.str e.word = V.str z) : b = true := by rw [<- h]; exact decide_eq_true hw
theorem Bg {t : TA} {σ : L2.St} {H : Hp} {Q : List V -> Hp -> Prop} {q : Addr} {xs : List V} {i : Int} {v : V} {j : Nat} (hσ : σ[j]? = some (some (.ref q))) (hq : H q = some (.tup xs)) (hv : atI xs i = some v) (k : t σ H fun vs H' => Q (v :: vs) H') : Dt (tOp (adB K) (acj j) (tC (.int i))) t σ H Q := by
 simp only [L2.ap_cons, L2.ap_op, L2.ap_var, L2.ap_c, L2.ap_ixT]
 exact ⟨_, hσ, q, xs, i, v, rfl, rfl, SqT.of hq, hv, k⟩
end
end My
namespace My
open PySem L2 PyProof.Rows
section
variable {P : Program} {w : World} {K : Fg_} {mg : Str -> Option Value} {base : Heap} {A : Adr} {D : Fds}
local macro_rules | `(tactic| walk_at "nx") => `(tactic| ((try dsimp only); refine Bc fun u hu => ?_; rw [ap_seq]; walk_at "rdi"; subst hu))
def JM (A : Adr) : Sp := fun vs H Q _ => ∃ (q : Addr) (e : Ent) (nv : V), vs = [.ref q] /\ H q = some (.tup (.str e.word :: e.args nv)) /\ NT H nv e.lots /\ e.good /\ ∀ x B H', Same H B -> Made A B H' x e -> Q (.ref x) H'
theorem JD (T : Txt K mg A D) : FnOk P w K mg base CX0 6 A.tJ D.tJ ["told"] (JM A) := by
 refine T.wA.ok sc_entry_that_tells (fun vs H Q E h => ?_) (fun cdv A' outer s0 H vs Q E hr h => ?_)
 ·obtain ⟨q, e, nv, rfl, _⟩ := h; rfl
 ·obtain ⟨q, e, nv, rfl, hq, hn, hg, k⟩ := h
  refine ⟨_, (Ac (Bd (i := 1) sc_entry_that_tells.nd rfl (Or.inl rfl) (Ao (Ah (K := K)) (pv 0) Ab (fun _ _ => rfl)))
   (Ac (Bq (Al (Ck) (pv 1) Aw (Ay _)) (Af (Am (DN T.zE (Ip (K := K) T) (hr.mono (by decide)) (by rfl) T.x8 (Df T).choose_spec.1 (Df T).choose_spec.2 Ak (Aa (Ao (Ah (K := K)) (pv 0) Ab (fun _ _ => rfl)) (Aa (Ao (Ah (K := K)) (pv 0) Ab (fun _ _ => rfl)) (Aa (Ao (Ah (K := K)) (pv 0) Ab (fun _ _ => rfl)) (Aa (Ao (Ah (K := K)) (pv 0) Ab (fun _ _ => rfl)) (Aa (Ao (Ah (K := K)) (pv 0) Ab (fun _ _ => rfl)) (Aa (Ao (Ah (K := K)) (pv 0) Ab (fun _ _ => rfl)) Ad))))))))) Av)
   (Ac (Bq (Al (Ck) (pv 1) Aw (Ay _)) (Af (Am (DN T.zF (Fe (K := K) T) (hr.mono (by decide)) (by rfl) T.x9 (BJ T).choose_spec.1 (BJ T).choose_spec.2 Ak (Aa (Ao (Ah (K := K)) (pv 0) Ab (fun _ _ => rfl)) (Aa (Ao (Ah (K := K)) (pv 0) Ab (fun _ _ => rfl)) (Aa (Ao (Ah (K := K)) (pv 0) Ab (fun _ _ => rfl)) (Aa (Ao (Ah (K := K)) (pv 0) Ab (fun _ _ => rfl)) (Aa (Ao (Ah (K := K)) (pv 0) Ab (fun _ _ => rfl)) (Aa (Ao (Ah (K := K)) (pv 0) Ab (fun _ _ => rfl)) (Aa (Ai (Fw (K := K) T) (hr.mono (by decide)) (by rfl) T.wq T.wr (Gm T) .nil Ak (Aa (Ao (Ah (K := K)) (pv 0) Ab (fun _ _ => rfl)) Ad)) Ad)))))))))) Av)
   (Ac (Bq (Al (Ck) (pv 1) Aw (Ay _)) (Af (Am (DN T.zG (Ig (K := K) T) (hr.mono (by decide)) (by rfl) T.yb (Ir T) .nil Ak (Aa (Ao (Ah (K := K)) (pv 0) Ab (fun _ _ => rfl)) (Aa (Ao (Ah (K := K)) (pv 0) Ab (fun _ _ => rfl)) (Aa (Ao (Ah (K := K)) (pv 0) Ab (fun _ _ => rfl)) (Aa (Ao (Ah (K := K)) (pv 0) Ab (fun _ _ => rfl)) (Aa (Ao (Ah (K := K)) (pv 0) Ab (fun _ _ => rfl)) (Aa (Ao (Ah (K := K)) (pv 0) Ab (fun _ _ => rfl)) Ad))))))))) Av)
   (Ac (Bq (Al (Ck) (pv 1) Aw (Ay _)) (Af (Am (DN T.zH (Fd (K := K) T) (hr.mono (by decide)) (by rfl) T.yc (BL T).choose_spec.1 (BL T).choose_spec.2 Ak (Aa (Ao (Ah (K := K)) (pv 0) Ab (fun _ _ => rfl)) (Aa (Ao (Ah (K := K)) (pv 0) Ab (fun _ _ => rfl)) (Aa (Ao (Ah (K := K)) (pv 0) Ab (fun _ _ => rfl)) (Aa (Ao (Ah (K := K)) (pv 0) Ab (fun _ _ => rfl)) (Aa (Ai (Fw (K := K) T) (hr.mono (by decide)) (by rfl) T.wq T.wr (Gm T) .nil Ak (Aa (Ao (Ah (K := K)) (pv 0) Ab (fun _ _ => rfl)) Ad)) Ad)))))))) Av)
   (Ac (Bq (Al (Ck) (pv 1) Aw (Ay _)) (Af (Am (DN T.zI (GR (K := K) T) (hr.mono (by decide)) (by rfl) T.yd (Ii T) .nil Ak (Aa (Ao (Ah (K := K)) (pv 0) Ab (fun _ _ => rfl)) (Aa (Ao (Ah (K := K)) (pv 0) Ab (fun _ _ => rfl)) (Aa (Ao (Ah (K := K)) (pv 0) Ab (fun _ _ => rfl)) (Aa (Ao (Ah (K := K)) (pv 0) Ab (fun _ _ => rfl)) (Aa (Ao (Ah (K := K)) (pv 0) Ab (fun _ _ => rfl)) Ad)))))))) Av)
   (Af (Am (DN T.zD (FW (K := K) T) (hr.mono (by decide)) (by rfl) T.x6 (Ge T) .nil Ak (Aa (Ao (Ah (K := K)) (pv 0) Ab (fun _ _ => rfl)) (Aa (Ao (Ah (K := K)) (pv 0) Ab (fun _ _ => rfl)) (Aa (Ao (Ah (K := K)) (pv 0) Ab (fun _ _ => rfl)) (Aa (Ao (Ah (K := K)) (pv 0) Ab (fun _ _ => rfl)) (Aa (Ao (Ah (K := K)) (pv 0) Ab (fun _ _ => rfl)) (Aa (Ao (Ah (K := K)) (pv 0) Ab (fun _ _ => rfl)) Ad))))))))))))))), ?_⟩
  simp only [start_eq]
  have a0 : atI (V.str e.word :: e.args nv) 0 = some (.str e.word) := by cases e <;> rfl
  walk_at "nx"
  refine ⟨_, SqT.of hq, _, a0, ?_⟩
  (try dsimp only)
  refine Bc fun u hu => ?_
  rw [ap_seq]
  refine Ed fun v w' hv hw' => ?_
  walk_at "rdi"
  by_cases hw0 : e.word = Str.ofString "buy"
  ·rw [if_pos hw0]
   subst hv
   have hk := Gw (Ga e).1 (congrArg V.str hw0)
   cases e with
   | buy d n w p r f =>
    have hq : H q = some (.tup [.str "buy", .int d, .int n, .str w, .int p, .int r, .int f]) := hq
    rw [ap_ret, ap_make]
    refine Bg rfl hq rfl (Bg rfl hq rfl (Bg rfl hq rfl (Bg rfl hq rfl (Bg rfl hq rfl (Bg rfl hq rfl (?_))))))
    rw [ap_nil]
    intro x dx hx hdx hne
    exact ⟨x, .buy d n w p r f, H, dx, .non, rfl, rfl, Gf hx hdx, hg, rfl, fun H' hM => ⟨rfl, k x _ H' (Same.refl H) hM⟩⟩
   | sell => cases hk
   | gift => cases hk
   | give => cases hk
   | split => cases hk
   | part => cases hk
  rw [if_neg hw0]
  subst hw'
  rw [ap_next]
  dsimp only
  subst hu
  (try dsimp only)
  refine Bc fun u hu => ?_
  rw [ap_seq]
  refine Ed fun v w' hv hw' => ?_
  walk_at "rdi"
  by_cases hw1 : e.word = Str.ofString "sell"
  ·rw [if_pos hw1]
   subst hv
   have hk := Gw (Ga e).2.1 (congrArg V.str hw1)
   cases e with
   | sell d n w p r f o =>
    have hq : H q = some (.tup [.str "sell", .int d, .int n, .str w, .int p, .int r, .int f, nv]) := hq
    rw [ap_ret, ap_make]
    refine Bg rfl hq rfl (Bg rfl hq rfl (Bg rfl hq rfl (Bg rfl hq rfl (Bg rfl hq rfl (Bg rfl hq rfl (?_))))))
    walk_at "rdi"
    refine ⟨_, SqT.of hq, _, rfl, nv, o, rfl, .inr hn, fun v1 H1 s1 hn1 _ => ?_⟩
    intro x dx hx hdx hne
    exact ⟨x, .sell d n w p r f o, H1, dx, v1, rfl, rfl, Gf hx hdx, hg, hn1, fun H' hM => ⟨rfl, k x _ H' s1 hM⟩⟩
   | buy => cases hk
   | gift => cases hk
   | give => cases hk
   | split => cases hk
   | part => cases hk
  rw [if_neg hw1]
  subst hw'
  rw [ap_next]
  dsimp only
  subst hu
  (try dsimp only)
  refine Bc fun u hu => ?_
  rw [ap_seq]
  refine Ed fun v w' hv hw' => ?_
  walk_at "rdi"
  by_cases hw2 : e.word = Str.ofString "gift"
  ·rw [if_pos hw2]
   subst hv
   have hk := Gw (Ga e).2.2.1 (congrArg V.str hw2)
   cases e with
   | gift d n w p c s =>
    have hq : H q = some (.tup [.str "gift", .int d, .int n, .str w, .int p, .int c, .int s]) := hq
    rw [ap_ret, ap_make]
    refine Bg rfl hq rfl (Bg rfl hq rfl (Bg rfl hq rfl (Bg rfl hq rfl (Bg rfl hq rfl (Bg rfl hq rfl (?_))))))
    rw [ap_nil]
    intro x dx hx hdx hne
    exact ⟨x, .gift d n w p c s, H, dx, .non, rfl, rfl, Gf hx hdx, hg, rfl, fun H' hM => ⟨rfl, k x _ H' (Same.refl H) hM⟩⟩
   | buy => cases hk
   | sell => cases hk
   | give => cases hk
   | split => cases hk
   | part => cases hk
  rw [if_neg hw2]
  subst hw'
  rw [ap_next]
  dsimp only
  subst hu
  (try dsimp only)
  refine Bc fun u hu => ?_
  rw [ap_seq]
  refine Ed fun v w' hv hw' => ?_
  walk_at "rdi"
  by_cases hw3 : e.word = Str.ofString "give"
  ·rw [if_pos hw3]
   subst hv
   have hk := Gw (Ga e).2.2.2.1 (congrArg V.str hw3)
   cases e with
   | give d n w p o =>
    have hq : H q = some (.tup [.str "give", .int d, .int n, .str w, .int p, nv]) := hq
    rw [ap_ret, ap_make]
    refine Bg rfl hq rfl (Bg rfl hq rfl (Bg rfl hq rfl (Bg rfl hq rfl (?_))))
    walk_at "rdi"
    refine ⟨_, SqT.of hq, _, rfl, nv, o, rfl, .inr hn, fun v1 H1 s1 hn1 _ => ?_⟩
    intro x dx hx hdx hne
    exact ⟨x, .give d n w p o, H1, dx, v1, rfl, rfl, Gf hx hdx, hg, hn1, fun H' hM => ⟨rfl, k x _ H' s1 hM⟩⟩
   | buy => cases hk
   | sell => cases hk
   | gift => cases hk
   | split => cases hk
   | part => cases hk
  rw [if_neg hw3]
  subst hw'
  rw [ap_next]
  dsimp only
  subst hu
  (try dsimp only)
  refine Bc fun u hu => ?_
  rw [ap_seq]
  refine Ed fun v w' hv hw' => ?_
  walk_at "rdi"
  by_cases hw4 : e.word = Str.ofString "split"
  ·rw [if_pos hw4]
   subst hv
   have hk := Gw (Ga e).2.2.2.2.1 (congrArg V.str hw4)
   cases e with
   | split d n w m f =>
    have hq : H q = some (.tup [.str "split", .int d, .int n, .str w, .int m, .int f]) := hq
    rw [ap_ret, ap_make]
    refine Bg rfl hq rfl (Bg rfl hq rfl (Bg rfl hq rfl (Bg rfl hq rfl (Bg rfl hq rfl (?_)))))
    rw [ap_nil]
    intro x dx hx hdx hne
    exact ⟨x, .split d n w m f, H, dx, .non, rfl, rfl, Gf hx hdx, hg, rfl, fun H' hM => ⟨rfl, k x _ H' (Same.refl H) hM⟩⟩
   | buy => cases hk
   | sell => cases hk
   | gift => cases hk
   | give => cases hk
   | part => cases hk
  rw [if_neg hw4]
  subst hw'
  rw [ap_next]
  dsimp only
  subst hu
  cases e with
  | buy => exact (hw0 rfl).elim
  | sell => exact (hw1 rfl).elim
  | gift => exact (hw2 rfl).elim
  | give => exact (hw3 rfl).elim
  | split => exact (hw4 rfl).elim
  | part d n w u s t =>
   have hq : H q = some (.tup [.str "part", .int d, .int n, .str w, .str u, .int s, .int t]) := hq
   rw [ap_ret, ap_make]
   refine Bg rfl hq rfl (Bg rfl hq rfl (Bg rfl hq rfl (Bg rfl hq rfl (Bg rfl hq rfl (Bg rfl hq rfl (?_))))))
   rw [ap_nil]
   intro x dx hx hdx hne
   exact ⟨x, .part d n w u s t, H, dx, .non, rfl, rfl, Gf hx hdx, hg, rfl, fun H' hM => ⟨rfl, k x _ H' (Same.refl H) hM⟩⟩
end
end My
namespace My
open PySem L2 PyProof.Rows
section
variable {P : Program} {w : World} {K : Fg_} {mg : Str -> Option Value} {base : Heap} {A : Adr} {D : Fds}
local macro_rules | `(tactic| walk_at "nx") => `(tactic| ((try dsimp only); rw [ap_seq]; walk_at "rdi"))
def kvE (es : EL) : List (Key × V) := es.map fun r => (Sum.inl r.2.num, .ref r.1)
def nums (es : EL) : List Int := es.map (·.2.num)
theorem Hu (es : EL) : (kvE es).length = es.length := by unfold kvE; rw [List.length_map]
theorem XS {es : EL} {i : Nat} {kv : Key × V} (h : (kvE es)[i]? = some kv) : ∃ r, es[i]? = some r /\ kv = (Sum.inl r.2.num, .ref r.1) := by
 unfold kvE at h
 rw [List.getElem?_map] at h
 cases e : es[i]? with
 | none => rw [e] at h; cases h
 | some r => rw [e] at h; exact ⟨r, rfl, (Option.some.inj h).symm⟩
theorem Lz (es gs : EL) : kvE (es ++ gs) = kvE es ++ kvE gs := List.map_append
theorem JX : ∀ {es : EL} {n : Int}, n ∉ nums es -> Gs (kvE es) (Sum.inl n) = Option.none
 | [], _, _ => rfl
 | r :: es, n, h => by
  have h1 : r.2.num ≠ n := fun e => h (by rw [<- e]; exact List.mem_cons_self)
  show Gs ((Sum.inl r.2.num, V.ref r.1) :: kvE es) _ = _
  rw [Cq (fun e => h1 (Sum.inl.inj e))]
  exact JX fun m => h (List.mem_cons_of_mem _ m)
theorem HS : ∀ {pre : EL} {r : Addr × Ent} {post : EL}, r.2.num ∉ nums pre -> Gs (kvE (pre ++ r :: post)) (Sum.inl r.2.num) = some (.ref r.1)
 | [], r, post, _ => Cw rfl
 | p :: pre, r, post, h => by
  have h1 : p.2.num ≠ r.2.num := fun e => h (by rw [<- e]; exact List.mem_cons_self)
  show Gs ((Sum.inl p.2.num, V.ref p.1) :: kvE (pre ++ r :: post)) _ = _
  rw [Cq (fun e => h1 (Sum.inl.inj e))]
  exact HS fun m => h (List.mem_cons_of_mem _ m)
theorem EY : ∀ {es : EL} {n : Int}, n ∈ nums es -> ∃ pre r post, es = pre ++ r :: post /\ r.2.num = n /\ n ∉ nums pre
 | r :: es, n, h => by
  by_cases e : r.2.num = n
  ·exact ⟨[], r, es, rfl, e, List.not_mem_nil⟩
  ·have h2 : n ∈ nums es := by
    rcases List.mem_cons.mp h with h | h
    ·exact (e h.symm).elim
    ·exact h
   obtain ⟨pre, q, post, e1, e2, e3⟩ := EY h2
   exact ⟨r :: pre, q, post, by rw [e1]; rfl, e2, fun m => by
    rcases List.mem_cons.mp m with m | m
    ·exact e m.symm
    ·exact e3 m⟩
theorem RD {es : EL} {r : Addr × Ent} (h : r.2.num ∉ nums es) : putK (kvE es) (Sum.inl r.2.num) (.ref r.1) = kvE (es ++ [r]) := by
 unfold putK
 rw [if_neg (by rw [Fq, JX h]; simp), Lz]
 rfl
theorem Wf {pre : EL} {r : Addr × Ent} {post : EL} {x : Addr} {e : Ent} (hu : (nums (pre ++ r :: post)).Nodup) (he : e.num = r.2.num) : putK (kvE (pre ++ r :: post)) (Sum.inl r.2.num) (.ref x) = kvE (pre ++ (x, e) :: post) := by
 have hu' : (nums pre ++ r.2.num :: nums post).Nodup := by
  unfold nums at hu
  rw [List.map_append, List.map_cons] at hu
  exact hu
 obtain ⟨_, h2, h3⟩ := List.nodup_append.mp hu'
 have hpre : r.2.num ∉ nums pre := fun m => h3 _ m _ List.mem_cons_self rfl
 have hpost := (List.nodup_cons.mp h2).1
 unfold putK
 rw [if_pos (by rw [Fq, HS hpre]; rfl), Lz, Lz, List.map_append]
 have same : ∀ {l : EL}, r.2.num ∉ nums l -> (kvE l).map (fun kv => if kv.1 = Sum.inl r.2.num then (kv.1, V.ref x) else kv) = kvE l := fun {l} hl => Nh fun kv hkv => by
  obtain ⟨q, hq, rfl⟩ := List.mem_map.mp hkv
  exact if_neg fun z => hl (by rw [<- Sum.inl.inj z]; exact List.mem_map.mpr ⟨q, hq, rfl⟩)
 rw [same hpre]
 show kvE pre ++ (if (Sum.inl r.2.num : Key) = Sum.inl r.2.num then ((Sum.inl r.2.num : Key), V.ref x) else _) :: (kvE post).map _ = kvE pre ++ (Sum.inl e.num, V.ref x) :: kvE post
 rw [if_pos rfl, same hpost, he]
theorem Vw : ∀ {es : EL} {n : Int}, n ∉ nums es -> Il (kvE es) (Sum.inl n) = kvE es
 | [], _, _ => rfl
 | r :: es, n, h => by
  have h1 : r.2.num ≠ n := fun e => h (by rw [<- e]; exact List.mem_cons_self)
  show Il ((Sum.inl r.2.num, V.ref r.1) :: kvE es) _ = (Sum.inl r.2.num, V.ref r.1) :: kvE es
  rw [RT (fun e => h1 (Sum.inl.inj e)), Vw fun m => h (List.mem_cons_of_mem _ m)]
theorem Px : ∀ {pre : EL} {r : Addr × Ent} {post : EL}, (nums (pre ++ r :: post)).Nodup -> Il (kvE (pre ++ r :: post)) (Sum.inl r.2.num) = kvE (pre ++ post)
 | [], r, post, hu => by
  show Il ((Sum.inl r.2.num, V.ref r.1) :: kvE post) _ = kvE post
  rw [Yg rfl, Vw (List.nodup_cons.mp hu).1]
 | p :: pre, r, post, hu => by
  have hu := List.nodup_cons.mp (show (p.2.num :: nums (pre ++ r :: post)).Nodup from hu)
  have h1 : p.2.num ≠ r.2.num := fun e => hu.1 (by rw [e]; unfold nums; rw [List.map_append]; exact List.mem_append_right _ List.mem_cons_self)
  show Il ((Sum.inl p.2.num, V.ref p.1) :: kvE (pre ++ r :: post)) _ = (Sum.inl p.2.num, V.ref p.1) :: kvE (pre ++ post)
  rw [RT (fun e => h1 (Sum.inl.inj e)), Px hu.2]
def Iw (H : Hp) (D : Addr) : Prop := (∀ xs, H D ≠ some (.tup xs)) /\ (∀ xs, H D ≠ some (.lst xs)) /\ ∀ C dx fs, H D ≠ some (.ins C dx fs)
theorem Cu {H : Hp} {D : Addr} {kvs : List (Key × V)} (h : H D = some (.dK kvs)) : Iw H D := ⟨(fun _ e => by rw [h] at e; cases e), (fun _ e => by rw [h] at e; cases e), fun _ _ _ e => by rw [h] at e; cases e⟩
theorem Vq {H H' : Hp} {D a : Addr} {xs : List V} (b : But D H H') (n : Iw H D) (h : H a = some (.tup xs)) : H' a = some (.tup xs) := b _ _ (fun z => n.1 _ (z ▸ h)) h
theorem Ol {H H' : Hp} {D a : Addr} {xs : List V} (b : But D H H') (n : Iw H D) (h : H a = some (.lst xs)) : H' a = some (.lst xs) := b _ _ (fun z => n.2.1 _ (z ▸ h)) h
theorem JB {H H' : Hp} {D a C dx : Addr} {fs : List (Str × V)} (b : But D H H') (n : Iw H D) (h : H a = some (.ins C dx fs)) : H' a = some (.ins C dx fs) := b _ _ (fun z => n.2.2 _ _ _ (z ▸ h)) h
theorem YB {H H' : Hp} {D : Addr} {rs : Rs} (b : But D H H') (n : Iw H D) (h : Lots H rs) : Lots H' rs := fun r hr => Vq b n (h r hr)
theorem acZ {H H' : Hp} {D : Addr} {v : V} {o : Option Rs} (b : But D H H') (n : Iw H D) (h : NL H v o) : NL H' v o := by
 cases o with
 | none => exact h
 | some rs => obtain ⟨l, e, h1, h2⟩ := h; exact ⟨l, e, Ol b n h1, YB b n h2⟩
theorem adN {H H' : Hp} {D : Addr} {v : V} {o : Option Rs} (b : But D H H') (n : Iw H D) (h : NT H v o) : NT H' v o := by
 cases o with
 | none => exact h
 | some rs => obtain ⟨l, e, h1, h2⟩ := h; exact ⟨l, e, Vq b n h1, YB b n h2⟩
theorem Iz {H H' : Hp} {D t : Addr} {e : Ent} (b : But D H H') (n : Iw H D) : TupE H t e -> TupE H' t e := fun ⟨nt, h1, h2⟩ => ⟨nt, Vq b n h1, adN b n h2⟩
theorem KR {H H' : Hp} {D x : Addr} {e : Ent} (b : But D H H') (n : Iw H D) : IsE A H x e -> IsE A H' x e := fun ⟨dx, nv, h1, h2⟩ => ⟨dx, nv, JB b n h1, acZ b n h2⟩
theorem FQ {H H' : Hp} {D x l : Addr} {e : Ent} (b : But D H H') (n : Iw H D) : Kept A l H x e -> Kept A l H' x e := fun ⟨dx, nv, h1, h2, h3⟩ => ⟨dx, nv, JB b n h1, acZ b n h2, h3⟩
theorem Wb {H H' H'' : Hp} {D : Addr} (h : But D H H') (g : But D H' H'') : But D H H'' := fun b o n e => g b o n (h b o n e)
theorem Yb {H H' : Hp} {D : Addr} (h : Same H H') : But D H H' := fun b o _ e => h b o e
theorem Eb {H : Hp} {D : Addr} {u : HO} : But D H (upd H D u) := fun b o n e => (Aj n).trans e
theorem Made.keptAll {B H H' : Hp} {x : Addr} {e : Ent} (h : Made A B H' x e) (s : Same H B) : ∀ l xs, H l = some (.lst xs) -> Kept A l H' x e := fun l xs hl => by
 obtain ⟨dx, nv, h1, h2, h3⟩ := h
 exact ⟨dx, nv, h1.h, h2, fun q eq z => by have := h3 q eq; rw [z, s _ _ hl] at this; cases this⟩
theorem aap {F : Addr -> Ent -> Prop} : ∀ {acc : List V} {tl : EL}, acc.length = tl.length -> (∀ (i : Nat) v, acc[i]? = some v -> ∃ b r, tl[i]? = some r /\ v = .ref b /\ F b r.2) ->
  ∃ es : EL, acc = Bj es /\ es.map (·.2) = tl.map (·.2) /\ ∀ r ∈ es, F r.1 r.2
 | [], tl, hl, _ => by
  cases tl with
  | nil => exact ⟨[], rfl, rfl, fun g h => (List.not_mem_nil h).elim⟩
  | cons _ _ => simp at hl
 | v :: acc, tl, hl, h => by
  cases tl with
  | nil => simp at hl
  | cons r tl =>
   obtain ⟨b, r', e, rfl, hf⟩ := h 0 v rfl
   cases e
   obtain ⟨es, e1, e2, e3⟩ := aap (acc := acc) (tl := tl) (by simpa using hl) fun i v hv => h (i + 1) v hv
   refine ⟨(b, r.2) :: es, by rw [e1]; rfl, by rw [List.map_cons, List.map_cons, e2], fun g hg => ?_⟩
   rcases List.mem_cons.mp hg with rfl | hg
   ·exact hf
   ·exact e3 g hg
theorem aax {H H' : Hp} {t D : Addr} {e : Ent} {acc : List V} (h : TupE H t e) (hD : H D = some (.lst acc)) (hb : But D H H') : TupE H' t e := by
 obtain ⟨nt, ht, hn⟩ := h
 refine ⟨nt, hb _ _ (fun z => by rw [z, hD] at ht; cases ht) ht, ?_⟩
 revert hn
 cases e.lots with
 | none => exact fun h => h
 | some rs =>
  rintro ⟨l, e0, hl, hL⟩
  refine ⟨l, e0, hb _ _ (fun z => by rw [z, hD] at hl; cases hl) hl, fun r hr => hb _ _ (fun z => ?_) (hL r hr)⟩
  have := hL r hr
  rw [z, hD] at this
  cases this
theorem Wc {B H H' : Hp} {x D : Addr} {e : Ent} {acc : List V} (h : Made A B H x e) (hD : B D = some (.lst acc)) (hb : But D H H') : IsE A H' x e := by
 obtain ⟨dx, nv, hN, hn, hf⟩ := h
 refine ⟨dx, nv, hb _ _ (fun z => by have := hN.n; rw [z, hD] at this; cases this) hN.h, ?_⟩
 revert hn
 cases e.lots with
 | none => exact fun h => h
 | some rs =>
  rintro ⟨l, e0, hl, hL⟩
  refine ⟨l, e0, hb _ _ (fun z => by have := hf l e0; rw [z, hD] at this; cases this) hl, fun r hr => hb _ _ (fun z => ?_) (hL r hr)⟩
  have := hL r hr
  rw [z, hN.s _ _ hD] at this
  cases this
theorem Yk {H : Hp} {q : Addr} {es : EL} {Q : VK} {σ : L2.St} (hq : H q = some (.lst (Bj es))) (hE : EntAt A H es) (hl : es.length <= 100)
  (k : ∀ D ts H', H D = Option.none -> Same H H' -> H' D = some (.lst (Bj ts)) -> (∀ r ∈ ts, TupE H' r.1 r.2) -> ts.map (·.2) = es.map (·.2) -> Q (.ref D) H') : CompP [Option.none] (Itl K q) (XH 0) QD (Qu (aeu A) (Str.ofString "told") E0 (acj 0) Vf) σ H Q := by
 refine CompP.listE (K := K) (fun σ => ∃ a, σ = [a]) (fun i v H' => ∃ b r, es[i]? = some r /\ v = .ref b /\ TupE H' b r.2) (SqL.of hq) ⟨_, rfl⟩ (by rw [Bk, sizeLine_eq]; omega) ?_ ?_
 ·rintro Da i x hx σ H5 R ⟨_, rfl⟩ sm hD ⟨acc, hA⟩ kk
  obtain ⟨r, hr', rfl⟩ := Hl hx
  have hE5 := (hE r (List.mem_of_getElem? hr')).same sm
  obtain ⟨dx, nv, hx5, hn5⟩ := id hE5
  obtain ⟨isK, hk, hm⟩ := Ys A r.2
  walk_at "rdi"
  exact ⟨_, dx, _, hx5, _, hm, IV r.2 nv, r.1, r.2, hk, rfl, hE5, fun t nt H6 s6 ht h6 hn6 => kk (.ref t) _ H6 ⟨_, rfl⟩ s6 fun H' hb => ⟨t, r, hr', rfl, aax ⟨nt, h6, hn6⟩ (s6 _ _ hA) hb⟩⟩
 ·intro Da H' acc hD sm hA hlen hF
  rw [Bk] at hlen
  obtain ⟨ts, e1, e2, e3⟩ := aap (F := TupE H') hlen hF
  rw [e1] at hA
  exact k Da ts H' hD sm hA e3 e2
theorem Uo {H : Hp} {D : Addr} {o : Obj} {u : HO} (h : H D = some (.frz o u)) : Iw H D := ⟨(fun _ e => by rw [h] at e; cases e), (fun _ e => by rw [h] at e; cases e), fun _ _ _ e => by rw [h] at e; cases e⟩
end
end My
namespace My
open PySem L2 PyProof.Rows
section
variable {P : Program} {w : World} {K : Fg_} {mg : Str -> Option Value} {base : Heap} {A : Adr} {D : Fds}
local macro_rules | `(tactic| walk_at "nx") => `(tactic| ((try dsimp only); rw [ap_seq]; walk_at "rdi"))
def Mw (A : Adr) : Sp := fun vs H Q _ => ∃ (x : Addr) (e : Ent), vs = [.ref x] /\ IsE A H x e /\ e.good /\ ∀ y B H', Same H B -> Made A B H' y e -> Q (.ref y) H'
theorem Fg (T : Txt K mg A D) : FnOk P w K mg base CX0 7 A.tX D.tX ["entry"] (Mw A) := by
 refine T.wS.ok Mu (fun vs H Q E h => ?_) (fun cdv A' outer s0 H vs Q E hr h => ?_)
 ·obtain ⟨x, e, rfl, _⟩ := h; rfl
 ·obtain ⟨x, e, rfl, hE, hg, k⟩ := h
  refine ⟨_, (Af (Am (Ai (JD (K := K) T) (hr.mono (by decide)) (by rfl) T.wy T.wz (JQ T) .nil Ak (Aa (Bt (pv 0) (.cons T.yS T.zQ (Gb (K := K) T) (hr.mono (by decide)) (GD T) (.cons T.y3 T.zR (Ew (K := K) T) (hr.mono (by decide)) (FT T) (.cons T.zf T.zS (Ez (K := K) T) (hr.mono (by decide)) (FJ T) (.cons T.zn T.zT (Fb (K := K) T) (hr.mono (by decide)) (FP T) (.cons T.zv T.zU (DW (K := K) T) (hr.mono (by decide)) (Ey T) (.cons T.yK T.zV (CK (K := K) T) (hr.mono (by decide)) (CW T) .nil)))))) Ak) Ad)))), ?_⟩
  simp only [start_eq]
  obtain ⟨dx, nv, hx, hn⟩ := id hE
  obtain ⟨isK, hk, hm⟩ := Ys A e
  walk_at "rdi"
  refine ⟨_, dx, _, hx, _, hm, IV e nv, x, e, hk, rfl, hE, fun t nt H1 s1 ht h1 hn1 => ?_⟩
  exact ⟨t, e, nt, rfl, h1, hn1, hg, fun y B H' s hM => k y B H' (s1.trans s) hM⟩
def JW (A : Adr) : Sp := fun vs H Q _ => ∃ (x dx : Addr), vs = [.ref x] /\ H x = some (.ins A.ul dx []) /\ ∀ d, H d = Option.none -> Q .non (upd (upd H d (.dK [])) x (.ins A.ul dx [("by_number", .ref d)]))
theorem KY (T : Txt K mg A D) : FnOk P w K mg base CX0 1 A.sT D.sT ["self"] (JW A) := by
 refine T.vG.ok Kg (fun vs H Q E h => ?_) (fun cdv A' outer s0 H vs Q E hr h => ?_)
 ·obtain ⟨x, dx, rfl, _⟩ := h; rfl
 ·obtain ⟨x, dx, rfl, hx, k⟩ := h
  refine ⟨_, (Af (BP (K := K) (pv 0) Ni rfl)), ?_⟩
  simp only [start_eq]
  walk_at "rdi"
  intro p hp
  have hne : x ≠ p := fun e => by rw [e, hp] at hx; cases hx
  exact ⟨_, dx, _, (Aj hne).trans hx, T.yI, T.yJ, by decide, k p hp⟩
structure LgD (A : Adr) (H : Hp) (lg bd : Addr) (es : EL) : Prop where
 i : ∃ dx, H lg = some (.ins A.ul dx [("by_number", .ref bd)])
 d : H bd = some (.dK (kvE es))
 u : (nums es).Nodup
def adC (C : Addr) (n : Int) (H : Hp) (E : XK) : Prop := ∀ d H', Same H H' -> H' d = some (.xd [("number", .int n)]) -> E (.ref C) (some d) H'
def Hi (A : Adr) : Sp := fun vs H Q E => ∃ (lg bd : Addr) (es : EL) (n : Int), vs = [.ref lg, .int n] /\ LgD A H lg bd es /\ n.natAbs < 2 ^ 300 /\ (n ∈ nums es -> Q .non H) /\ (n ∉ nums es -> adC A.uz n H E)
theorem Dr (T : Txt K mg A D) : FnOk P w K mg base (CX1 P w) 3 A.t8 D.t8 ["self", "number"] (Hi A) := by
 refine T.xh.okX Hf (fun vs H Q E h => ?_) (fun cdv A' outer s0 H vs Q E hr h => ?_)
 ·obtain ⟨lg, bd, es, n, rfl, _⟩ := h; rfl
 ·obtain ⟨lg, bd, es, n, rfl, hL, hn, k1, k2⟩ := h
  refine ⟨_, (Af (Bq (Al (Sd (Ff hr)) (pv 1) (Ar (K := K) (pv 0) rfl) (by with_unfolding_all rfl)) (Af (TJ Qp rfl T.yE (Ju (K := K) T) (hr.mono (by decide)) (by rfl) T.yg (JC T) (Aa (pv 1) Ad))) Av)), ?_⟩
  simp only [start_eq]
  walk_at "rdi"
  obtain ⟨dx, hi⟩ := hL.i
  refine ⟨_, dx, _, hi, T.yI, T.yJ, _, rfl, _, rfl, _, DGet.k (k := Sum.inl n) hL.d, ?_⟩
  by_cases m : n ∈ nums es
  ·obtain ⟨pre, r, post, rfl, rfl, hp⟩ := EY m
   rw [HS hp, if_neg (by simp)]
   exact k1 m
  ·rw [JX m, if_pos (by rfl)]
   exact ⟨hn, fun d hd => k2 m d _ (Same.new hd) Ae⟩
structure Cop (A : Adr) (H H' : Hp) (y : Addr) (e : Ent) : Prop where
 i : IsE A H' y e
 k : ∀ l xs, H l = some (.lst xs) -> Kept A l H' y e
theorem JR {e : Ent} (h : e.good) : e.num.natAbs < 2 ^ 300 := by
 have hB : 0 <= e.num /\ e.num <= 1000000 := by
  cases e <;> exact ⟨h.1.n0, h.1.n1⟩
 have : e.num.natAbs < 2 ^ 20 := by omega
 exact Nat.lt_of_lt_of_le this (Nat.pow_le_pow_right (by decide) (by decide))
def OJ (A : Adr) : Sp := fun vs H Q E => ∃ (lg bd x : Addr) (es : EL) (e : Ent), vs = [.ref lg, .ref x] /\ LgD A H lg bd es /\ es.length <= 1000 /\ IsE A H x e /\ e.good /\ (e.num ∈ nums es -> adC A.uy e.num H E) /\
 (e.num ∉ nums es -> ∀ y H', But bd H H' -> H' bd = some (.dK (kvE (es ++ [(y, e)]))) -> Cop A H H' y e -> Q .non H')
theorem FZ (T : Txt K mg A D) : FnOk P w K mg base (CX1 P w) 8 A.t6 D.t6 ["self", "entry"] (OJ A) := by
 refine T.xf.okX Nx (fun vs H Q E h => ?_) (fun cdv A' outer s0 H vs Q E hr h => ?_)
 ·obtain ⟨lg, bd, x, es, e, rfl, _⟩ := h; rfl
 ·obtain ⟨lg, bd, x, es, e, rfl, hL, hlen, hE, hg, k1, k2⟩ := h
  refine ⟨_, (Ac (Bq (Al (RK (Ff hr)) (Ar (K := K) (pv 1) rfl) (Ar (K := K) (pv 0) rfl) (by with_unfolding_all rfl)) (Af (TJ Qp rfl T.yB (Ld (K := K) T) (hr.mono (by decide)) (by rfl) T.yf (MJ T) (Aa (Ar (K := K) (pv 1) rfl) Ad))) Av)
   (Af (Gy (Ff hr) (Ar (K := K) (pv 0) rfl) (Ar (K := K) (pv 1) rfl) (Ai (Fg (K := K) T) (hr.mono (by decide)) (by rfl) T.wQ T.wR (Gd T) .nil Ak (Aa (pv 1) Ad)) rfl))), ?_⟩
  simp only [start_eq]
  obtain ⟨dl, hi⟩ := hL.i
  obtain ⟨dx, nv, hx, hn⟩ := id hE
  walk_at "nx"
  have ce := Nt T e
  refine ⟨_, dx, _, hx, ce.c, ce.n, _, Bs e nv, _, dl, _, hi, T.yI, T.yJ, _, rfl, _, rfl, _, DGet.k (k := Sum.inl e.num) hL.d, ?_⟩
  by_cases m : e.num ∈ nums es
  ·obtain ⟨pre, r, post, e1, e2, hp⟩ := EY m
   have hv : Gs (kvE es) (Sum.inl e.num) = some (.ref r.1) := by rw [e1, <- e2]; exact HS (by rw [e2]; exact hp)
   rw [hv, if_pos (by rfl)]
   exact ⟨_, dx, _, hx, ce.c, ce.n, _, Bs e nv, _, rfl, JR hg, fun d hd => k1 m d _ (Same.new hd) Ae⟩
  ·rw [JX m, if_neg (by simp)]
   refine ⟨x, e, rfl, hE, hg, fun y B H1 sB hM => ?_⟩
   obtain ⟨dy, ny, hN, _⟩ := id hM
   have S1 := sB.trans hN.s
   have hd1 := S1 _ _ hL.d
   refine ⟨_, dl, _, S1 _ _ hi, T.yI, T.yJ, _, rfl, _, dx, _, S1 _ _ hx, ce.c, ce.n, _, Bs e nv, bd, rfl, _, DPut.k (k := Sum.inl e.num) hd1 (by rw [Hu, sizeLine_eq]; omega), ?_⟩
   rw [RD (r := (y, e)) m]
   exact k2 m y _ (Wb (Yb S1) Eb) Ae ⟨KR Eb (Cu hd1) hM.isE, fun l xs hl => FQ Eb (Cu hd1) (hM.keptAll sB l xs hl)⟩
def Mz (A : Adr) : Sp := fun vs H Q E => ∃ (lg bd : Addr) (es : EL) (n : Int), vs = [.ref lg, .int n] /\ LgD A H lg bd es /\ n.natAbs < 2 ^ 300 /\ (n ∉ nums es -> adC A.uz n H E) /\
 ∀ pre r post, es = pre ++ r :: post -> r.2.num = n -> Q (.ref r.1) (upd H bd (.dK (kvE (pre ++ post))))
theorem Ij (T : Txt K mg A D) : FnOk P w K mg base (CX1 P w) 4 A.t9 D.t9 ["self", "number"] (Mz A) := by
 refine T.xj.okX MN (fun vs H Q E h => ?_) (fun cdv A' outer s0 H vs Q E hr h => ?_)
 ·obtain ⟨lg, bd, es, n, rfl, _⟩ := h; rfl
 ·obtain ⟨lg, bd, es, n, rfl, hL, hn, k1, k2⟩ := h
  refine ⟨_, (Ac (Bh (Jp (pv 0) (.cons T.yI T.zW (Dr (K := K) T) (hr.mono (by decide)) (Ea T) .nil) Sq (Aa (pv 1) Ad)))
   (Af (Am (Wg (Ar (K := K) (pv 0) rfl) (pv 1) ⟨rfl, rfl, rfl, rfl⟩)))), ?_⟩
  simp only [start_eq]
  obtain ⟨dl, hi⟩ := hL.i
  walk_at "nx"
  refine ⟨_, dl, _, hi, _, List.mem_cons_self, rfl, lg, bd, es, n, rfl, hL, hn, fun m => ?_, k1⟩
  obtain ⟨pre, r, post, e1, e2, hp⟩ := EY m
  have hv : Gs (kvE es) (Sum.inl n) = some (.ref r.1) := by rw [e1, <- e2]; exact HS (by rw [e2]; exact hp)
  refine ⟨_, dl, _, hi, T.yI, T.yJ, _, rfl, _, rfl, .inl ⟨_, .inl hL.d⟩, _, hL.d, Sum.inl n, rfl, _, hv, ?_⟩
  have h := k2 pre r post e1 e2
  have hu := hL.u
  rw [e1] at hu
  rw [e1, <- e2, Px hu]
  exact h
def LQ (A : Adr) : Sp := fun vs H Q E => ∃ (lg bd x : Addr) (es : EL) (e : Ent), vs = [.ref lg, .ref x] /\ LgD A H lg bd es /\ es.length <= 1000 /\ IsE A H x e /\ e.good /\ (e.num ∉ nums es -> adC A.uz e.num H E) /\
 ∀ pre r post, es = pre ++ r :: post -> r.2.num = e.num -> ∀ y H', But bd H H' -> H' bd = some (.dK (kvE (pre ++ (y, e) :: post))) -> Cop A H H' y e -> Q (.ref r.1) H'
theorem Ho (T : Txt K mg A D) : FnOk P w K mg base (CX1 P w) 8 A.uc D.uc ["self", "entry"] (LQ A) := by
 refine T.xk.okX sc_Ledger_correct (fun vs H Q E h => ?_) (fun cdv A' outer s0 H vs Q E hr h => ?_)
 ·obtain ⟨lg, bd, x, es, e, rfl, _⟩ := h; rfl
 ·obtain ⟨lg, bd, x, es, e, rfl, hL, hlen, hE, hg, k1, k2⟩ := h
  refine ⟨_, (Ac (Bh (Jp (pv 0) (.cons T.yI T.zW (Dr (K := K) T) (hr.mono (by decide)) (Ea T) .nil) Sq (Aa (Ar (K := K) (pv 1) rfl) Ad)))
   (Ac (Bd (i := 2) sc_Ledger_correct.nd rfl (Or.inl rfl) (JK (Ff hr) (Ar (K := K) (pv 0) rfl) (Ar (K := K) (pv 1) rfl) (fun _ _ => rfl)))
   (Ac (Gy (Ff hr) (Ar (K := K) (pv 0) rfl) (Ar (K := K) (pv 1) rfl) (Ai (Fg (K := K) T) (hr.mono (by decide)) (by rfl) T.wQ T.wR (Gd T) .nil Ak (Aa (pv 1) Ad)) rfl)
   (Af (Am (pv 2)))))), ?_⟩
  simp only [start_eq]
  obtain ⟨dl, hi⟩ := hL.i
  obtain ⟨dx, nv, hx, hn⟩ := id hE
  walk_at "nx"
  have ce := Nt T e
  refine ⟨_, dl, _, hi, _, List.mem_cons_self, rfl, _, dx, _, hx, ce.c, ce.n, _, Bs e nv, lg, bd, es, e.num, rfl, hL, JR hg, fun m => ?_, k1⟩
  obtain ⟨pre, r, post, e1, e2, hp⟩ := EY m
  have hv : Gs (kvE es) (Sum.inl e.num) = some (.ref r.1) := by rw [e1, <- e2]; exact HS (by rw [e2]; exact hp)
  walk_at "nx"
  refine ⟨_, dl, _, hi, T.yI, T.yJ, _, rfl, _, dx, _, hx, ce.c, ce.n, _, Bs e nv, bd, rfl, .ref r.1, hv ▸ DGet.k (k := Sum.inl e.num) hL.d, ?_⟩
  walk_at "nx"
  refine ⟨x, e, rfl, hE, hg, fun y B H1 sB hM => ?_⟩
  obtain ⟨dy, ny, hN, _⟩ := id hM
  have S1 := sB.trans hN.s
  have hd1 := S1 _ _ hL.d
  refine ⟨_, dl, _, S1 _ _ hi, T.yI, T.yJ, _, rfl, _, dx, _, S1 _ _ hx, ce.c, ce.n, _, Bs e nv, bd, rfl, _, DPut.k (k := Sum.inl e.num) hd1 (by rw [Hu, sizeLine_eq]; omega), ?_⟩
  have hu := hL.u
  rw [e1] at hu
  have hpk : putK (kvE es) (Sum.inl e.num) (.ref y) = kvE (pre ++ (y, e) :: post) := by rw [e1, <- e2]; exact Wf hu e2.symm
  rw [hpk]
  exact k2 pre r post e1 e2 y _ (Wb (Yb S1) Eb) Ae ⟨KR Eb (Cu hd1) hM.isE, fun l xs hl => FQ Eb (Cu hd1) (hM.keptAll sB l xs hl)⟩
def Lb (A : Adr) : Sp := fun vs H Q _ => ∃ (lg bd : Addr) (es : EL), vs = [.ref lg] /\ LgD A H lg bd es /\ es.length < 60 /\ EntAt A H es /\ (∀ r ∈ es, r.2.good) /\
 ∀ p es' H', Same H H' -> H p = Option.none -> H' p = some (.lst (Bj es')) -> EntAt A H' es' -> (es'.map (·.2)).Perm (es.map (·.2)) -> (es'.map (·.2)).Pairwise BfE -> Q (.ref p) H'
theorem CP (T : Txt K mg A D) : FnOk P w K mg base CX0 8 A.tY D.tY ["self"] (Lb A) := by
 refine T.wT.ok Li (fun vs H Q E h => ?_) (fun cdv A' outer s0 H vs Q E hr h => ?_)
 ·obtain ⟨lg, bd, es, rfl, _⟩ := h; rfl
 ·obtain ⟨lg, bd, es, rfl, hL, hlen, hE, hg, k⟩ := h
  refine ⟨_, (Af (Am (Ai (TY (K := K) T) (hr.mono (by decide)) (by rfl) T.vP T.vQ (Wv T) .nil Ak (Aa (Uc (Eh (cap := [Option.none]) (N' := ["entry"]) rfl (by walk_at "compok") (acg (Xu (K := K) PySem.F.plainAttrs_dict PySem.F.slot_dict_values PySem.F.type_dict_values Xm (Ar (K := K) (pv 0) rfl))) (fun _ _ _ _ => (Bm (i := 0) (show (["entry"] : List Str).Nodup from by decide +kernel) rfl (Or.inl rfl) (Or.inr rfl))) (fun _ _ _ _ => Ec) (fun _ _ _ _ => (Ai (Fg (K := K) T) (hr.mono (by decide)) (by rfl) T.wQ T.wR (Gd T) .nil Ak (Aa (pv 0) Ad))))) Ad)))), ?_⟩
  simp only [start_eq]
  obtain ⟨dl, hi⟩ := hL.i
  walk_at "rdi"
  refine ⟨_, dl, _, hi, T.yI, T.yJ, _, rfl, .inr (.inr (.inl ⟨rfl, .inl ⟨_, hL.d⟩⟩)), ?_⟩
  rw [ap_rVals]
  refine ⟨_, hL.d, fun v hv => ?_⟩
  have hvb : bd ≠ v := fun z => by rw [<- z, hL.d] at hv; cases hv
  refine ⟨v, rfl, bd, Ae, _, (Aj hvb).trans hL.d, fun o => ?_⟩
  have h5 : (upd (upd H v (Rj v bd)) bd (.frz o (.dK (kvE es)))) bd = some (.frz o (.dK (kvE es))) := Ae
  have o5 : But bd H (upd (upd H v (Rj v bd)) bd (.frz o (.dK (kvE es)))) := fun a u hne h => (Aj hne).trans (Same.new hv _ _ h)
  generalize upd (upd H v (Rj v bd)) bd (.frz o (.dK (kvE es))) = H5 at h5 o5
  refine ZG (fun σ => ∃ a, σ = [a]) (fun i w H' => ∃ y r, es[i]? = some r /\ w = .ref y /\ IsE A H' y r.2) h5 ⟨_, rfl⟩ (by rw [Hu, sizeLine_eq]; omega) ?_ ?_
  ·rintro Da i kv hkv σ H6 R ⟨_, rfl⟩ sm hD ⟨acc, hA⟩ kk
   obtain ⟨r, hr', rfl⟩ := XS hkv
   have hm := List.mem_of_getElem? hr'
   walk_at "rdi"
   refine ⟨r.1, r.2, rfl, (KR o5 (Cu hL.d) (hE r hm)).same sm, hg r hm, fun y B H' s hM => ?_⟩
   obtain ⟨dy, ny, hN, _⟩ := id hM
   exact kk (.ref y) _ H' ⟨_, rfl⟩ (s.trans hN.s) fun H'' hb => ⟨y, r, hr', rfl, Wc hM (s _ _ hA) hb⟩
  ·intro Da H' acc hD sm hA hlen' hF
   rw [Hu] at hlen'
   obtain ⟨es2, e1, e2, e3⟩ := aap (F := fun b e => IsE A H' b e) hlen' hF
   have hb' := sm _ _ h5
   have hne : Da ≠ bd := fun z => by rw [z, h5] at hD; cases hD
   refine ⟨bd, o, kvE es, hb', fun o' u' z => ?_, ?_⟩
   ·have z : H bd = some (.frz o' u') := z
    rw [hL.d] at z; cases z
   have S : Same H (upd H' bd (.dK (kvE es))) := fun a u h => by
    by_cases z : a = bd
    ·subst z; rw [hL.d] at h; rw [Ae]; exact h
    ·exact (Aj z).trans (sm _ _ (o5 a u z h))
   have hl2 : es2.length = es.length := by simpa using congrArg List.length e2
   refine ⟨Da, es2, rfl, ((Aj hne).trans hA).trans (by rw [e1]), fun r hr => KR Eb (Uo hb') (e3 r hr), by omega, ?_, fun p es' H8 s8 hp h8 hperm hord => ?_⟩
   ·have : es2.map (·.2.num) = nums es := by
     have := congrArg (List.map Ent.num) e2
     rw [List.map_map, List.map_map] at this
     exact this
    rw [this]; exact hL.u
   ·exact k p es' H8 (S.trans s8) (S.free hp) h8 (fun r hr => (KR Eb (Uo hb') (e3 r (hperm.mem_iff.mp hr))).same s8) ((hperm.map _).trans (by rw [e2])) hord
end
end My
namespace My
open PySem L2 PyProof.Rows
section
variable {P : Program} {w : World} {K : Fg_} {mg : Str -> Option Value} {base : Heap} {A : Adr} {D : Fds}
theorem Km {e : Int} (h1 : 0 <= e) (h2 : e <= 1000000) : aek 10 e := ⟨h1, h2, by decide⟩
def toI : V -> Int
 | .int i => i
 | _ => 0
def RowsAt (H : Hp) (tl : EL) : Prop := ∀ r ∈ tl, TupE H r.1 r.2 /\ r.2.good
theorem RowsAt.same {H H' : Hp} {tl : EL} (h : RowsAt H tl) (s : Same H H') : RowsAt H' tl := fun r hr => ⟨(h r hr).1.same s, (h r hr).2⟩
end
end My
namespace My
open PySem L2 PyProof.Rows
section
variable {P : Program} {w : World} {K : Fg_} {mg : Str -> Option Value} {base : Heap} {A : Adr} {D : Fds}
local macro_rules | `(tactic| walk_at "nx") => `(tactic| ((try dsimp only); refine Bc fun u hu => ?_; rw [ap_seq]; walk_at "rdi"; subst hu))
def JZ (A : Adr) : Sp := fun vs H Q _ => ∃ (q : Addr) (e : Ent), vs = [.ref q] /\ TupE H q e /\ e.lots = Option.none /\ e.good /\ ∀ x B H', Same H B -> Made A B H' x e -> Q (.ref x) H'
theorem Ko (T : Txt K mg A D) : FnOk P w K mg base CX0 6 A.ue D.ue ["_law_row_here"] (JZ A) := by
 refine T.xq.ok QK (fun vs H Q E h => ?_) (fun cdv A' outer s0 H vs Q E hr h => ?_)
 ·obtain ⟨q, e, rfl, _⟩ := h; rfl
 ·obtain ⟨q, e, rfl, ⟨nv, hq, hn⟩, ho, hg, k⟩ := h
  refine ⟨_, (Ac (Bq (Al (Ck) (Ao (Ah (K := K)) (pv 0) Ab (fun _ _ => rfl)) Aw (Ay _)) (Af (Am (DN T.zE (Ip (K := K) T) (hr.mono (by decide)) (by rfl) T.x8 (Df T).choose_spec.1 (Df T).choose_spec.2 Ak (Aa (Ao (Ah (K := K)) (pv 0) Ab (fun _ _ => rfl)) (Aa (Ao (Ah (K := K)) (pv 0) Ab (fun _ _ => rfl)) (Aa (Ao (Ah (K := K)) (pv 0) Ab (fun _ _ => rfl)) (Aa (Ao (Ah (K := K)) (pv 0) Ab (fun _ _ => rfl)) (Aa (Ao (Ah (K := K)) (pv 0) Ab (fun _ _ => rfl)) (Aa (Ao (Ah (K := K)) (pv 0) Ab (fun _ _ => rfl)) Ad))))))))) Av)
   (Ac (Bq (Al (Ck) (Ao (Ah (K := K)) (pv 0) Ab (fun _ _ => rfl)) Aw (Ay _)) (Af (Am (DN T.zF (Fe (K := K) T) (hr.mono (by decide)) (by rfl) T.x9 (BJ T).choose_spec.1 (BJ T).choose_spec.2 Ak (Aa (Ao (Ah (K := K)) (pv 0) Ab (fun _ _ => rfl)) (Aa (Ao (Ah (K := K)) (pv 0) Ab (fun _ _ => rfl)) (Aa (Ao (Ah (K := K)) (pv 0) Ab (fun _ _ => rfl)) (Aa (Ao (Ah (K := K)) (pv 0) Ab (fun _ _ => rfl)) (Aa (Ao (Ah (K := K)) (pv 0) Ab (fun _ _ => rfl)) (Aa (Ao (Ah (K := K)) (pv 0) Ab (fun _ _ => rfl)) (Aa (Ao (Ah (K := K)) (pv 0) Ab (fun _ _ => rfl)) Ad)))))))))) Av)
   (Ac (Bq (Al (Ck) (Ao (Ah (K := K)) (pv 0) Ab (fun _ _ => rfl)) Aw (Ay _)) (Af (Am (DN T.zG (Ig (K := K) T) (hr.mono (by decide)) (by rfl) T.yb (Ir T) .nil Ak (Aa (Ao (Ah (K := K)) (pv 0) Ab (fun _ _ => rfl)) (Aa (Ao (Ah (K := K)) (pv 0) Ab (fun _ _ => rfl)) (Aa (Ao (Ah (K := K)) (pv 0) Ab (fun _ _ => rfl)) (Aa (Ao (Ah (K := K)) (pv 0) Ab (fun _ _ => rfl)) (Aa (Ao (Ah (K := K)) (pv 0) Ab (fun _ _ => rfl)) (Aa (Ao (Ah (K := K)) (pv 0) Ab (fun _ _ => rfl)) Ad))))))))) Av)
   (Ac (Bq (Al (Ck) (Ao (Ah (K := K)) (pv 0) Ab (fun _ _ => rfl)) Aw (Ay _)) (Af (Am (DN T.zH (Fd (K := K) T) (hr.mono (by decide)) (by rfl) T.yc (BL T).choose_spec.1 (BL T).choose_spec.2 Ak (Aa (Ao (Ah (K := K)) (pv 0) Ab (fun _ _ => rfl)) (Aa (Ao (Ah (K := K)) (pv 0) Ab (fun _ _ => rfl)) (Aa (Ao (Ah (K := K)) (pv 0) Ab (fun _ _ => rfl)) (Aa (Ao (Ah (K := K)) (pv 0) Ab (fun _ _ => rfl)) (Aa (Ao (Ah (K := K)) (pv 0) Ab (fun _ _ => rfl)) Ad)))))))) Av)
   (Ac (Bq (Al (Ck) (Ao (Ah (K := K)) (pv 0) Ab (fun _ _ => rfl)) Aw (Ay _)) (Af (Am (DN T.zI (GR (K := K) T) (hr.mono (by decide)) (by rfl) T.yd (Ii T) .nil Ak (Aa (Ao (Ah (K := K)) (pv 0) Ab (fun _ _ => rfl)) (Aa (Ao (Ah (K := K)) (pv 0) Ab (fun _ _ => rfl)) (Aa (Ao (Ah (K := K)) (pv 0) Ab (fun _ _ => rfl)) (Aa (Ao (Ah (K := K)) (pv 0) Ab (fun _ _ => rfl)) (Aa (Ao (Ah (K := K)) (pv 0) Ab (fun _ _ => rfl)) Ad)))))))) Av)
   (Af (Am (DN T.zD (FW (K := K) T) (hr.mono (by decide)) (by rfl) T.x6 (Ge T) .nil Ak (Aa (Ao (Ah (K := K)) (pv 0) Ab (fun _ _ => rfl)) (Aa (Ao (Ah (K := K)) (pv 0) Ab (fun _ _ => rfl)) (Aa (Ao (Ah (K := K)) (pv 0) Ab (fun _ _ => rfl)) (Aa (Ao (Ah (K := K)) (pv 0) Ab (fun _ _ => rfl)) (Aa (Ao (Ah (K := K)) (pv 0) Ab (fun _ _ => rfl)) (Aa (Ao (Ah (K := K)) (pv 0) Ab (fun _ _ => rfl)) Ad)))))))))))))), ?_⟩
  rw [ho] at hn
  obtain rfl : nv = .non := hn
  simp only [start_eq]
  have a0 : atI (V.str e.word :: e.args .non) 0 = some (.str e.word) := by cases e <;> rfl
  (try dsimp only)
  refine Bc fun u hu => ?_
  rw [ap_seq]
  refine Ed fun v w' hv hw' => ?_
  walk_at "rdi"
  refine ⟨_, SqT.of hq, _, a0, rfl, ?_⟩
  by_cases hw0 : V.str e.word = V.str (Str.ofString "buy")
  ·rw [if_pos hw0]
   subst hv
   have hk := Gw (Ga e).1 hw0
   cases e with
   | buy d n w p r f =>
    have hq : H q = some (.tup [.str "buy", .int d, .int n, .str w, .int p, .int r, .int f]) := hq
    rw [ap_ret, ap_make]
    refine Bg rfl hq rfl (Bg rfl hq rfl (Bg rfl hq rfl (Bg rfl hq rfl (Bg rfl hq rfl (Bg rfl hq rfl (?_))))))
    rw [ap_nil]
    intro x dx hx hdx hne
    exact ⟨x, .buy d n w p r f, H, dx, .non, rfl, rfl, Gf hx hdx, hg, rfl, fun H' hM => ⟨rfl, k x _ H' (Same.refl H) hM⟩⟩
   | sell => cases hk
   | gift => cases hk
   | give => cases hk
   | split => cases hk
   | part => cases hk
  rw [if_neg hw0]
  subst hw'
  rw [ap_next]
  dsimp only
  subst hu
  (try dsimp only)
  refine Bc fun u hu => ?_
  rw [ap_seq]
  refine Ed fun v w' hv hw' => ?_
  walk_at "rdi"
  refine ⟨_, SqT.of hq, _, a0, rfl, ?_⟩
  by_cases hw1 : V.str e.word = V.str (Str.ofString "sell")
  ·rw [if_pos hw1]
   subst hv
   have hk := Gw (Ga e).2.1 hw1
   cases e with
   | sell d n w p r f o =>
    have hq : H q = some (.tup [.str "sell", .int d, .int n, .str w, .int p, .int r, .int f, .non]) := hq
    rw [ap_ret, ap_make]
    refine Bg rfl hq rfl (Bg rfl hq rfl (Bg rfl hq rfl (Bg rfl hq rfl (Bg rfl hq rfl (Bg rfl hq rfl (Bg rfl hq rfl (?_)))))))
    rw [ap_nil]
    intro x dx hx hdx hne
    exact ⟨x, .sell d n w p r f o, H, dx, .non, rfl, rfl, Gf hx hdx, hg, by rw [ho]; exact rfl, fun H' hM => ⟨rfl, k x _ H' (Same.refl H) hM⟩⟩
   | buy => cases hk
   | gift => cases hk
   | give => cases hk
   | split => cases hk
   | part => cases hk
  rw [if_neg hw1]
  subst hw'
  rw [ap_next]
  dsimp only
  subst hu
  (try dsimp only)
  refine Bc fun u hu => ?_
  rw [ap_seq]
  refine Ed fun v w' hv hw' => ?_
  walk_at "rdi"
  refine ⟨_, SqT.of hq, _, a0, rfl, ?_⟩
  by_cases hw2 : V.str e.word = V.str (Str.ofString "gift")
  ·rw [if_pos hw2]
   subst hv
   have hk := Gw (Ga e).2.2.1 hw2
   cases e with
   | gift d n w p c s =>
    have hq : H q = some (.tup [.str "gift", .int d, .int n, .str w, .int p, .int c, .int s]) := hq
    rw [ap_ret, ap_make]
    refine Bg rfl hq rfl (Bg rfl hq rfl (Bg rfl hq rfl (Bg rfl hq rfl (Bg rfl hq rfl (Bg rfl hq rfl (?_))))))
    rw [ap_nil]
    intro x dx hx hdx hne
    exact ⟨x, .gift d n w p c s, H, dx, .non, rfl, rfl, Gf hx hdx, hg, rfl, fun H' hM => ⟨rfl, k x _ H' (Same.refl H) hM⟩⟩
   | buy => cases hk
   | sell => cases hk
   | give => cases hk
   | split => cases hk
   | part => cases hk
  rw [if_neg hw2]
  subst hw'
  rw [ap_next]
  dsimp only
  subst hu
  (try dsimp only)
  refine Bc fun u hu => ?_
  rw [ap_seq]
  refine Ed fun v w' hv hw' => ?_
  walk_at "rdi"
  refine ⟨_, SqT.of hq, _, a0, rfl, ?_⟩
  by_cases hw3 : V.str e.word = V.str (Str.ofString "give")
  ·rw [if_pos hw3]
   subst hv
   have hk := Gw (Ga e).2.2.2.1 hw3
   cases e with
   | give d n w p o =>
    have hq : H q = some (.tup [.str "give", .int d, .int n, .str w, .int p, .non]) := hq
    rw [ap_ret, ap_make]
    refine Bg rfl hq rfl (Bg rfl hq rfl (Bg rfl hq rfl (Bg rfl hq rfl (Bg rfl hq rfl (?_)))))
    rw [ap_nil]
    intro x dx hx hdx hne
    exact ⟨x, .give d n w p o, H, dx, .non, rfl, rfl, Gf hx hdx, hg, by rw [ho]; exact rfl, fun H' hM => ⟨rfl, k x _ H' (Same.refl H) hM⟩⟩
   | buy => cases hk
   | sell => cases hk
   | gift => cases hk
   | split => cases hk
   | part => cases hk
  rw [if_neg hw3]
  subst hw'
  rw [ap_next]
  dsimp only
  subst hu
  (try dsimp only)
  refine Bc fun u hu => ?_
  rw [ap_seq]
  refine Ed fun v w' hv hw' => ?_
  walk_at "rdi"
  refine ⟨_, SqT.of hq, _, a0, rfl, ?_⟩
  by_cases hw4 : V.str e.word = V.str (Str.ofString "split")
  ·rw [if_pos hw4]
   subst hv
   have hk := Gw (Ga e).2.2.2.2.1 hw4
   cases e with
   | split d n w m f =>
    have hq : H q = some (.tup [.str "split", .int d, .int n, .str w, .int m, .int f]) := hq
    rw [ap_ret, ap_make]
    refine Bg rfl hq rfl (Bg rfl hq rfl (Bg rfl hq rfl (Bg rfl hq rfl (Bg rfl hq rfl (?_)))))
    rw [ap_nil]
    intro x dx hx hdx hne
    exact ⟨x, .split d n w m f, H, dx, .non, rfl, rfl, Gf hx hdx, hg, rfl, fun H' hM => ⟨rfl, k x _ H' (Same.refl H) hM⟩⟩
   | buy => cases hk
   | sell => cases hk
   | gift => cases hk
   | give => cases hk
   | part => cases hk
  rw [if_neg hw4]
  subst hw'
  rw [ap_next]
  dsimp only
  subst hu
  cases e with
  | buy => exact (hw0 rfl).elim
  | sell => exact (hw1 rfl).elim
  | gift => exact (hw2 rfl).elim
  | give => exact (hw3 rfl).elim
  | split => exact (hw4 rfl).elim
  | part d n w u s t =>
   have hq : H q = some (.tup [.str "part", .int d, .int n, .str w, .str u, .int s, .int t]) := hq
   rw [ap_ret, ap_make]
   refine Bg rfl hq rfl (Bg rfl hq rfl (Bg rfl hq rfl (Bg rfl hq rfl (Bg rfl hq rfl (Bg rfl hq rfl (?_))))))
   rw [ap_nil]
   intro x dx hx hdx hne
   exact ⟨x, .part d n w u s t, H, dx, .non, rfl, rfl, Gf hx hdx, hg, rfl, fun H' hM => ⟨rfl, k x _ H' (Same.refl H) hM⟩⟩
end
end My
namespace My
open PySem L2 PyProof.Rows
section
variable {P : Program} {w : World} {K : Fg_} {mg : Str -> Option Value} {base : Heap} {A : Adr} {D : Fds}
local macro_rules | `(tactic| walk_at "nx") => `(tactic| ((try dsimp only); refine Bc fun u hu => ?_; rw [ap_seq]; walk_at "rdi"; subst hu))
def JS (A : Adr) : Sp := fun vs H Q _ => ∃ (q : Addr) (e : Ent) (rs : Rs), vs = [.ref q] /\ TupE H q e /\ e.lots = some rs /\ e.good /\ ∀ x B H', Same H B -> Made A B H' x e -> Q (.ref x) H'
theorem Ro (T : Txt K mg A D) : FnOk P w K mg base CX0 6 A.uf D.uf ["_law_row_here"] (JS A) := by
 refine T.xu.ok QR (fun vs H Q E h => ?_) (fun cdv A' outer s0 H vs Q E hr h => ?_)
 ·obtain ⟨q, e, rs, rfl, _⟩ := h; rfl
 ·obtain ⟨q, e, rs, rfl, ⟨nv, hq, hn⟩, ho, hg, k⟩ := h
  refine ⟨_, (Ac (Bq (Al (Ck) (Ao (Ah (K := K)) (pv 0) Ab (fun _ _ => rfl)) Aw (Ay _)) (Af (Am (DN T.zF (Fe (K := K) T) (hr.mono (by decide)) (by rfl) T.x9 (BJ T).choose_spec.1 (BJ T).choose_spec.2 Ak (Aa (Ao (Ah (K := K)) (pv 0) Ab (fun _ _ => rfl)) (Aa (Ao (Ah (K := K)) (pv 0) Ab (fun _ _ => rfl)) (Aa (Ao (Ah (K := K)) (pv 0) Ab (fun _ _ => rfl)) (Aa (Ao (Ah (K := K)) (pv 0) Ab (fun _ _ => rfl)) (Aa (Ao (Ah (K := K)) (pv 0) Ab (fun _ _ => rfl)) (Aa (Ao (Ah (K := K)) (pv 0) Ab (fun _ _ => rfl)) (Aa (Jc (KZ (K := K)) (by rfl) T.xW (by decide +kernel) (Aa (Ao (Ah (K := K)) (pv 0) Ab (fun _ _ => rfl)) Ad)) Ad)))))))))) Av)
   (Af (Am (DN T.zH (Fd (K := K) T) (hr.mono (by decide)) (by rfl) T.yc (BL T).choose_spec.1 (BL T).choose_spec.2 Ak (Aa (Ao (Ah (K := K)) (pv 0) Ab (fun _ _ => rfl)) (Aa (Ao (Ah (K := K)) (pv 0) Ab (fun _ _ => rfl)) (Aa (Ao (Ah (K := K)) (pv 0) Ab (fun _ _ => rfl)) (Aa (Ao (Ah (K := K)) (pv 0) Ab (fun _ _ => rfl)) (Aa (Jc (KZ (K := K)) (by rfl) T.xW (by decide +kernel) (Aa (Ao (Ah (K := K)) (pv 0) Ab (fun _ _ => rfl)) Ad)) Ad))))))))), ?_⟩
  rw [ho] at hn
  obtain ⟨lt, rfl, hlt, hL⟩ := hn
  simp only [start_eq]
  cases e with
  | buy => cases ho
  | gift => cases ho
  | split => cases ho
  | part => cases ho
  | sell d n w p r f o =>
   have hq : H q = some (.tup [.str "sell", .int d, .int n, .str w, .int p, .int r, .int f, .ref lt]) := hq
   (try dsimp only)
   refine Bc fun u hu => ?_
   rw [ap_seq]
   refine Ed fun v w' hv hw' => ?_
   walk_at "rdi"
   refine ⟨_, SqT.of hq, _, rfl, rfl, ?_⟩
   rw [if_pos (by decide +kernel)]
   subst hv
   rw [ap_ret, ap_make]
   refine Bg rfl hq rfl (Bg rfl hq rfl (Bg rfl hq rfl (Bg rfl hq rfl (Bg rfl hq rfl (Bg rfl hq rfl (?_))))))
   walk_at "rdi"
   refine ⟨_, SqT.of hq, _, rfl, ?_⟩
   rw [ap_rListOf]
   refine ⟨_, .inr (SqT.of hlt), fun v1 hv1 => ?_⟩
   intro x dx hx hdx hne
   exact ⟨x, .sell d n w p r f o, upd H v1 (.lst (refs rs)), dx, .ref v1, rfl, rfl, Gf hx hdx, hg, by rw [ho]; exact ⟨v1, rfl, Ae, hL.same (Same.new hv1)⟩, fun H' hM => ⟨rfl, k x _ H' (Same.new hv1) hM⟩⟩
  | give d n w p o =>
   have hq : H q = some (.tup [.str "give", .int d, .int n, .str w, .int p, .ref lt]) := hq
   (try dsimp only)
   refine Bc fun u hu => ?_
   rw [ap_seq]
   refine Ed fun v w' hv hw' => ?_
   walk_at "rdi"
   refine ⟨_, SqT.of hq, _, rfl, rfl, ?_⟩
   rw [if_neg (by decide +kernel)]
   subst hw'
   rw [ap_next]
   dsimp only
   subst hu
   rw [ap_ret, ap_make]
   refine Bg rfl hq rfl (Bg rfl hq rfl (Bg rfl hq rfl (Bg rfl hq rfl (?_))))
   walk_at "rdi"
   refine ⟨_, SqT.of hq, _, rfl, ?_⟩
   rw [ap_rListOf]
   refine ⟨_, .inr (SqT.of hlt), fun v1 hv1 => ?_⟩
   intro x dx hx hdx hne
   exact ⟨x, .give d n w p o, upd H v1 (.lst (refs rs)), dx, .ref v1, rfl, rfl, Gf hx hdx, hg, by rw [ho]; exact ⟨v1, rfl, Ae, hL.same (Same.new hv1)⟩, fun H' hM => ⟨rfl, k x _ H' (Same.new hv1) hM⟩⟩
theorem adK (e : Ent) : inV (V.str e.word) [V.str (Str.ofString "sell"), V.str (Str.ofString "give")] = (Bp e || Br e) := by
 cases e with
 | buy => show inV (V.str (Str.ofString "buy")) _ = false; decide +kernel
 | sell => show inV (V.str (Str.ofString "sell")) _ = true; decide +kernel
 | gift => show inV (V.str (Str.ofString "gift")) _ = false; decide +kernel
 | give => show inV (V.str (Str.ofString "give")) _ = true; decide +kernel
 | split => show inV (V.str (Str.ofString "split")) _ = false; decide +kernel
 | part => show inV (V.str (Str.ofString "part")) _ = false; decide +kernel
def SM (A : Adr) : Sp := fun vs H Q _ => ∃ (q : Addr) (e : Ent), vs = [.ref q] /\ TupE H q e /\ e.good /\ ∀ x B H', Same H B -> Made A B H' x e -> Q (.ref x) H'
theorem Gg (T : Txt K mg A D) : FnOk P w K mg base CX0 7 A.ug D.ug ["_law_row_here"] (SM A) := by
 refine T.xx.ok RN (fun vs H Q E h => ?_) (fun cdv A' outer s0 H vs Q E hr h => ?_)
 ·obtain ⟨q, e, rfl, _⟩ := h; rfl
 ·obtain ⟨q, e, rfl, hT, hg, k⟩ := h
  refine ⟨_, (Ac (Bq (PW.pt (Sh (Al (adw (K := K)) (Ao (Ah (K := K)) (pv 0) Ab (fun _ _ => rfl)) (Bw (Aa Aw (Aa Aw Ad))) (by with_unfolding_all rfl)) (Og (Al (Um) (Ao (Ah (K := K)) (pv 0) (adY adx Ab) (fun _ _ => rfl)) Jz (Ay _))))) (Af (Am (Ai (Ro (K := K) T) (hr.mono (by decide)) (by rfl) T.xr T.xt (RP T) .nil Ak (Aa (pv 0) Ad)))) Av)
   (Af (Am (Ai (Ko (K := K) T) (hr.mono (by decide)) (by rfl) T.xo T.xp (Mi T) .nil Ak (Aa (pv 0) Ad))))), ?_⟩
  simp only [start_eq]
  obtain ⟨nv, hq, hn⟩ := id hT
  walk_at "nx"
  have a0 : atI (V.str e.word :: e.args nv) 0 = some (.str e.word) := by cases e <;> rfl
  refine ⟨_, SqT.of hq, _, a0, by rw [sizeLine_eq]; decide, fun p hp => ⟨_, .inr (SqT.of Ae), rfl, rfl, ?_⟩⟩
  have s1 := Same.new (o := .tup [V.str (Str.ofString "sell"), V.str (Str.ofString "give")]) hp
  generalize upd H p (.tup [V.str (Str.ofString "sell"), V.str (Str.ofString "give")]) = H1 at s1
  have hq1 := s1 _ _ hq
  have hent : e.lots = Option.none -> JZ A [V.ref q] H1 Q E0 := fun ho => ⟨q, e, rfl, hT.same s1, ho, hg, fun x B H' s hM => k x B H' (s1.trans s) hM⟩
  have hnam : ∀ rs, e.lots = some rs -> JS A [V.ref q] H1 Q E0 := fun rs ho => ⟨q, e, rs, rfl, hT.same s1, ho, hg, fun x B H' s hM => k x B H' (s1.trans s) hM⟩
  rw [adK]
  cases e with
  | buy d n w p r f =>
   rw [if_neg (by simp [Bp, Br]), ap_ret]
   walk_at "rdi"
   exact hent rfl
  | sell d n w p r f o =>
   rw [if_pos (by simp [Bp, Br])]
   refine ⟨_, SqT.of hq1, nv, rfl, ?_⟩
   cases o with
   | none =>
    obtain rfl : nv = .non := hn
    rw [if_neg (fun z => z rfl), ap_ret]
    walk_at "rdi"
    exact hent rfl
   | some rs =>
    obtain ⟨lt, rfl, _⟩ := hn
    rw [if_pos (fun z => by cases z)]
    exact hnam rs rfl
  | gift d n w p c s =>
   rw [if_neg (by simp [Bp, Br]), ap_ret]
   walk_at "rdi"
   exact hent rfl
  | give d n w p o =>
   rw [if_pos (by simp [Bp, Br])]
   refine ⟨_, SqT.of hq1, nv, rfl, ?_⟩
   cases o with
   | none =>
    obtain rfl : nv = .non := hn
    rw [if_neg (fun z => z rfl), ap_ret]
    walk_at "rdi"
    exact hent rfl
   | some rs =>
    obtain ⟨lt, rfl, _⟩ := hn
    rw [if_pos (fun z => by cases z)]
    exact hnam rs rfl
  | split d n w m f =>
   rw [if_neg (by simp [Bp, Br]), ap_ret]
   walk_at "rdi"
   exact hent rfl
  | part d n w u s t =>
   rw [if_neg (by simp [Bp, Br]), ap_ret]
   walk_at "rdi"
   exact hent rfl
end
end My
namespace My
open PySem L2 PyProof.Rows
section
variable {P : Program} {w : World} {K : Fg_} {mg : Str -> Option Value} {base : Heap} {A : Adr} {D : Fds}
local macro_rules | `(tactic| walk_at "nx") => `(tactic| ((try dsimp only); refine Bc fun u hu => ?_; rw [ap_seq]; walk_at "rdi"; subst hu))
def Rr (A : Adr) : Sp := fun vs H Q _ => ∃ (q : Addr) (es : EL), vs = [.ref q] /\ H q = some (.lst (Bj es)) /\ EntAt A H es /\ es.length <= 100 /\
 ∀ D ts H', H D = Option.none -> Same H H' -> H' D = some (.lst (Bj ts)) -> (∀ r ∈ ts, TupE H' r.1 r.2) -> ts.map (·.2) = es.map (·.2) -> Q (.ref D) H'
theorem Hv (T : Txt K mg A D) : FnOk P w K mg base CX0 3 A.tZ D.tZ ["_law_entries"] (Rr A) := by
 refine T.wW.ok QF (fun vs H Q E h => ?_) (fun cdv A' outer s0 H vs Q E hr h => ?_)
 ·obtain ⟨q, es, rfl, _⟩ := h; rfl
 ·obtain ⟨q, es, rfl, hq, hE, hl, k⟩ := h
  refine ⟨_, (Af (Am (Eh (cap := [Option.none]) (N' := ["_law_entry_here"]) rfl (by walk_at "compok") (CN (K := K) (pv 0)) (fun _ _ _ _ => (Bm (i := 0) (show (["_law_entry_here"] : List Str).Nodup from by decide +kernel) rfl (Or.inl rfl) (Or.inr rfl))) (fun _ _ _ _ => Ec) (fun _ _ _ _ => (Bt (pv 0) (.cons T.yS T.zQ (Gb (K := K) T) (hr.mono (by decide)) (GD T) (.cons T.y3 T.zR (Ew (K := K) T) (hr.mono (by decide)) (FT T) (.cons T.zf T.zS (Ez (K := K) T) (hr.mono (by decide)) (FJ T) (.cons T.zn T.zT (Fb (K := K) T) (hr.mono (by decide)) (FP T) (.cons T.zv T.zU (DW (K := K) T) (hr.mono (by decide)) (Ey T) (.cons T.yK T.zV (CK (K := K) T) (hr.mono (by decide)) (CW T) .nil)))))) Ak))))), ?_⟩
  simp only [start_eq]
  walk_at "rdi"
  exact ⟨⟨_, SqL.of hq⟩, Yk hq hE hl k⟩
structure MdD (H : Hp) (md : Addr) (ms : EL) : Prop where
 d : H md = some (.dK (kvE ms))
 u : (nums ms).Nodup
 t : RowsAt H ms
def trip (H : Hp) (v : V) : List Int := match v with
 | .ref b => match H b with
  | some (.tup (x :: y :: _)) => [toI x, toI y]
  | _ => []
 | _ => []
theorem abK {H : Hp} {b : Addr} {x y : Int} {r : List V} (h : H b = some (.tup (.int x :: .int y :: r))) : trip H (.ref b) = [x, y] := by
 unfold trip
 dsimp only
 rw [h]
 rfl
theorem Kz {es : EL} {r : Addr × Ent} (hu : (nums es).Nodup) (h : r ∈ es) : Gs (kvE es) (Sum.inl r.2.num) = some (.ref r.1) := by
 obtain ⟨pre, post, rfl⟩ := List.append_of_mem h
 refine HS fun m => ?_
 unfold nums at hu
 rw [List.map_append, List.map_cons] at hu
 exact (List.nodup_append.mp hu).2.2 _ m _ List.mem_cons_self rfl
theorem aaP {G : Addr -> Addr × Ent -> Prop} : ∀ {acc : List V} {tl : EL}, acc.length = tl.length -> (∀ (i : Nat) v, acc[i]? = some v -> ∃ b r, tl[i]? = some r /\ v = .ref b /\ G b r) ->
  ∃ bs : List (Addr × Addr × Ent), (acc = bs.map fun x => V.ref x.1) /\ bs.map (·.2) = tl /\ ∀ x ∈ bs, G x.1 x.2
 | [], tl, hl, _ => by
  cases tl with
  | nil => exact ⟨[], rfl, rfl, fun g h => (List.not_mem_nil h).elim⟩
  | cons _ _ => simp at hl
 | v :: acc, tl, hl, h => by
  cases tl with
  | nil => simp at hl
  | cons r tl =>
   obtain ⟨b, r', e, rfl, hf⟩ := h 0 v rfl
   cases e
   obtain ⟨bs, e1, e2, e3⟩ := aaP (acc := acc) (tl := tl) (by simpa using hl) fun i v hv => h (i + 1) v hv
   refine ⟨(b, r) :: bs, by rw [e1]; rfl, by rw [List.map_cons, e2], fun g hg => ?_⟩
   rcases List.mem_cons.mp hg with rfl | hg
   ·exact hf
   ·exact e3 g hg
def JF : Sp := fun vs H Q _ => ∃ (md : Addr) (ms : EL), vs = [.ref md] /\ MdD H md ms /\ ms.length < 60 /\
 ∀ D ts H', H D = Option.none -> Same H H' -> H' D = some (.lst (Bj ts)) -> (∀ r ∈ ts, TupE H' r.1 r.2) -> (ts.map (·.2)).Perm (ms.map (·.2)) -> (ts.map (·.2)).Pairwise BfE -> Q (.ref D) H'
theorem Dq (T : Txt K mg A D) : FnOk P w K mg base CX0 1 A.t3 D.t3 ["_law_model"] JF := by
 refine T.wZ.ok JL (fun vs H Q E h => ?_) (fun cdv A' outer s0 H vs Q E hr h => ?_)
 ·obtain ⟨md, ms, rfl, _⟩ := h; rfl
 ·obtain ⟨md, ms, rfl, hM, hl, k⟩ := h
  refine ⟨_, (Af (Am (Eh (cap := [Option.none]) (N' := ["_law_one"]) rfl (by walk_at "compok") (CN (K := K) (Bf (Om (K := K)) (by rfl) T.xO (by decide +kernel) (Aa (Uc (Eh (cap := [Option.none, some 0]) (N' := ["_law_number", "_law_model"]) rfl (by walk_at "compok") (Xw (pv 0)) (fun _ _ _ _ => (Bm (i := 0) (show (["_law_number", "_law_model"] : List Str).Nodup from by decide +kernel) rfl (Or.inl rfl) (Or.inr rfl))) (fun _ _ _ _ => Ec) (fun _ _ _ _ => (Bw (Aa (Ao (Ah (K := K)) (JK (Ff hr) (pv 1) (pv 0) (fun _ _ => rfl)) Ab (fun _ _ => rfl)) (Aa (pv 0) (Aa (JK (Ff hr) (pv 1) (pv 0) (fun _ _ => rfl)) Ad))))))) Ad))) (fun _ _ _ _ => (Bm (i := 0) (show (["_law_one"] : List Str).Nodup from by decide +kernel) rfl (Or.inl rfl) (Or.inr rfl))) (fun _ _ _ _ => Ec) (fun _ _ _ _ => (Ao (Ah (K := K)) (pv 0) Ab (fun _ _ => rfl)))))), ?_⟩
  simp only [start_eq]
  walk_at "rdi"
  refine ⟨_, hM.d, fun o => ?_⟩
  have h5 : (upd H md (.frz o (.dK (kvE ms)))) md = some (.frz o (.dK (kvE ms))) := Ae
  have o5 : But md H (upd H md (.frz o (.dK (kvE ms)))) := Eb
  generalize upd H md (.frz o (.dK (kvE ms))) = H5 at h5 o5
  have lz : ∀ n : Nat, n <= 1000 -> n <= sizeLine := fun n h => by rw [sizeLine_eq]; omega
  refine Vr (fun σ => ∃ v, σ = [v, some (.ref md)]) (fun i v H' => ∃ b r, ms[i]? = some r /\ v = .ref b /\ H' b = some (.tup [.int r.2.day, .int r.2.num, .ref r.1])) h5 ⟨_, rfl⟩ (lz _ (by rw [Hu]; omega)) ?_ ?_
  ·rintro Da i kv hkv σ H6 R ⟨_, rfl⟩ sm hD ⟨acc, hA⟩ kk
   obtain ⟨r, hr', rfl⟩ := XS hkv
   have hm := List.mem_of_getElem? hr'
   have hv := Kz hM.u hm
   have hg : DGet H6 md (.int r.2.num) (some (.ref r.1)) := hv ▸ .inl ⟨_, Sum.inl r.2.num, .inr ⟨o, sm _ _ h5⟩, rfl, rfl⟩
   obtain ⟨nt, ht, _⟩ := (Iz o5 (Cu hM.d) (hM.t r hm).1).same sm
   have a1 : atI (V.str r.2.word :: r.2.args nt) 1 = some (.int r.2.day) := by cases r.2 <;> rfl
   walk_at "rdi"
   refine ⟨_, hg, _, rfl, _, SqT.of ht, _, a1, _, hg, lz _ (by decide), fun p hp => kk (.ref p) _ _ ⟨_, rfl⟩ (Same.new hp) fun H' hb => ⟨p, r, hr', rfl, hb _ _ (fun z => ?_) Ae⟩⟩
   rw [z, hA] at hp; cases hp
  ·intro Da H' acc hD sm hA hlen hF
   rw [Hu] at hlen
   obtain ⟨bs, e1, e2, e3⟩ := aaP (G := fun b r => H' b = some (.tup [.int r.2.day, .int r.2.num, .ref r.1])) hlen hF
   have hb' := sm _ _ h5
   have hne : Da ≠ md := fun z => by rw [z, h5] at hD; cases hD
   refine ⟨md, o, kvE ms, hb', fun o' u' z => ?_, ?_⟩
   ·have z : H md = some (.frz o' u') := z
    rw [hM.d] at z; cases z
   have S : Same H (upd H' md (.dK (kvE ms))) := fun a u h => by
    by_cases z : a = md
    ·subst z; rw [hM.d] at h; rw [Ae]; exact h
    ·exact (Aj z).trans (sm _ _ (o5 a u z h))
   have hA8 : (upd H' md (.dK (kvE ms))) Da = some (.lst (bs.map fun x => V.ref x.1)) := (Aj hne).trans (hA.trans (by rw [e1]))
   have hb8 : ∀ x ∈ bs, (upd H' md (.dK (kvE ms))) x.1 = some (.tup [.int x.2.2.day, .int x.2.2.num, .ref x.2.1]) := fun x hx => Vq Eb (Uo hb') (e3 x hx)
   generalize upd H' md (.dK (kvE ms)) = H8 at S hA8 hb8
   have hbl : bs.length = ms.length := by rw [<- e2, List.length_map]
   have hnu : (bs.map fun x => x.2.2.num).Nodup := by
    have : (bs.map fun x => x.2.2.num) = nums ms := by
     unfold nums
     rw [<- e2, List.map_map]
     rfl
    rw [this]; exact hM.u
   have htr : ∀ x ∈ bs, trip H8 (.ref x.1) = [x.2.2.day, x.2.2.num] := fun x hx => abK (hb8 x hx)
   rw [ap_rSortP]
   refine ⟨_, trip H8, 1, SqL.of hA8, by rw [List.length_map]; omega, ?_, fun y hy => ?_, fun p zs hp hperm hord => ?_⟩
   ·rw [List.map_map]
    refine List.pairwise_map.mpr (List.Pairwise.imp_of_mem (fun {a b} ha hb h z => h ?_) (List.pairwise_map.mp hnu))
    have z : trip H8 (.ref a.1) = trip H8 (.ref b.1) := z
    rw [htr a ha, htr b hb] at z
    exact (List.cons.inj (List.cons.inj z).2).1
   ·obtain ⟨x, hx, rfl⟩ := List.mem_map.mp hy
    rw [htr x hx]
    exact ⟨rfl, x.1, [.ref x.2.1], rfl, SqT.of (hb8 x hx)⟩
   ·obtain ⟨os, rfl, hpm⟩ := Lw (f := fun x : Addr × Addr × Ent => V.ref x.1) hperm rfl
    have s9 := Same.new (o := .lst (os.map fun x => V.ref x.1)) hp
    have h9 : (upd H8 p (.lst (os.map fun x => V.ref x.1))) p = some (.lst (os.map fun x => V.ref x.1)) := Ae
    generalize upd H8 p (.lst (os.map fun x => V.ref x.1)) = H9 at s9 h9
    refine ⟨p, rfl, ⟨_, SqL.of h9⟩, ?_⟩
    have hol : os.length = ms.length := by rw [hpm.length_eq, hbl]
    refine CompP.listE (K := K) (fun σ => ∃ v, σ = [v]) (fun i v _ => ∃ x, os[i]? = some x /\ v = .ref x.2.1) (SqL.of h9) ⟨_, rfl⟩ (lz _ (by rw [List.length_map]; omega)) ?_ ?_
    ·rintro Db i y hy σ H6 R ⟨_, rfl⟩ sm6 hDb hA6 kk
     rw [List.getElem?_map] at hy
     cases hx : os[i]? with
     | none => rw [hx] at hy; cases hy
     | some x =>
     rw [hx] at hy
     cases hy
     have ht := (s9.trans sm6) _ _ (hb8 x (hpm.mem_iff.mp (List.mem_of_getElem? hx)))
     walk_at "rdi"
     exact ⟨_, SqT.of ht, _, rfl, kk _ _ H6 ⟨_, rfl⟩ (Same.refl _) fun _ _ => ⟨x, hx, rfl⟩⟩
    ·intro Db H10 acc2 hDb s10 hA10 hlen2 hF2
     rw [List.length_map] at hlen2
     have e4 : acc2 = Bj (os.map (·.2)) := by
      refine List.ext_getElem? fun i => ?_
      unfold Bj
      rw [List.map_map, List.getElem?_map]
      by_cases hi : i < acc2.length
      ·obtain ⟨x, h1, h2⟩ := hF2 i _ (List.getElem?_eq_getElem hi)
       rw [List.getElem?_eq_getElem hi, h2, h1]
       rfl
      ·rw [List.getElem?_eq_none (by omega), List.getElem?_eq_none (by omega)]
       rfl
     rw [e4] at hA10
     have S10 := (S.trans s9).trans s10
     have hpm2 : (os.map (·.2)).Perm ms := by rw [<- e2]; exact hpm.map _
     refine k Db (os.map (·.2)) H10 ((S.trans s9).free hDb) S10 hA10 (fun r hr => ((hM.t r (hpm2.mem_iff.mp hr)).1.same S10)) (hpm2.map _) ?_
     rw [List.map_map]
     have hnu' : os.Pairwise fun a b => a.2.2.num ≠ b.2.2.num := List.pairwise_map.mp ((hpm.map (fun x : Addr × Addr × Ent => x.2.2.num)).nodup_iff.mpr hnu)
     refine List.pairwise_map.mpr (List.Pairwise.imp_of_mem (fun {a b} ha hb h => ?_) ((List.pairwise_map.mp hord).and hnu'))
     have h1 := h.1
     rw [htr a (hpm.mem_iff.mp ha), htr b (hpm.mem_iff.mp hb)] at h1
     exact Zk h1 h.2
end
end My
namespace My
open PySem L2 PyProof.Rows
section
variable {P : Program} {w : World} {K : Fg_} {mg : Str -> Option Value} {base : Heap} {A : Adr} {D : Fds}
local macro_rules | `(tactic| walk_at "nx") => `(tactic| ((try dsimp only); refine Bc fun u hu => ?_; rw [ap_seq]; walk_at "rdi"; subst hu))
theorem XM {tb : TB} {ok : Addr -> Prop} {i : Nat} {ts : TS} {D : Ends} {σ : L2.St} {H : Hp} (h : ∀ v, v = ts -> ZQ tb ok i v D σ H) : ZQ tb ok i ts D σ H := h ts rfl
theorem LgD.same {H H' : Hp} {lg bd : Addr} {es : EL} (h : LgD A H lg bd es) (s : Same H H') : LgD A H' lg bd es := ⟨let ⟨dx, e⟩ := h.i; ⟨dx, s _ _ e⟩, s _ _ h.d, h.u⟩
def NK (A : Adr) : Sp := fun vs H Q _ => ∃ (lg bd x : Addr) (es : EL) (e : Ent) (way : Int), vs = [.ref lg, .int way, .ref x] /\ LgD A H lg bd es /\ es.length <= 1000 /\ IsE A H x e /\ e.good /\ ((way = 0 /\ e.num ∈ nums es) \/ ((way = 1 \/ way = 2) /\ e.num ∉ nums es)) /\
 ∀ H', Same H H' -> Q (.bl true) H'
theorem DG (T : Txt K mg A D) : FnOk P w K mg base CX0 9 A.ud D.ud ["_law_ledger", "_law_way_here", "_law_entry_here"] (NK A) := by
 refine T.xn.ok sc__law_refused (fun vs H Q E h => ?_) (fun cdv A' outer s0 H vs Q E hr h => ?_)
 ·obtain ⟨lg, bd, x, es, e, way, rfl, _⟩ := h; rfl
 ·obtain ⟨lg, bd, x, es, e, way, rfl, hL, hlen, hE, hg, hw, k⟩ := h
  refine ⟨_, (Ac (Bd (i := 3) sc__law_refused.nd rfl (Or.inl rfl) (Dv Ad))
   (Ac (abk (i := 4) (fun C => C = A.uy \/ C = A.uz) (acH (Al (Ck) (pv 1) Ab (Ay _)) (UG (Pn (pv 0) (.cons T.yI T.zX (FZ (K := K) T) (hr.mono (by decide)) (Gz T) .nil) (Aa (pv 2) Ad))) (acH (Al (Ck) (pv 1) Ab (Ay _)) (UG (Pn (pv 0) (.cons T.yI T.zY (Ij (K := K) T) (hr.mono (by decide)) (Jb T) .nil) (Aa (Ar (K := K) (pv 2) rfl) Ad))) (UG (Pn (pv 0) (.cons T.yI T.zZ (Ho (K := K) T) (hr.mono (by decide)) (Ik T) .nil) (Aa (pv 2) Ad))))) T.yA T.ok_try (by rfl) T.ye rfl rfl sc__law_refused.nd rfl rfl (fun ea => (Ac (Bd (i := 3) sc__law_refused.nd rfl (Or.inl rfl) (Dv (Aa (Bf (Nv (K := K)) (by rfl) T.xR (by decide +kernel) (Aa (pv 4) (Aa (Bl (v := V.ref A.uy) (by rfl) T.yf rfl) Ad))) (Aa (Bf (Nv (K := K)) (by rfl) T.xR (by decide +kernel) (Aa (pv 4) (Aa (Bl (v := V.ref A.uz) (by rfl) T.yg rfl) Ad))) (Aa (Bf (Nv (K := K)) (by rfl) T.xR (by decide +kernel) (Aa (pv 4) (Aa (WD "ValueError" (by rfl) T.xZ (by decide +kernel)) Ad))) (Aa (JH (Ck) (aaG (K := K) (pv 4) rfl) (Ar (K := K) (pv 2) rfl) (Ay _)) Ad))))))
    (Af (Bh (Qo (K := K) PySem.F.plainAttrs_list PySem.F.slot_list_append PySem.F.type_list_append Ja (pv 3) (Aa (Bf (WQ (K := K)) (by rfl) T.xR (by decide +kernel) (Aa (pv 4) (Aa (Bw (Aa (Bl (v := V.ref A.uA) (by rfl) T.yh rfl) (Aa (Bl (v := V.ref A.uB) (by rfl) T.yi rfl) (Aa (Bl (v := V.ref A.uC) (by rfl) T.yj rfl) (Aa (Bl (v := V.ref A.uD) (by rfl) T.yk rfl) (Aa (Bl (v := V.ref A.uE) (by rfl) T.ym rfl) (Aa (Bl (v := V.ref A.uF) (by rfl) T.yn rfl) (Aa (Bl (v := V.ref A.uG) (by rfl) T.yo rfl) (Aa (Bl (v := V.ref A.uH) (by rfl) T.yp rfl) Ad))))))))) Ad))) Ad)))))))
   (Af (Am (JH (UV (K := K) hr) (pv 3) (Dv (Aa (JH (Ck) (pv 1) Ab (Ay _)) (Aa (JH (Tv) (pv 1) Ab (Ay _)) (Aa HF (Aa HF (Aa HF Ad)))))) (Ay _)))))), ?_⟩
  simp only [start_eq]
  walk_at "nx"
  refine ⟨Nat.zero_le _, fun p hp => ?_⟩
  have s1 := Same.new (o := .lst []) hp
  have h1 : (upd H p (.lst [])) p = some (.lst []) := Ae
  generalize upd H p (.lst []) = H1 at s1 h1
  (try dsimp only)
  refine Bc fun u hu => ?_
  rw [ap_seq]
  refine XM fun ts hts => ?_
  have hnd : ∀ (C d ea : Addr) (H2 : Hp) (bk ct : L2.St -> Hp -> Prop), Same H1 H2 -> H2 ea = Option.none -> H2 d = some (.xd [("number", .int e.num)]) -> (C = A.uy /\ way = 0 \/ C = A.uz /\ 0 < way) ->
    ts ({ nx := fun σ2 H2 => u { nx := fun _ H' => Q V.non H', rt := Q } (σ2.set 4 Option.none) H2, rt := Q, bk := bk, ct := ct } : Ends) [some (.ref lg), some (.int way), some (.ref x), some (.ref p), some (.ref ea)] (upd H2 ea (Qg C ea d)) := by
   intro C d ea H2 bk ct s2 hea hd hC
   subst hts
   subst hu
   have hde : d ≠ ea := fun e => by rw [e, hea] at hd; cases hd
   have S2 := (s1.trans s2).trans (Same.new (o := Qg C ea d) hea)
   have he : (upd H2 ea (Qg C ea d)) ea = some (Qg C ea d) := Ae
   have hd2 : (upd H2 ea (Qg C ea d)) d = some (.xd [("number", .int e.num)]) := (Aj hde).trans hd
   have hp2 := (s2.trans (Same.new (o := Qg C ea d) hea)) _ _ h1
   generalize upd H2 ea (Qg C ea d) = H3 at S2 he hd2 hp2
   obtain ⟨fI, b1, b2, xi, ya, na, k1, k2, k3, k4, hb1, hb2⟩ : ∃ fI b1 b2, XClsI K C fI /\ XAsk K C /\ NoAttr K C "number" /\ PySem.W.kitOne K (.ref C) (.ref A.uy) = some b1 /\ PySem.W.kitOne K (.ref C) (.ref A.uz) = some b2 /\ PySem.W.kitOne K (.ref C) (.type "ValueError") = some true /\
     PySem.W.kitAny K (.ref C) [.ref A.uA, .ref A.uB, .ref A.uC, .ref A.uD, .ref A.uE, .ref A.uF, .ref A.uG, .ref A.uH] = some false /\ b1 = decide (way = 0) /\ b2 = decide (0 < way) := by
    rcases hC with ⟨rfl, rfl⟩ | ⟨rfl, hw0⟩
    ·exact ⟨_, true, false, T.yB, T.yC, T.yD, T.z6, T.z7, T.aaa, T.aac, rfl, rfl⟩
    ·exact ⟨_, false, true, T.yE, T.yF, T.yG, T.z8, T.z9, T.aab, T.aad, (decide_eq_false (by omega)).symm, (decide_eq_true hw0).symm⟩
   obtain ⟨dx, nv, hx3, _⟩ := hE.same S2
   have ce := Nt T e
   walk_at "nx"
   refine ⟨C, ⟨_, he⟩, ⟨_, xi⟩, ya, b1, .inl k1, C, ⟨_, he⟩, ⟨_, xi⟩, ya, b2, .inl k2, C, ⟨_, he⟩, ⟨_, xi⟩, ya, true, .inr k3, C, fI, d, .inr he, xi, ya, na, _, hd2, e.num, rfl, _, dx, _, hx3, ce.c, ce.n, _, Bs e nv, ?_⟩
   have lz : ∀ n : Nat, n <= 1000 -> n <= sizeLine := fun n h => by rw [sizeLine_eq]; omega
   refine ⟨rfl, lz _ (by decide), fun p3 hp3 => ?_⟩
   rw [decide_eq_true (rfl : V.int e.num = V.int e.num)]
   have s4 := Same.new (o := .lst [V.bl b1, V.bl b2, V.bl true, V.bl true]) hp3
   have h4 : (upd H3 p3 (.lst [V.bl b1, V.bl b2, V.bl true, V.bl true])) p3 = some (.lst [V.bl b1, V.bl b2, V.bl true, V.bl true]) := Ae
   have f3 := S2.free hp3
   have he4 := s4 _ _ he
   generalize upd H3 p3 (.lst [V.bl b1, V.bl b2, V.bl true, V.bl true]) = H4 at s4 h4 he4
   have S4 := S2.trans s4
   walk_at "rdi"
   refine ⟨.inl ⟨rfl, _, SqL.of h4⟩, lz _ (by decide), fun p4 hp4 => ?_⟩
   have s5 := Same.new (o := .tup ([A.uA, A.uB, A.uC, A.uD, A.uE, A.uF, A.uG, A.uH].map V.ref)) hp4
   have t5 : (upd H4 p4 (.tup ([A.uA, A.uB, A.uC, A.uD, A.uE, A.uF, A.uG, A.uH].map V.ref))) p4 = some (.tup ([A.uA, A.uB, A.uC, A.uD, A.uE, A.uF, A.uG, A.uH].map V.ref)) := Ae
   have e5 : upd H4 p4 (.tup [V.ref A.uA, V.ref A.uB, V.ref A.uC, V.ref A.uD, V.ref A.uE, V.ref A.uF, V.ref A.uG, V.ref A.uH]) = upd H4 p4 (.tup ([A.uA, A.uB, A.uC, A.uD, A.uE, A.uF, A.uG, A.uH].map V.ref)) := rfl
   rw [e5]
   generalize upd H4 p4 (.tup ([A.uA, A.uB, A.uC, A.uD, A.uE, A.uF, A.uG, A.uH].map V.ref)) = H5 at s5 t5
   refine ⟨_, ⟨_, s5 _ _ he4⟩, ⟨_, xi⟩, ya, _, t5, false, k4, _, s5 _ _ h4, by rw [sizeLine_eq]; show 4 < _; decide, ?_⟩
   have S6 : Same H (upd H5 p3 (.lst ([V.bl b1, V.bl b2, V.bl true, V.bl true] ++ [V.bl false]))) := (S4.trans s5).upd f3
   have h6 : (upd H5 p3 (.lst ([V.bl b1, V.bl b2, V.bl true, V.bl true] ++ [V.bl false]))) p3 = some (.lst [V.bl b1, V.bl b2, V.bl true, V.bl true, V.bl false]) := Ae
   refine ⟨lz _ (by decide), fun p6 hp6 => ?_⟩
   rw [<- hb1, <- hb2]
   refine ⟨.lst [.bl b1, .bl b2, .bl true, .bl true, .bl false], .lst [.bl b1, .bl b2, .bl true, .bl true, .bl false], .lst (SqL.of (Same.new hp6 _ _ h6)) (.cons (.bl _) (.cons (.bl _) (.cons (.bl _) (.cons (.bl _) (.cons (.bl _) .nil))))), .lst (SqL.of Ae) (.cons (.bl _) (.cons (.bl _) (.cons (.bl _) (.cons (.bl _) (.cons (.bl _) .nil))))), Nat.succ_le_succ (Nat.zero_le _), by simp [GX, Ef], ?_⟩
   rw [Hg]
   exact k _ (S6.trans (Same.new hp6))
  walk_at "rdi"
  have L1 := hL.same s1
  obtain ⟨dl, hi⟩ := L1.i
  have hE1 := hE.same s1
  obtain ⟨dx, nv, hx, hn⟩ := id hE1
  have ce := Nt T e
  rcases hw with ⟨rfl, m⟩ | ⟨hw, m⟩
  ·rw [if_pos rfl]
   exact ⟨_, dl, _, hi, _, List.mem_cons_self, rfl, lg, bd, x, es, e, rfl, L1, hlen, hE1, hg, fun _ d H2 s2 hd => ⟨_, .inl rfl, rfl, d, rfl, fun ea hea => hnd A.uy d ea H2 _ _ s2 hea hd (.inl ⟨rfl, rfl⟩)⟩, fun z => (z m).elim⟩
  ·have hm : ∀ pre r post, es = pre ++ r :: post -> r.2.num = e.num -> False := fun pre r post e1 e2 => m (by
    rw [e1, <- e2]
    unfold nums
    rw [List.map_append]
    exact List.mem_append_right _ List.mem_cons_self)
   rw [if_neg (by omega)]
   rcases hw with rfl | rfl
   ·rw [if_pos rfl]
    exact ⟨_, dl, _, hi, _, List.mem_cons_self, rfl, _, dx, _, hx, ce.c, ce.n, _, Bs e nv, lg, bd, es, e.num, rfl, L1, JR hg, fun _ d H2 s2 hd => ⟨_, .inr rfl, rfl, d, rfl, fun ea hea => hnd A.uz d ea H2 _ _ s2 hea hd (.inr ⟨rfl, by decide⟩)⟩, fun pre r post e1 e2 => (hm pre r post e1 e2).elim⟩
   ·rw [if_neg (by decide)]
    exact ⟨_, dl, _, hi, _, List.mem_cons_self, rfl, lg, bd, x, es, e, rfl, L1, hlen, hE1, hg, fun _ d H2 s2 hd => ⟨_, .inr rfl, rfl, d, rfl, fun ea hea => hnd A.uz d ea H2 _ _ s2 hea hd (.inr ⟨rfl, by decide⟩)⟩, fun pre r post e1 e2 => (hm pre r post e1 e2).elim⟩
end
end My
namespace My
open PySem L2 PyProof.Rows
section
variable {P : Program} {w : World} {K : Fg_} {mg : Str -> Option Value} {base : Heap} {A : Adr} {D : Fds}
local macro_rules | `(tactic| walk_at "nx") => `(tactic| ((try dsimp only); refine Bc fun u hu => ?_; rw [ap_seq]; walk_at "rdi"; subst hu))
def Qf (K : Fg_) : Sp := fun vs H Q _ => ∃ (q : Addr) (es : EL) (c : Int), vs = [.ref q, .int c] /\ H q = some (.lst (Bj es)) /\ es.length <= 100 /\
 ∀ p es' H', Same H H' -> H p = Option.none -> H' p = some (.lst (Bj es')) -> es'.Perm es -> Q (.ref p) H'
theorem Qj (T : Txt K mg A D) : FnOk P w K mg base CX0 1 A.sU D.sU ["_law_entries", "_law_cell"] (Qf K) := by
 refine T.vJ.ok sc__law_turned (fun vs H Q E h => ?_) (fun cdv A' outer s0 H vs Q E hr h => ?_)
 ·obtain ⟨q, es, c, rfl, _⟩ := h; rfl
 ·obtain ⟨q, es, c, rfl, hq, hl, k⟩ := h
  refine ⟨_, (Ac (Bd (i := 2) sc__law_turned.nd rfl (Or.inl rfl) (Dv Ad))
   (Ac (Bd (i := 3) sc__law_turned.nd rfl (Or.inl rfl) (Az Ci (pv 1) (Az Hh Ab Ab)))
   (Ac (Mp PassesOwn.never rfl (CN (K := K) (pv 0)) (Bm (i := 4) sc__law_turned.nd rfl (Or.inl rfl))
    (Ac (Bh (Qo (K := K) PySem.F.plainAttrs_list PySem.F.slot_list_insert PySem.F.type_list_insert Xq (pv 2) (Aa (Az Ci (pv 3) (Az Cj (Bf (DX (K := K)) (by rfl) T.xM (by decide +kernel) (Aa (pv 2) Ad)) Ab)) (Aa (pv 4) Ad))))
    (Af (Bd (i := 3) sc__law_turned.nd rfl (Or.inl rfl) (Az Ci (Az Cj (Az Dp (pv 3) Ab) Ab) Ab)))))
   (Af (Am (pv 2)))))), ?_⟩
  simp only [start_eq]
  walk_at "nx"
  refine ⟨by rw [sizeLine_eq]; decide, fun pt hpt => ?_⟩
  have S1 := Same.new (o := .lst []) hpt
  have h1 : (upd H pt (.lst [])) pt = some (.lst []) := Ae
  generalize upd H pt (.lst []) = H1 at S1 h1
  walk_at "nx"
  refine ⟨Km (by decide) (by decide), by decide, ?_⟩
  generalize c % 10 ^ (60 : Int).toNat = n0
  try dsimp only
  rw [ap_seq, ap_for]
  walk_at "rdi"
  refine ⟨⟨_, SqL.of (S1 _ _ hq)⟩, ?_⟩
  have hpq : q ≠ pt := fun e => by rw [<- e, hq] at hpt; cases hpt
  refine ForP.list (K := K) (a := q) (xs := Bj es) (fun i σ Hx => ∃ (tl : EL) (n : Int) (v4 : Option V), σ = [some (.ref q), some (.int c), some (.ref pt), some (.int n), v4] /\ Same H Hx /\ Hx pt = some (.lst (Bj tl)) /\ tl.Perm (es.take i))
   ⟨[], _, _, rfl, S1, h1, .refl _⟩ (fun i σ Hx _ ⟨_, _, _, _, s, _⟩ => SqL.of (s _ _ hq)) ?_ ?_
  ·rintro i y σ Hx hi ⟨tl, n, v4, rfl, Sx, hx, hpm⟩
   obtain ⟨r, hgr, rfl⟩ := Hl hi
   have hil : i < es.length := (List.getElem?_eq_some_iff.mp hgr).1
   have htl : tl.length = i := by rw [hpm.length_eq, List.length_take]; omega
   walk_at "nx"
   refine ⟨.inl ⟨rfl, _, SqL.of hx⟩, _, .inl (SqL.of hx), by omega, ?_⟩
   rw [Bk]
   have b1 := Int.emod_nonneg n (show ((tl.length : Int) + 1) ≠ 0 by omega)
   have b2 := Int.emod_lt_of_pos n (show 0 < ((tl.length : Int) + 1) by omega)
   obtain ⟨n1, hn1⟩ : ∃ n1 : Nat, n % ((tl.length : Int) + 1) = n1 := ⟨(n % ((tl.length : Int) + 1)).toNat, by omega⟩
   rw [hn1] at b2 ⊢
   refine ⟨pt, Bj tl, (n1 : Int), .ref r.1, rfl, rfl, hx, by omega, by rw [Bk]; omega, by omega, by rw [Bk, sizeLine_eq]; omega, ?_⟩
   walk_at "rdi"
   refine ⟨CMulU.r (by decide) (by decide), by decide, Sx.upd hpt, tl.take n1 ++ r :: tl.drop n1, ?_, ?_⟩
   ·rw [Ae, Int.toNat_natCast]
    unfold Bj
    rw [List.map_append, List.map_cons, List.map_take, List.map_drop]
   ·rw [List.take_add_one, hgr]
    refine List.Perm.trans ?_ (hpm.append_right _)
    refine List.perm_middle.trans ?_
    rw [List.take_append_drop]
    exact (List.perm_append_singleton _ _).symm
  ·rintro σ Hx ⟨tl, n, v4, rfl, Sx, hx, hpm⟩
   walk_at "rda"
   have e : (Bj es).length = es.length := Bk es
   rw [e, List.take_length] at hpm
   exact k pt tl Hx Sx hpt hx hpm
end
end My
namespace My
open PySem L2 PyProof.Rows
section
variable {P : Program} {w : World} {K : Fg_} {mg : Str -> Option Value} {base : Heap} {A : Adr} {D : Fds}
local macro_rules | `(tactic| walk_at "nx") => `(tactic| ((try dsimp only); refine Bc fun u hu => ?_; rw [ap_seq]; walk_at "rdi"; subst hu))
theorem Jj (K : Fg_) (C : Addr) : PySem.W.kitOne K (.ref C) (.ref C) = some true := if_pos (by simp)
theorem aaJ (T : Txt K mg A D) {H : Hp} {x : Addr} {e : Ent} (h : IsE A H x e) : TyOf K H (.ref x) (.ref (e.cls A)) := by
 obtain ⟨dx, nv, hx, _⟩ := h
 cases e with
 | buy => exact T.yT.of hx
 | sell => exact T.y4.of hx
 | gift => exact T.zg.of hx
 | give => exact T.zo.of hx
 | split => exact T.zw.of hx
 | part => exact T.yL.of hx
theorem aeD (T : Txt K mg A D) (e : Ent) : PySem.W.kitOne K (.ref (e.cls A)) (.ref A.uq) = some (Ds e) /\ PySem.W.kitOne K (.ref (e.cls A)) (.ref A.ut) = some (Bp e) /\ PySem.W.kitOne K (.ref (e.cls A)) (.ref A.uu) = some (Ce e) /\
  PySem.W.kitOne K (.ref (e.cls A)) (.ref A.uv) = some (Br e) /\ PySem.W.kitOne K (.ref (e.cls A)) (.ref A.uw) = some (Bv e) /\ PySem.W.kitOne K (.ref (e.cls A)) (.ref A.uo) = some (Cm e) := by
 cases e with
 | buy => obtain ⟨a, b, c, d, f⟩ := T.aae; exact ⟨Jj _ _, a, b, c, d, f⟩
 | sell => obtain ⟨a, b, c, d, f⟩ := T.aaf; exact ⟨a, Jj _ _, b, c, d, f⟩
 | gift => obtain ⟨a, b, c, d, f⟩ := T.aag; exact ⟨a, b, Jj _ _, c, d, f⟩
 | give => obtain ⟨a, b, c, d, f⟩ := T.aah; exact ⟨a, b, c, Jj _ _, d, f⟩
 | split => obtain ⟨a, b, c, d, f⟩ := T.aai; exact ⟨a, b, c, d, Jj _ _, f⟩
 | part => obtain ⟨a, b, c, d, f⟩ := T.aaj; exact ⟨a, b, c, d, f, Jj _ _⟩
def Ks (A : Adr) : Sp := fun vs H Q _ => ∃ (x : Addr) (e : Ent), vs = [.ref x] /\ IsE A H x e /\ ∀ H', Same H H' -> Q (.bl true) H'
theorem Kl (T : Txt K mg A D) : FnOk P w K mg base CX0 2 A.uh D.uh ["_law_entry_here"] (Ks A) := by
 refine T.xA.ok sc__law_kind_right (fun vs H Q E h => ?_) (fun cdv A' outer s0 H vs Q E hr h => ?_)
 ·obtain ⟨x, e, rfl, _⟩ := h; rfl
 ·obtain ⟨x, e, rfl, hE, k⟩ := h
  refine ⟨_, (Ac (Bd (i := 1) sc__law_kind_right.nd rfl (Or.inl rfl) (Dv (Aa (Bf (Hj (K := K)) (by rfl) T.xR (by decide +kernel) (Aa (pv 0) (Aa (Bl (v := V.ref A.uq) (by rfl) T.x8 rfl) Ad))) (Aa (Bf (Hj (K := K)) (by rfl) T.xR (by decide +kernel) (Aa (pv 0) (Aa (Bl (v := V.ref A.ut) (by rfl) T.x9 rfl) Ad))) (Aa (Bf (Hj (K := K)) (by rfl) T.xR (by decide +kernel) (Aa (pv 0) (Aa (Bl (v := V.ref A.uu) (by rfl) T.yb rfl) Ad))) Ad)))))
   (Ac (Bd (i := 1) sc__law_kind_right.nd rfl (Or.inl rfl) (Az Yu (pv 1) (Dv (Aa (Bf (Hj (K := K)) (by rfl) T.xR (by decide +kernel) (Aa (pv 0) (Aa (Bl (v := V.ref A.uv) (by rfl) T.yc rfl) Ad))) (Aa (Bf (Hj (K := K)) (by rfl) T.xR (by decide +kernel) (Aa (pv 0) (Aa (Bl (v := V.ref A.uw) (by rfl) T.yd rfl) Ad))) (Aa (Bf (Hj (K := K)) (by rfl) T.xR (by decide +kernel) (Aa (pv 0) (Aa (Bl (v := V.ref A.uo) (by rfl) T.x6 rfl) Ad))) Ad))))))
   (Af (Am (JH (UV (K := K) hr) (pv 1) (Eh (cap := [Option.none, some 0]) (N' := ["_law_word", "_law_entry_here"]) rfl (by walk_at "compok") (CN (K := K) (Dv (Aa Aw (Aa Aw (Aa Aw (Aa Aw (Aa Aw (Aa Aw Ad)))))))) (fun _ _ _ _ => (Bm (i := 0) (show (["_law_word", "_law_entry_here"] : List Str).Nodup from by decide +kernel) rfl (Or.inl rfl) (Or.inr rfl))) (fun _ _ _ _ => Ec) (fun _ _ _ _ => (JH (Ck) (Bt (pv 1) (.cons T.yS T.zK (Nu (K := K) T) (hr.mono (by decide)) (Qt T) (.cons T.y3 T.zL (Ml (K := K) T) (hr.mono (by decide)) (Ow T) (.cons T.zf T.zM (Ms (K := K) T) (hr.mono (by decide)) (Pg T) (.cons T.zn T.zN (Mm (K := K) T) (hr.mono (by decide)) (Oh T) (.cons T.zv T.zO (Kw (K := K) T) (hr.mono (by decide)) (Mt T) (.cons T.yK T.zP (Io (K := K) T) (hr.mono (by decide)) (Jy T) .nil)))))) Ak) (pv 0) (Ay _)))) (Ay _)))))), ?_⟩
  simp only [start_eq]
  obtain ⟨dx, nv, hx, hn⟩ := id hE
  obtain ⟨k1, k2, k3, k4, k5, k6⟩ := aeD T e
  have lz : ∀ n : Nat, n <= 1000 -> n <= sizeLine := fun n h => by rw [sizeLine_eq]; omega
  have ty := aaJ T hE
  walk_at "nx"
  refine ⟨_, ty, _, k1, _, ty, _, k2, _, ty, _, k3, lz _ (by decide), fun p hp => ?_⟩
  have s1 := Same.new (o := .lst [V.bl (Ds e), V.bl (Bp e), V.bl (Ce e)]) hp
  have h1 : (upd H p (.lst [V.bl (Ds e), V.bl (Bp e), V.bl (Ce e)])) p = some (.lst [V.bl (Ds e), V.bl (Bp e), V.bl (Ce e)]) := Ae
  generalize upd H p (.lst [V.bl (Ds e), V.bl (Bp e), V.bl (Ce e)]) = H1 at s1 h1
  have ty1 := aaJ T (hE.same s1)
  walk_at "nx"
  refine ⟨_, ty1, _, k4, _, ty1, _, k5, _, ty1, _, k6, lz _ (by decide), fun p2 hp2 => ?_⟩
  have s2 := Same.new (o := .lst [V.bl (Br e), V.bl (Bv e), V.bl (Cm e)]) hp2
  refine ⟨_, s2 _ _ h1, _, Ae, lz _ (by show 6 <= 1000; decide), fun p3 hp3 => ?_⟩
  have s3 := Same.new (o := .lst ([V.bl (Ds e), V.bl (Bp e), V.bl (Ce e)] ++ [V.bl (Br e), V.bl (Bv e), V.bl (Cm e)])) hp3
  have h3 : (upd (upd H1 p2 (.lst [V.bl (Br e), V.bl (Bv e), V.bl (Cm e)])) p3 (.lst ([V.bl (Ds e), V.bl (Bp e), V.bl (Ce e)] ++ [V.bl (Br e), V.bl (Bv e), V.bl (Cm e)]))) p3 = some (.lst ([Ds e, Bp e, Ce e, Br e, Bv e, Cm e].map V.bl)) := Ae
  have S3 := s1.trans (s2.trans s3)
  generalize upd (upd H1 p2 (.lst [V.bl (Br e), V.bl (Bv e), V.bl (Cm e)])) p3 (.lst ([V.bl (Ds e), V.bl (Bp e), V.bl (Ce e)] ++ [V.bl (Br e), V.bl (Bv e), V.bl (Cm e)])) = H3 at S3 h3
  rw [ap_ret]
  walk_at "rdi"
  refine ⟨lz _ (by decide), fun p4 hp4 => ⟨⟨_, SqL.of Ae⟩, ?_⟩⟩
  have s4 := Same.new (o := .lst [V.str (Str.ofString "buy"), V.str (Str.ofString "sell"), V.str (Str.ofString "gift"), V.str (Str.ofString "give"), V.str (Str.ofString "split"), V.str (Str.ofString "part")]) hp4
  have h4 : (upd H3 p4 (.lst [V.str (Str.ofString "buy"), V.str (Str.ofString "sell"), V.str (Str.ofString "gift"), V.str (Str.ofString "give"), V.str (Str.ofString "split"), V.str (Str.ofString "part")])) p4 = some (.lst ([Str.ofString "buy", Str.ofString "sell", Str.ofString "gift", Str.ofString "give", Str.ofString "split", Str.ofString "part"].map V.str)) := Ae
  generalize upd H3 p4 (.lst [V.str (Str.ofString "buy"), V.str (Str.ofString "sell"), V.str (Str.ofString "gift"), V.str (Str.ofString "give"), V.str (Str.ofString "split"), V.str (Str.ofString "part")]) = H4 at s4 h4
  refine CompP.list (K := K) (fun σ => ∃ v, σ = [v, some (.ref x)]) (fun _ => true) (fun v => .bl (decide (V.str e.word = v))) (SqL.of h4) ⟨_, rfl⟩ (lz _ (by decide)) ?_ ?_
  ·rintro y hy σ H5 R1 R2 ⟨v, rfl⟩ sm kk _
   obtain ⟨z, _, rfl⟩ := List.mem_map.mp hy
   obtain ⟨isK, hkK, hmW⟩ := aeh A e
   walk_at "rdi"
   exact ⟨_, dx, _, (S3.trans (s4.trans sm)) _ _ hx, _, hmW, Xp e nv, x, e, hkK, rfl, rfl, kk rfl _ _ ⟨_, rfl⟩ (Same.refl _)⟩
  ·intro Db H5 hDb s5 e5
   rw [Kr] at e5
   have e6 : H5 Db = some (.lst ([Ds e, Bp e, Ce e, Br e, Bv e, Cm e].map V.bl)) := by
    rw [e5]
    obtain ⟨w1, w2, w3, w4, w5, w6⟩ := Ga e
    show some (HO.lst [V.bl (decide (V.str e.word = V.str (Str.ofString "buy"))), V.bl (decide (V.str e.word = V.str (Str.ofString "sell"))), V.bl (decide (V.str e.word = V.str (Str.ofString "gift"))), V.bl (decide (V.str e.word = V.str (Str.ofString "give"))), V.bl (decide (V.str e.word = V.str (Str.ofString "split"))), V.bl (decide (V.str e.word = V.str (Str.ofString "part")))]) = _
    rw [w1, w2, w3, w4, w5, w6]
    rfl
   have rp : ∀ (H : Hp) (bs : List Bool), RepsD K H (bs.map V.bl) (bs.map DV.bl) := fun H bs => by
    induction bs with
    | nil => exact .nil
    | cons b bs ih => exact .cons (.bl b) ih
   refine ⟨.lst ([Ds e, Bp e, Ce e, Br e, Bv e, Cm e].map DV.bl), .lst ([Ds e, Bp e, Ce e, Br e, Bv e, Cm e].map DV.bl), .lst (SqL.of ((s4.trans s5) _ _ h3)) (rp _ _), .lst (SqL.of e6) (rp _ _), Nat.succ_le_succ (Nat.zero_le _), by simp [GX, Ef], ?_⟩
   rw [Hg]
   exact k _ (S3.trans (s4.trans s5))
end
end My
namespace My
open PySem L2 PyProof.Rows
section
variable {P : Program} {w : World} {K : Fg_} {mg : Str -> Option Value} {base : Heap} {A : Adr} {D : Fds}
theorem Dm {H H' : Hp} {D : Addr} {tl : EL} (b : But D H H') (n : Iw H D) (h : RowsAt H tl) : RowsAt H' tl := fun r hr => ⟨Iz b n (h r hr).1, (h r hr).2⟩
theorem Jr {H : Hp} {l : Addr} {xs : List V} {u : HO} {tl : EL} (h : RowsAt H tl) (hl : H l = some (.lst xs)) : RowsAt (upd H l u) tl := fun r hr => ⟨(h r hr).1.put hl, (h r hr).2⟩
theorem VF {H : Hp} {tl sl : EL} (h : RowsAt H tl) (s : ∀ r ∈ sl, r ∈ tl) : RowsAt H sl := fun r hr => h r (s r hr)
theorem MdD.same {H H' : Hp} {md : Addr} {ms : EL} (h : MdD H md ms) (s : Same H H') : MdD H' md ms := ⟨s _ _ h.d, h.u, h.t.same s⟩
def Off3 (b r s : Addr) (H H' : Hp) : Prop := ∀ a o, a ≠ b -> a ≠ r -> a ≠ s -> H a = some o -> H' a = some o
theorem Off3.of {b r s : Addr} {H H' : Hp} (h : Same H H') : Off3 b r s H H' := fun a o _ _ _ e => h a o e
theorem Off3.trans {b r s : Addr} {H H' H'' : Hp} (h : Off3 b r s H H') (h' : Off3 b r s H' H'') : Off3 b r s H H'' := fun a o h1 h2 h3 e => h' a o h1 h2 h3 (h a o h1 h2 h3 e)
theorem Off3.b {b r s : Addr} {H H' : Hp} (h : But b H H') : Off3 b r s H H' := fun a o n _ _ e => h a o n e
theorem Off3.r {b r s : Addr} {H H' : Hp} (h : But r H H') : Off3 b r s H H' := fun a o _ n _ e => h a o n e
theorem Off3.s {b r s : Addr} {H H' : Hp} (h : But s H H') : Off3 b r s H H' := fun a o _ _ n e => h a o n e
structure St70 (A : Adr) (gl : Addr) (H : Hp) (lg bd md : Addr) (es ms gs : EL) : Prop where
 L : LgD A H lg bd es
 M : MdD H md ms
 k : ∀ r ∈ es, Kept A gl H r.1 r.2 /\ r.2.good
 e : es.map (·.2) = ms.map (·.2)
 n : bd ≠ md
 g : H gl = some (.lst (Bj gs))
 gt : RowsAt H gs
 u : (nums (ms ++ gs)).Nodup
 z : (ms ++ gs).length <= 58
theorem St70.same {gl : Addr} {H H' : Hp} {lg bd md : Addr} {es ms gs : EL} (h : St70 A gl H lg bd md es ms gs) (s : Same H H') : St70 A gl H' lg bd md es ms gs :=
 ⟨h.L.same s, h.M.same s, fun r hr => ⟨(h.k r hr).1.same s, (h.k r hr).2⟩, h.e, h.n, s _ _ h.g, h.gt.same s, h.u, h.z⟩
theorem HN {es ms : EL} (h : es.map (·.2) = ms.map (·.2)) : nums es = nums ms := by
 have := congrArg (List.map Ent.num) h
 rw [List.map_map, List.map_map] at this
 exact this
theorem QQ : ∀ {pre : EL} {r : Addr × Ent} {post ms : EL}, (pre ++ r :: post).map (·.2) = ms.map (·.2) -> ∃ pre' q post', ms = pre' ++ q :: post' /\ pre.map (·.2) = pre'.map (·.2) /\ q.2 = r.2 /\ post.map (·.2) = post'.map (·.2)
 | [], r, post, ms, h => by
  cases ms with
  | nil => cases h
  | cons q ms =>
   rw [List.nil_append, List.map_cons, List.map_cons] at h
   obtain ⟨h1, h2⟩ := List.cons.inj h
   exact ⟨[], q, ms, rfl, rfl, h1.symm, h2⟩
 | p :: pre, r, post, ms, h => by
  cases ms with
  | nil => cases h
  | cons q ms =>
   rw [List.cons_append, List.map_cons, List.map_cons] at h
   obtain ⟨h1, h2⟩ := List.cons.inj h
   obtain ⟨pre', q', post', e1, e2, e3, e4⟩ := QQ h2
   refine ⟨q :: pre', q', post', by rw [e1]; rfl, ?_, e3, e4⟩
   rw [List.map_cons, List.map_cons, e2]
   exact congrArg (· :: _) h1
theorem BV (a b : EL) : nums (a ++ b) = nums a ++ nums b := List.map_append
theorem GJ (r : Addr × Ent) (b : EL) : nums (r :: b) = r.2.num :: nums b := rfl
theorem LgD.bt {H H' : Hp} {lg bd D : Addr} {es : EL} (h : LgD A H lg bd es) (b : But D H H') (n : Iw H D) (hn : bd ≠ D) : LgD A H' lg bd es := ⟨let ⟨dx, e⟩ := h.i; ⟨dx, JB b n e⟩, b _ _ hn h.d, h.u⟩
theorem Yj {H : Hp} {D : Addr} {xs : List V} (h : Iw H D) : H D ≠ some (.lst xs) := h.2.1 xs
theorem acG {i : Int} {n : Nat} (h0 : 0 <= i) (h1 : i < n) : seqIndex? i n = some i.toNat := by
 unfold seqIndex?
 have h : ¬ i < 0 := by omega
 simp [h, h0, h1]
theorem Qn : ∀ (l : EL) (j : Nat), (Bj l).eraseIdx j = Bj (l.eraseIdx j)
 | [], _ => rfl
 | _ :: _, 0 => rfl
 | x :: l, j + 1 => congrArg (V.ref x.1 :: ·) (Qn l j)
theorem Qz : ∀ {l : EL} {j : Nat} {g : Addr × Ent}, l[j]? = some g -> (g :: l.eraseIdx j).Perm l
 | [], _, _, h => by simp at h
 | x :: l, 0, g, h => by cases h; exact .refl _
 | x :: l, j + 1, g, h => (List.Perm.swap x g _).trans ((Qz (l := l) (j := j) h).cons x)
end
end My
namespace My
open PySem L2 PyProof.Rows
section
variable {P : Program} {w : World} {K : Fg_} {mg : Str -> Option Value} {base : Heap} {A : Adr} {D : Fds}
local macro_rules | `(tactic| walk_at "nx") => `(tactic| ((try dsimp only); refine Bc fun u hu => ?_; rw [ap_seq]; walk_at "rdi"; subst hu))
def Qh (A : Adr) : Sp := fun vs H Q _ => ∃ (gl lg bd md : Addr) (es ms gs : EL) (n : Int), vs = [.ref lg, .ref md, .ref gl, .int n] /\ St70 A gl H lg bd md es ms gs /\ n ∈ nums ms /\
 ∀ H' es' ms' gs', Off3 bd md gl H H' -> St70 A gl H' lg bd md es' ms' gs' -> Q (.bl true) H'
theorem PX (T : Txt K mg A D) : FnOk P w K mg base CX0 10 A.uj D.uj ["_law_ledger", "_law_model", "_law_gone", "_law_number"] (Qh A) := by
 refine T.xG.ok sc__law_struck (fun vs H Q E h => ?_) (fun cdv A' outer s0 H vs Q E hr h => ?_)
 ·obtain ⟨gl, lg, bd, md, es, ms, gs, n, rfl, _⟩ := h; rfl
 ·obtain ⟨gl, lg, bd, md, es, ms, gs, n, rfl, S, hn, k⟩ := h
  refine ⟨_, (Ac (Bd (i := 4) sc__law_struck.nd rfl (Or.inl rfl) (Jp (pv 0) (.cons T.yI T.zY (Ij (K := K) T) (hr.mono (by decide)) (Jb T) .nil) aak (Aa (pv 3) Ad)))
   (Ac (Bq (PW.pt (Kp (Al (Nk (K := K) hr) (Bt (pv 4) (.cons T.yS T.zQ (Gb (K := K) T) (hr.mono (by decide)) (GD T) (.cons T.y3 T.zR (Ew (K := K) T) (hr.mono (by decide)) (FT T) (.cons T.zf T.zS (Ez (K := K) T) (hr.mono (by decide)) (FJ T) (.cons T.zn T.zT (Fb (K := K) T) (hr.mono (by decide)) (FP T) (.cons T.zv T.zU (DW (K := K) T) (hr.mono (by decide)) (Ey T) (.cons T.yK T.zV (CK (K := K) T) (hr.mono (by decide)) (CW T) .nil)))))) Ak) (JK (Ff hr) (pv 1) (pv 3) (fun _ _ => rfl)) (Ay _)) (Jd (IK (Iu (Ai (DG (K := K) T) (hr.mono (by decide)) (by rfl) T.xl T.xm (El T) .nil Ak (Aa (pv 0) (Aa Ab (Aa (pv 4) Ad))))))))) (Af (Am HF)) Av)
   (Ac (Bq (IK (Iu (Ai (DG (K := K) T) (hr.mono (by decide)) (by rfl) T.xl T.xm (El T) .nil Ak (Aa (pv 0) (Aa Ab (Aa (pv 4) Ad)))))) (Af (Am HF)) Av)
   (Ac (Bh (Qo (K := K) PySem.F.plainAttrs_list PySem.F.slot_list_append PySem.F.type_list_append Ja (pv 2) (Aa (Wg (pv 1) (pv 3) ⟨rfl, rfl, rfl, rfl⟩) Ad)))
   (Af (Am HF)))))), ?_⟩
  rw [<- HN S.e] at hn
  obtain ⟨dl, hi⟩ := S.L.i
  have hsm : n.natAbs < 2 ^ 300 := by
   obtain ⟨pre, r, post, he, hrn, _⟩ := EY hn
   rw [<- hrn]
   exact JR (S.k r (by rw [he]; exact List.mem_append_right _ List.mem_cons_self)).2
  simp only [start_eq]
  walk_at "nx"
  refine ⟨_, dl, _, hi, _, List.mem_cons_self, rfl, lg, bd, es, n, rfl, S.L, hsm, fun z => (z hn).elim, fun pre r post he hrn => ?_⟩
  have hSe := S.e
  rw [he] at hSe
  obtain ⟨pre', q, post', hm, hm1, hq, hm2⟩ := QQ hSe
  have hrm : r ∈ es := by rw [he]; exact List.mem_append_right _ List.mem_cons_self
  have hqm : q ∈ ms := by rw [hm]; exact List.mem_append_right _ List.mem_cons_self
  obtain ⟨hKr, hgr⟩ := S.k r hrm
  have b1 : But bd H (upd H bd (.dK (kvE (pre ++ post)))) := Eb
  have d1 : (upd H bd (.dK (kvE (pre ++ post)))) bd = some (.dK (kvE (pre ++ post))) := Ae
  generalize upd H bd (.dK (kvE (pre ++ post))) = H1 at b1 d1
  have nk := Cu S.L.d
  have hu0 : (nums pre ++ r.2.num :: nums post).Nodup := by have := S.L.u; rw [he, BV, GJ] at this; exact this
  have hu1 : (nums (pre ++ post)).Nodup := by
   rw [BV]
   exact hu0.sublist (List.Sublist.append (List.Sublist.refl _) (List.sublist_cons_self _ _))
  have hnin : r.2.num ∉ nums (pre ++ post) := fun z => by
   rw [BV] at z
   obtain ⟨_, h2, h3⟩ := List.nodup_append.mp hu0
   rcases List.mem_append.mp z with z | z
   ·exact h3 _ z _ List.mem_cons_self rfl
   ·exact (List.nodup_cons.mp h2).1 z
  have L1 : LgD A H1 lg bd (pre ++ post) := ⟨⟨dl, JB b1 nk hi⟩, d1, hu1⟩
  have hE1 : IsE A H1 r.1 r.2 := KR b1 nk hKr.isE
  have M1 : MdD H1 md ms := ⟨b1 _ _ S.n.symm S.M.d, S.M.u, Dm b1 nk S.M.t⟩
  have g1 := Ol b1 nk S.g
  have gt1 := Dm b1 nk S.gt
  have hlen : (pre ++ post).length <= 1000 := by
   have h1 := congrArg List.length S.e
   rw [List.length_map, List.length_map, he, List.length_append, List.length_cons] at h1
   have h2 := S.z
   rw [List.length_append] at h2
   rw [List.length_append]
   omega
  have hvm : ∀ {Hx : Hp}, Hx md = some (.dK (kvE ms)) -> DGet Hx md (.int n) (some (.ref q.1)) := fun {Hx} h => by
   have := Kz S.M.u hqm
   rw [hq, hrn] at this
   exact this ▸ DGet.k (k := Sum.inl n) h
  obtain ⟨dx, nv, hx1, hn1⟩ := id hE1
  obtain ⟨isK, hkK, hmT⟩ := Ys A r.2
  walk_at "nx"
  refine ⟨_, dx, _, hx1, _, hmT, IV r.2 nv, r.1, r.2, hkK, rfl, hE1, fun t nt H2 s2 ht h2 hn2 => ?_⟩
  have tq2 : TupE H2 q.1 r.2 := hq ▸ (M1.t q hqm).1.same s2
  refine ⟨_, hvm (s2 _ _ M1.d), Tf ⟨nt, h2, hn2⟩ tq2 ⟨false, rfl, ?_⟩⟩
  rw [if_neg (by decide)]
  refine ⟨lg, bd, r.1, pre ++ post, r.2, 1, rfl, L1.same s2, hlen, hE1.same s2, hgr, .inr ⟨.inl rfl, hnin⟩, fun H3 s3 => ⟨true, rfl, ?_⟩⟩
  rw [if_neg (by decide)]
  have S3 := s2.trans s3
  walk_at "nx"
  refine ⟨lg, bd, r.1, pre ++ post, r.2, 2, rfl, L1.same S3, hlen, hE1.same S3, hgr, .inr ⟨.inr rfl, hnin⟩, fun H4 s4 => ⟨true, rfl, ?_⟩⟩
  rw [if_neg (by decide)]
  have S4 := S3.trans s4
  have M4 := M1.same S4
  have g4 := S4 _ _ g1
  have hdrop : Il (kvE ms) (Sum.inl n) = kvE (pre' ++ post') := by
   rw [hm, <- hrn, <- hq]
   exact Px (by rw [<- hm]; exact S.M.u)
  have hvq : Gs (kvE ms) (Sum.inl n) = some (.ref q.1) := by
   have := Kz S.M.u hqm
   rwa [hq, hrn] at this
  have nk4 := Cu M4.d
  have hgm : gl ≠ md := fun z => Yj nk4 (z ▸ g4)
  walk_at "nx"
  refine ⟨.inl ⟨rfl, _, SqL.of g4⟩, .inl ⟨_, .inl M4.d⟩, _, M4.d, Sum.inl n, rfl, _, hvq, ?_⟩
  rw [hdrop]
  have b5 : But md H4 (upd H4 md (.dK (kvE (pre' ++ post')))) := Eb
  have d5 : (upd H4 md (.dK (kvE (pre' ++ post')))) md = some (.dK (kvE (pre' ++ post'))) := Ae
  generalize upd H4 md (.dK (kvE (pre' ++ post'))) = H5 at b5 d5
  have g5 := Ol b5 nk4 g4
  have hz := S.z
  rw [hm, List.length_append, List.length_append, List.length_cons] at hz
  refine ⟨_, g5, by rw [Bk, sizeLine_eq]; omega, ?_⟩
  walk_at "rdi"
  have L4 := L1.same S4
  have hbl : bd ≠ gl := fun z => by have := L4.d; rw [z, g4] at this; cases this
  have hml : md ≠ gl := Ne.symm hgm
  have hum : (nums (pre' ++ post' ++ (gs ++ [q]))).Nodup := by
   have hu := S.u
   have hp : (pre' ++ post' ++ (gs ++ [q])).Perm (ms ++ gs) := by
    rw [hm, <- List.append_assoc]
    refine (List.perm_append_singleton q _).trans ?_
    rw [List.append_assoc pre' (q :: post') gs, List.append_assoc pre' post' gs]
    exact List.perm_middle.symm
   exact (hp.map (fun r : Addr × Ent => r.2.num)).nodup_iff.mpr hu
  refine k _ (pre ++ post) (pre' ++ post') (gs ++ [q]) ?_ ⟨⟨?_, ?_, hu1⟩, ⟨?_, ?_, ?_⟩, fun x hx => ?_, ?_, S.n, ?_, ?_, hum, ?_⟩
  ·exact ((Off3.b b1).trans (Off3.of S4)).trans ((Off3.r b5).trans (Off3.s Eb))
  ·obtain ⟨dx', hi4⟩ := L4.i
   have h5 := JB b5 nk4 hi4
   exact ⟨dx', (Aj fun z => by rw [z, g5] at h5; cases h5).trans h5⟩
  ·exact (Aj hbl).trans (b5 _ _ S.n L4.d)
  ·exact (Aj hml).trans d5
  ·have := S.M.u
   rw [hm, BV, GJ] at this
   rw [BV]
   exact this.sublist (List.Sublist.append (List.Sublist.refl _) (List.sublist_cons_self _ _))
  ·exact Jr (VF (Dm b5 nk4 M4.t) fun x hx => by
    rw [hm]
    rcases List.mem_append.mp hx with hx | hx
    ·exact List.mem_append_left _ hx
    ·exact List.mem_append_right _ (List.mem_cons_of_mem _ hx)) g5
  ·have hxe : x ∈ es := by
    rw [he]
    rcases List.mem_append.mp hx with hx | hx
    ·exact List.mem_append_left _ hx
    ·exact List.mem_append_right _ (List.mem_cons_of_mem _ hx)
   exact ⟨(FQ b5 nk4 ((FQ b1 nk (S.k x hxe).1).same S4)).put g5, (S.k x hxe).2⟩
  ·rw [List.map_append, List.map_append, hm1, hm2]
  ·rw [Ae]; unfold Bj; rw [List.map_append]; rfl
  ·intro x hx
   rcases List.mem_append.mp hx with hx | hx
   ·exact Jr (Dm b5 nk4 (gt1.same S4)) g5 x hx
   ·obtain rfl := List.mem_singleton.mp hx
    exact Jr (Dm b5 nk4 M4.t) g5 x hqm
  ·rw [List.length_append, List.length_append, List.length_append, List.length_singleton]
   omega
end
end My
namespace My
open PySem L2 PyProof.Rows
section
variable {P : Program} {w : World} {K : Fg_} {mg : Str -> Option Value} {base : Heap} {A : Adr} {D : Fds}
local macro_rules | `(tactic| walk_at "nx") => `(tactic| ((try dsimp only); refine Bc fun u hu => ?_; rw [ap_seq]; walk_at "rdi"; subst hu))
theorem abS {t u : TS} {D : Ends} {σ : L2.St} {H : Hp} (P : L2.St -> Hp -> Prop) (k : ∀ σ' H', P σ' H' -> u D σ' H') (h : ∀ N : L2.St -> Hp -> Prop, (∀ σ' H', P σ' H' -> N σ' H') -> t { D with nx := N } σ H) : acD t u D σ H := h (u D) k
def Lx (A : Adr) : Sp := fun vs H Q _ => ∃ (gl lg bd md : Addr) (es ms gs : EL) (n c : Int), vs = [.ref lg, .ref md, .int n, .int c] /\ St70 A gl H lg bd md es ms gs /\ n ∈ nums ms /\
 ∀ H' es' ms' gs', Off3 bd md gl H H' -> St70 A gl H' lg bd md es' ms' gs' -> Q (.bl true) H'
theorem Lf (T : Txt K mg A D) : FnOk P w K mg base CX0 9 A.ui D.ui ["_law_ledger", "_law_model", "_law_number", "_law_cell"] (Lx A) := by
 refine T.xD.ok sc__law_corrected (fun vs H Q E h => ?_) (fun cdv A' outer s0 H vs Q E hr h => ?_)
 ·obtain ⟨gl, lg, bd, md, es, ms, gs, n, c, rfl, _⟩ := h; rfl
 ·obtain ⟨gl, lg, bd, md, es, ms, gs, n, c, rfl, S, hn, k⟩ := h
  refine ⟨_, (Ac (Bd (i := 4) sc__law_corrected.nd rfl (Or.inl rfl) (Bw (Aa Aw (Aa (Az Ci (pv 3) Ab) (Aa (pv 2) (Aa Aw (Aa (Az Cj Ab (Az Ci (pv 3) Ab)) (Aa (Az Ci (Az Ft (pv 3) Ab) Ab) (Aa (Az Ci (Az Ft (pv 3) Ab) Ab) Ad)))))))))
   (Ac (Bq (Al (Ck) (Az Ci (pv 3) Ab) Ab (Ay _)) (Af (Bd (i := 4) sc__law_corrected.nd rfl (Or.inl rfl) (Bw (Aa Aw (Aa (Az Ci (pv 3) Ab) (Aa (pv 2) (Aa Aw (Aa Ab (Aa (Bw (Aa (Bw (Aa (Az Ci (pv 3) Ab) (Aa Ab Ad))) (Aa (Bw (Aa (Az Cj Ab (Az Ci (pv 3) Ab)) (Aa Ab Ad))) Ad))) Ad))))))))) Av)
   (Ac (Bd (i := 5) sc__law_corrected.nd rfl (Or.inl rfl) (Jp (pv 0) (.cons T.yI T.zZ (Ho (K := K) T) (hr.mono (by decide)) (Ik T) .nil) aak (Aa (Ai (Gg (K := K) T) (hr.mono (by decide)) (by rfl) T.xv T.xw (Hq T) .nil Ak (Aa (pv 4) Ad)) Ad)))
   (Ac (Bq (Al (Nk (K := K) hr) (Bt (pv 5) (.cons T.yS T.zQ (Gb (K := K) T) (hr.mono (by decide)) (GD T) (.cons T.y3 T.zR (Ew (K := K) T) (hr.mono (by decide)) (FT T) (.cons T.zf T.zS (Ez (K := K) T) (hr.mono (by decide)) (FJ T) (.cons T.zn T.zT (Fb (K := K) T) (hr.mono (by decide)) (FP T) (.cons T.zv T.zU (DW (K := K) T) (hr.mono (by decide)) (Ey T) (.cons T.yK T.zV (CK (K := K) T) (hr.mono (by decide)) (CW T) .nil)))))) Ak) (JK (Ff hr) (pv 1) (pv 2) (fun _ _ => rfl)) (Ay _)) (Af (Am HF)) Av)
   (Ac (Gy (Ff hr) (pv 1) (pv 2) (pv 4) rfl)
   (Af (Am HF))))))), ?_⟩
  rw [<- HN S.e] at hn
  obtain ⟨dl, hi⟩ := S.L.i
  simp only [start_eq]
  walk_at "nx"
  have hnr : 0 <= n /\ n <= 1000000 := by
   obtain ⟨pre, r, post, he, hrn, _⟩ := EY hn
   have hg := (S.k r (by rw [he]; exact List.mem_append_right _ List.mem_cons_self)).2
   rw [<- hrn]
   cases hc : r.2 <;> (rw [hc] at hg; exact ⟨hg.1.n0, hg.1.n1⟩)
  have lz : ∀ n : Nat, n <= 1000 -> n <= sizeLine := fun n h => by rw [sizeLine_eq]; omega
  refine ⟨by decide, by decide, ⟨by decide, by decide⟩, by decide, ⟨by decide, by decide⟩, by decide, lz _ (by decide), fun t1 ht1 => ?_⟩
  have nore : Nm (Str.ofString "ore") := by unfold Nm; decide +kernel
  have ntin : Nm (Str.ofString "tin") := by unfold Nm; decide +kernel
  refine abS (fun σ H' => ∃ (t : Addr) (e : Ent), σ = [some (.ref lg), some (.ref md), some (.int n), some (.int c), some (.ref t), Option.none] /\ Same H H' /\ TupE H' t e /\ e.good /\ e.num = n) ?_ ?_
  ·rintro σ H1 ⟨t, e, rfl, s1, hT, hg, hen⟩
   have L1 := S.L.same s1
   obtain ⟨dl, hi1⟩ := L1.i
   have hlen : es.length <= 1000 := by
    have h1 := congrArg List.length S.e
    rw [List.length_map, List.length_map] at h1
    have h2 := S.z
    rw [List.length_append] at h2
    omega
   walk_at "nx"
   refine ⟨_, dl, _, hi1, _, List.mem_cons_self, rfl, t, e, rfl, hT, hg, fun x B H2 sB hMd => ?_⟩
   obtain ⟨dy, ny, hN, _⟩ := id hMd
   have S2 := (s1.trans sB).trans hN.s
   refine ⟨lg, bd, x, es, e, rfl, S.L.same S2, hlen, hMd.isE, hg, fun z => (z (by rw [hen]; exact hn)).elim, fun pre r post he hrn y H3 b3 d3 hc3 => ?_⟩
   have hSe := S.e
   rw [he] at hSe
   obtain ⟨pre', q, post', hm, hm1, hq, hm2⟩ := QQ hSe
   have hrm : r ∈ es := by rw [he]; exact List.mem_append_right _ List.mem_cons_self
   have hqm : q ∈ ms := by rw [hm]; exact List.mem_append_right _ List.mem_cons_self
   have hqn : q.2.num = n := by rw [hq, hrn, hen]
   have L2 := S.L.same S2
   have nk2 := Cu L2.d
   have M3 : MdD H3 md ms := ⟨b3 _ _ S.n.symm (S2 _ _ S.M.d), S.M.u, Dm b3 nk2 (S.M.t.same S2)⟩
   have hE3 := (FQ b3 nk2 ((S.k r hrm).1.same S2)).isE
   have hvq : Gs (kvE ms) (Sum.inl n) = some (.ref q.1) := by
    have := Kz S.M.u hqm
    rwa [hqn] at this
   obtain ⟨dx, nv, hx3, hn3⟩ := id hE3
   obtain ⟨isK, hkK, hmT⟩ := Ys A r.2
   walk_at "nx"
   refine ⟨_, dx, _, hx3, _, hmT, IV r.2 nv, r.1, r.2, hkK, rfl, hE3, fun t2 nt H4 s4 ht4 h4 hn4 => ?_⟩
   have M4 := M3.same s4
   have tq4 : TupE H4 q.1 r.2 := hq ▸ (M4.t q hqm).1
   refine ⟨_, hvq ▸ DGet.k (k := Sum.inl n) M4.d, Tf ⟨nt, h4, hn4⟩ tq4 ⟨false, rfl, ?_⟩⟩
   rw [if_neg (by decide)]
   have hz := S.z
   rw [hm, List.length_append, List.length_append, List.length_cons] at hz
   have nk4 := Cu M4.d
   walk_at "nx"
   refine ⟨_, DPut.k (k := Sum.inl n) M4.d (by rw [Hu, hm, List.length_append, List.length_cons, sizeLine_eq]; omega), ?_⟩
   have hpk : putK (kvE ms) (Sum.inl n) (.ref t) = kvE (pre' ++ (t, e) :: post') := by
    have hu := S.M.u
    rw [hm] at hu
    rw [hm, <- hqn]
    exact Wf hu (by rw [hen, hqn])
   rw [hpk]
   walk_at "rdi"
   have b5 : But md H4 (upd H4 md (.dK (kvE (pre' ++ (t, e) :: post')))) := Eb
   have d5 : (upd H4 md (.dK (kvE (pre' ++ (t, e) :: post')))) md = some (.dK (kvE (pre' ++ (t, e) :: post'))) := Ae
   generalize upd H4 md (.dK (kvE (pre' ++ (t, e) :: post'))) = H5 at b5 d5
   have hnm : nums (pre' ++ (t, e) :: post') = nums ms := by rw [hm, BV, BV, GJ, GJ, hqn, <- hen]
   have hne : nums (pre ++ (y, e) :: post) = nums es := by rw [he, BV, BV, GJ, GJ, hrn]
   have hT5 : TupE H5 t e := Iz b5 nk4 ((Iz b3 nk2 ((hT.same sB).same hN.s)).same s4)
   refine k H5 (pre ++ (y, e) :: post) (pre' ++ (t, e) :: post') gs ?_ ⟨⟨?_, ?_, by rw [hne]; exact S.L.u⟩, ⟨d5, by rw [hnm]; exact S.M.u, fun x hx => ?_⟩, fun x hx => ?_, ?_, S.n, ?_, ?_, ?_, ?_⟩
   ·exact (Off3.of S2).trans ((Off3.b b3).trans ((Off3.of s4).trans (Off3.r b5)))
   ·obtain ⟨dx', hi2⟩ := L2.i
    exact ⟨dx', JB b5 nk4 (s4 _ _ (JB b3 nk2 hi2))⟩
   ·exact b5 _ _ S.n (s4 _ _ d3)
   ·by_cases hxt : x = (t, e)
    ·subst hxt; exact ⟨hT5, hg⟩
    ·refine Dm b5 nk4 M4.t x ?_
     rw [hm]
     rcases List.mem_append.mp hx with hx | hx
     ·exact List.mem_append_left _ hx
     ·rcases List.mem_cons.mp hx with hx | hx
      ·exact (hxt hx).elim
      ·exact List.mem_append_right _ (List.mem_cons_of_mem _ hx)
   ·by_cases hxt : x = (y, e)
    ·subst hxt; exact ⟨FQ b5 nk4 ((hc3.k gl _ (S2 _ _ S.g)).same s4), hg⟩
    ·have hxe : x ∈ es := by
      rw [he]
      rcases List.mem_append.mp hx with hx | hx
      ·exact List.mem_append_left _ hx
      ·rcases List.mem_cons.mp hx with hx | hx
       ·exact (hxt hx).elim
       ·exact List.mem_append_right _ (List.mem_cons_of_mem _ hx)
     exact ⟨FQ b5 nk4 ((FQ b3 nk2 ((S.k x hxe).1.same S2)).same s4), (S.k x hxe).2⟩
   ·rw [List.map_append, List.map_append, List.map_cons, List.map_cons, hm1, hm2]
   ·exact Ol b5 nk4 (s4 _ _ (Ol b3 nk2 (S2 _ _ S.g)))
   ·exact Dm b5 nk4 ((Dm b3 nk2 (S.gt.same S2)).same s4)
   ·rw [BV, hnm, <- BV]; exact S.u
   ·rw [List.length_append, List.length_append, List.length_cons]; omega
  ·intro N hN
   have s1 := Same.new (o := .tup [V.str (Str.ofString "buy"), V.int (c % 31), V.int n, V.str (Str.ofString "ore"), V.int (1 + c % 9), V.int (c / 9 % 100), V.int (c / 900 % 5)]) ht1
   have h1 : (upd H t1 (.tup [V.str (Str.ofString "buy"), V.int (c % 31), V.int n, V.str (Str.ofString "ore"), V.int (1 + c % 9), V.int (c / 9 % 100), V.int (c / 900 % 5)])) t1 = some (.tup [V.str (Str.ofString "buy"), V.int (c % 31), V.int n, V.str (Str.ofString "ore"), V.int (1 + c % 9), V.int (c / 9 % 100), V.int (c / 900 % 5)]) := Ae
   generalize upd H t1 (.tup [V.str (Str.ofString "buy"), V.int (c % 31), V.int n, V.str (Str.ofString "ore"), V.int (1 + c % 9), V.int (c / 9 % 100), V.int (c / 900 % 5)]) = H1 at s1 h1
   walk_at "rdi"
   refine ⟨by decide, ?_⟩
   split
   ·refine ⟨by decide, by decide, lz _ (by decide), fun a1 g1 => ⟨by decide, lz _ (by decide), fun a2 g2 => ⟨lz _ (by decide), fun a3 g3 => ⟨lz _ (by decide), fun a4 g4 => ?_⟩⟩⟩⟩
    have q1 := Same.new (o := .tup [V.int (c % 50), V.int 2]) g1
    have q2 := Same.new (o := .tup [V.int (60 + c % 7), V.int 3]) g2
    have q3 := Same.new (o := .tup [V.ref a1, V.ref a2]) g3
    have q4 := Same.new (o := .tup [V.str (Str.ofString "give"), V.int (c % 31), V.int n, V.str (Str.ofString "tin"), V.int 5, V.ref a3]) g4
    refine hN _ _ ⟨a4, .give (c % 31) n (Str.ofString "tin") 5 (some [(a1, c % 50, 2), (a2, 60 + c % 7, 3)]), rfl, s1.trans (q1.trans (q2.trans (q3.trans q4))), ⟨.ref a3, Ae, a3, rfl, q4 _ _ Ae, fun r hr => ?_⟩, ⟨⟨by omega, by omega, hnr.1, hnr.2, ntin⟩, ⟨by decide, by decide⟩, ⟨by show 2 <= 5; decide, fun r hr => ?_, ?_, rfl⟩⟩, rfl⟩
    ·rcases List.mem_cons.mp hr with rfl | hr
     ·exact (q2.trans (q3.trans q4)) _ _ Ae
     ·obtain rfl := List.mem_singleton.mp hr
      exact (q3.trans q4) _ _ Ae
    ·rcases List.mem_cons.mp hr with rfl | hr
     ·exact ⟨by show 0 <= c % 50; omega, by show c % 50 <= _; omega, by show (1 : Int) <= 2; decide, by show (2 : Int) <= 5; decide⟩
     ·obtain rfl := List.mem_singleton.mp hr
      exact ⟨by show 0 <= 60 + c % 7; omega, by show 60 + c % 7 <= _; omega, by show (1 : Int) <= 3; decide, by show (3 : Int) <= 5; decide⟩
    ·refine List.nodup_cons.mpr ⟨fun h => ?_, List.nodup_cons.mpr ⟨List.not_mem_nil, .nil⟩⟩
     have : c % 50 = 60 + c % 7 := List.mem_singleton.mp h
     omega
   ·refine hN _ _ ⟨t1, .buy (c % 31) n (Str.ofString "ore") (1 + c % 9) (c / 9 % 100) (c / 900 % 5), rfl, s1, ⟨.non, h1, rfl⟩, ⟨⟨by omega, by omega, hnr.1, hnr.2, nore⟩, ⟨by omega, by omega⟩, ⟨by omega, by omega⟩, ⟨by omega, by omega⟩⟩, rfl⟩
end
end My
namespace My
open PySem L2 PyProof.Rows
section
variable {P : Program} {w : World} {K : Fg_} {mg : Str -> Option Value} {base : Heap} {A : Adr} {D : Fds}
local macro_rules | `(tactic| walk_at "nx") => `(tactic| ((try dsimp only); refine Bc fun u hu => ?_; rw [ap_seq]; walk_at "rdi"; subst hu))
def RM (A : Adr) : Sp := fun vs H Q _ => ∃ (gl lg bd md : Addr) (es ms gs : EL) (c : Int), vs = [.ref lg, .ref md, .ref gl, .int c] /\ St70 A gl H lg bd md es ms gs /\
 ∀ H' es' ms' gs', Off3 bd md gl H H' -> St70 A gl H' lg bd md es' ms' gs' -> Q (.bl true) H'
theorem Tu (T : Txt K mg A D) : FnOk P w K mg base CX0 11 A.uk D.uk ["_law_ledger", "_law_model", "_law_gone", "_law_cell"] (RM A) := by
 refine T.xJ.ok sc__law_done (fun vs H Q E h => ?_) (fun cdv A' outer s0 H vs Q E hr h => ?_)
 ·obtain ⟨gl, lg, bd, md, es, ms, gs, c, rfl, _⟩ := h; rfl
 ·obtain ⟨gl, lg, bd, md, es, ms, gs, c, rfl, S, k⟩ := h
  refine ⟨_, (Ac (Bd (i := 4) sc__law_done.nd rfl (Or.inl rfl) (Az Ci (Az Dp (pv 3) Ab) Ab))
   (Ac (Bd (i := 5) sc__law_done.nd rfl (Or.inl rfl) (Bf (UJ rfl) (by rfl) T.xO (by decide +kernel) (Aa (pv 1) Ad)))
   (Ac (Bq (PW.pt (Sh (Al (Ck) (Az Ci (pv 4) Ab) Ab (Ay _)) (Og (Al (Tv) (Bf (DX (K := K)) (by rfl) T.xM (by decide +kernel) (Aa (pv 2) Ad)) Ab (Ay _))))) (Ac (Bd (i := 6) sc__law_done.nd rfl (Or.inl rfl) (Qo (K := K) PySem.F.plainAttrs_list PySem.F.slot_list_pop PySem.F.type_list_pop ZX (pv 2) (Aa (Az Ci (Az Ft (pv 4) Ab) (Bf (DX (K := K)) (by rfl) T.xM (by decide +kernel) (Aa (pv 2) Ad))) Ad)))
    (Ac (Bq (Al (Um) (Jp (pv 0) (.cons T.yI T.zX (FZ (K := K) T) (hr.mono (by decide)) (Gz T) .nil) aak (Aa (Ai (Gg (K := K) T) (hr.mono (by decide)) (by rfl) T.xv T.xw (Hq T) .nil Ak (Aa (pv 6) Ad)) Ad)) Jz (Ay _)) (Af (Am HF)) Av)
    (Ac (Gy (Ff hr) (pv 1) (Ao (Ah (K := K)) (pv 6) Ab (fun _ _ => rfl)) (pv 6) rfl)
    (Af (Am HF))))) Av)
   (Ac (Bq (Al (Ck) (Bf (DX (K := K)) (by rfl) T.xM (by decide +kernel) (Aa (pv 5) Ad)) Ab (Ay _)) (Af (Am HF)) Av)
   (Ac (Bd (i := 7) sc__law_done.nd rfl (Or.inl rfl) (Ao (Cv (K := K)) (pv 5) (Az Ci (Az Ft (pv 4) Ab) (Bf (DX (K := K)) (by rfl) T.xM (by decide +kernel) (Aa (pv 5) Ad))) (fun _ _ => rfl)))
   (Ac (Bq (Al (Ck) (Az Ci (pv 4) Ab) Ab (Ay _)) (Af (Am (Ai (PX (K := K) T) (hr.mono (by decide)) (by rfl) T.xE T.xF (QV T) .nil Ak (Aa (pv 0) (Aa (pv 1) (Aa (pv 2) (Aa (pv 7) Ad))))))) Av)
   (Ac (Bq (Al (Ck) (Az Ci (pv 4) Ab) Ab (Ay _)) (Af (Am (Ai (DG (K := K) T) (hr.mono (by decide)) (by rfl) T.xl T.xm (El T) .nil Ak (Aa (pv 0) (Aa Ab (Aa (Ai (Gg (K := K) T) (hr.mono (by decide)) (by rfl) T.xv T.xw (Hq T) .nil Ak (Aa (JK (Ff hr) (pv 1) (pv 7) (fun _ _ => rfl)) Ad)) Ad)))))) Av)
   (Af (Am (Ai (Lf (K := K) T) (hr.mono (by decide)) (by rfl) T.xB T.xC (Mv T) .nil Ak (Aa (pv 0) (Aa (pv 1) (Aa (pv 7) (Aa (Az Ci (pv 3) (Az Hh Ab Ab)) Ad)))))))))))))), ?_⟩
  simp only [start_eq]
  walk_at "nx"
  refine ⟨CMulU.r (by decide) (by decide), by decide, ?_⟩
  walk_at "nx"
  have hgz := S.z
  rw [List.length_append] at hgz
  have hkv : kvE ms = (ms.map fun r => (r.2.num, V.ref r.1)).map fun kv => (Sum.inl kv.1, kv.2) := by unfold kvE; rw [List.map_map]; rfl
  refine ⟨ms.map fun r => (r.2.num, V.ref r.1), by rw [S.M.d, hkv], by rw [List.length_map]; omega, fun p ks hp hpm _ => ?_⟩
  rw [List.map_map] at hpm
  have hpm : ks.Perm (nums ms) := hpm
  have s1 := Same.new (o := .lst (ks.map V.int)) hp
  have h1 : (upd H p (.lst (ks.map V.int))) p = some (.lst (ks.map V.int)) := Ae
  generalize upd H p (.lst (ks.map V.int)) = H1 at s1 h1
  have S1 := S.same s1
  generalize c * 48271 % 2147483647 = n0
  (try dsimp only)
  refine Bc fun u hu => ?_
  rw [ap_seq]
  walk_at "rdi"
  have hlen : es.length <= 1000 := by
   have h1 := congrArg List.length S.e
   rw [List.length_map, List.length_map] at h1
   omega
  have rest : u { nx := fun _ H' => Q V.non H', rt := Q } [some (V.ref lg), some (V.ref md), some (V.ref gl), some (V.int c), some (V.int n0), some (V.ref p), Option.none, Option.none] H1 := by
   subst hu
   walk_at "nx"
   refine ⟨_, .inl (SqL.of h1), ?_⟩
   rw [List.length_map]
   split
   ·exact k H1 es ms gs (Off3.of s1) S1
   ·rename_i hz0
    walk_at "nx"
    have hpos : 0 < ks.length := by omega
    have e0 := Int.emod_nonneg (n0 / 4) (show (ks.length : Int) ≠ 0 by omega)
    have e1 := Int.emod_lt_of_pos (n0 / 4) (show (0 : Int) < ks.length by omega)
    obtain ⟨j, hj⟩ : ∃ j : Nat, n0 / 4 % (ks.length : Int) = j := ⟨_, (Int.toNat_of_nonneg e0).symm⟩
    have hjl : j < ks.length := by omega
    refine ⟨⟨by decide, by decide⟩, _, .inl (SqL.of h1), by rw [List.length_map]; omega, _, SqL.of h1, .int ks[j], ?_, ?_⟩
    ·rw [List.length_map, hj]
     exact JG (by rw [List.getElem?_map, List.getElem?_eq_getElem hjl]; rfl)
    have hmem : ks[j] ∈ nums ms := hpm.mem_iff.mp (List.getElem_mem hjl)
    generalize ks[j] = ch at hmem
    walk_at "nx"
    refine ⟨by decide, ?_⟩
    split
    ·exact ⟨gl, lg, bd, md, es, ms, gs, ch, rfl, S1, hmem, fun H' es' ms' gs' o3 st => k H' es' ms' gs' ((Off3.of s1).trans o3) st⟩
    ·walk_at "nx"
     refine ⟨by decide, ?_⟩
     split
     ·obtain ⟨pre, q, post, hm, hqn, _⟩ := EY hmem
      have hqm : q ∈ ms := by rw [hm]; exact List.mem_append_right _ List.mem_cons_self
      have hv := Kz S.M.u hqm
      rw [hqn] at hv
      refine ⟨_, hv ▸ DGet.k (k := Sum.inl ch) S1.M.d, q.1, q.2, rfl, (S1.M.t q hqm).1, (S1.M.t q hqm).2, fun x B H2 sB hMd => ?_⟩
      obtain ⟨dy, ny, hN, _⟩ := id hMd
      have S2 := sB.trans hN.s
      refine ⟨lg, bd, x, es, q.2, 0, rfl, S1.L.same S2, hlen, hMd.isE, (S1.M.t q hqm).2, .inl ⟨rfl, by rw [HN S.e, hqn]; exact hmem⟩, fun H3 s3 => ?_⟩
      exact k H3 es ms gs (Off3.of (s1.trans (S2.trans s3))) (S1.same (S2.trans s3))
     ·rw [ap_ret]
      walk_at "rdi"
      exact ⟨Km (by decide) (by decide), by decide, gl, lg, bd, md, es, ms, gs, ch, _, rfl, S1, hmem, fun H' es' ms' gs' o3 st => k H' es' ms' gs' ((Off3.of s1).trans o3) st⟩
  refine ⟨by decide, ?_⟩
  split
  ·refine ⟨_, .inl (SqL.of S1.g), ?_⟩
   rw [Bk]
   split
   ·rename_i hgp
    have e0 := Int.emod_nonneg (n0 / 4) (show (gs.length : Int) ≠ 0 by omega)
    have e1 := Int.emod_lt_of_pos (n0 / 4) (show (0 : Int) < gs.length by omega)
    obtain ⟨j, hj⟩ : ∃ j : Nat, n0 / 4 % (gs.length : Int) = j := ⟨_, (Int.toNat_of_nonneg e0).symm⟩
    have hjl : j < gs.length := by omega
    walk_at "nx"
    obtain ⟨g, hgj⟩ : ∃ g, gs[j]? = some g := ⟨_, List.getElem?_eq_getElem hjl⟩
    have hgm : g ∈ gs := List.mem_of_getElem? hgj
    have hsi : seqIndex? (j : Int) (Bj gs).length = some j := by
     rw [Bk, acG (by omega) (by omega)]
     simp
    refine ⟨.inl ⟨rfl, _, SqL.of S1.g⟩, ⟨by decide, by decide⟩, _, .inl (SqL.of S1.g), by rw [Bk]; omega, gl, Bj gs, (j : Int), j, .ref g.1, rfl, by rw [Bk, hj], S1.g, by omega, by omega, hsi, by unfold Bj; rw [List.getElem?_map, hgj]; rfl, ?_⟩
    rw [Qn]
    have hperm := Qz hgj
    generalize gs.eraseIdx j = gs' at hperm
    have b2 : But gl H1 (upd H1 gl (.lst (Bj gs'))) := Eb
    have g2 : (upd H1 gl (.lst (Bj gs'))) gl = some (.lst (Bj gs')) := Ae
    have R2 : ∀ {tl : EL}, RowsAt H1 tl -> RowsAt (upd H1 gl (.lst (Bj gs'))) tl := fun h => Jr h S1.g
    have K2 : ∀ r ∈ es, Kept A gl (upd H1 gl (.lst (Bj gs'))) r.1 r.2 := fun r hr => (S1.k r hr).1.put S1.g
    generalize upd H1 gl (.lst (Bj gs')) = H2 at b2 g2 R2 K2
    have hbl : bd ≠ gl := fun z => by have := S1.L.d; rw [z, S1.g] at this; cases this
    have hml : md ≠ gl := fun z => by have := S1.M.d; rw [z, S1.g] at this; cases this
    have L2 : LgD A H2 lg bd es := ⟨let ⟨dx, e⟩ := S1.L.i; ⟨dx, b2 _ _ (fun z => by rw [z, S1.g] at e; cases e) e⟩, b2 _ _ hbl S1.L.d, S1.L.u⟩
    have M2 : MdD H2 md ms := ⟨b2 _ _ hml S1.M.d, S1.M.u, R2 S1.M.t⟩
    have T2 := R2 S1.gt g hgm
    have hnin : g.2.num ∉ nums es := fun z => by
     rw [HN S.e] at z
     have hu := S.u
     rw [BV] at hu
     exact (List.nodup_append.mp hu).2.2 _ z _ (List.mem_map.mpr ⟨g, hgm, rfl⟩) rfl
    obtain ⟨dl, hi2⟩ := L2.i
    walk_at "nx"
    refine ⟨_, dl, _, hi2, _, List.mem_cons_self, rfl, g.1, g.2, rfl, T2.1, T2.2, fun x B H3 sB hMd => ?_⟩
    obtain ⟨dy, ny, hN, _⟩ := id hMd
    have s3 := sB.trans hN.s
    refine ⟨lg, bd, x, es, g.2, rfl, L2.same s3, hlen, hMd.isE, T2.2, fun z => (hnin z).elim, fun _ y H4 b4 d4 hc4 => ?_⟩
    dsimp only
    rw [if_neg (fun z : ¬ V.non = V.non => z rfl)]
    have nk3 := Cu (L2.same s3).d
    have M4 : MdD H4 md ms := ⟨b4 _ _ S.n.symm (s3 _ _ M2.d), M2.u, Dm b4 nk3 (M2.t.same s3)⟩
    have T4 : TupE H4 g.1 g.2 := Iz b4 nk3 (T2.1.same s3)
    have nk4 := Cu M4.d
    obtain ⟨nt, ht4, _⟩ := id T4
    have a2 : atI (V.str g.2.word :: g.2.args nt) 2 = some (.int g.2.num) := by cases g.2 <;> rfl
    have hninm : g.2.num ∉ nums ms := by rw [<- HN S.e]; exact hnin
    walk_at "nx"
    refine ⟨_, SqT.of ht4, _, a2, _, DPut.k (k := Sum.inl g.2.num) M4.d (by rw [Hu, sizeLine_eq]; omega), ?_⟩
    rw [RD hninm]
    walk_at "rdi"
    have b5 : But md H4 (upd H4 md (.dK (kvE (ms ++ [g])))) := Eb
    have d5 : (upd H4 md (.dK (kvE (ms ++ [g])))) md = some (.dK (kvE (ms ++ [g]))) := Ae
    generalize upd H4 md (.dK (kvE (ms ++ [g]))) = H5 at b5 d5
    have hp2 : (ms ++ [g] ++ gs').Perm (ms ++ gs) := by
     rw [List.append_assoc]
     exact hperm.append_left ms
    have hu1 : (nums (es ++ [(y, g.2)])).Nodup := by
     rw [BV]
     refine List.nodup_append.mpr ⟨S.L.u, List.nodup_cons.mpr ⟨List.not_mem_nil, .nil⟩, fun a ha b hb => ?_⟩
     have : b = g.2.num := List.mem_singleton.mp hb
     rw [this]
     exact fun z => hnin (z ▸ ha)
    refine k H5 (es ++ [(y, g.2)]) (ms ++ [g]) gs' ?_ ⟨⟨?_, b5 _ _ S.n d4, hu1⟩, ⟨d5, ?_, fun x hx => ?_⟩, fun x hx => ?_, ?_, S.n, ?_, ?_, ?_, ?_⟩
    ·exact (Off3.of s1).trans ((Off3.s b2).trans ((Off3.of s3).trans ((Off3.b b4).trans (Off3.r b5))))
    ·obtain ⟨dx', hi3⟩ := (L2.same s3).i
     exact ⟨dx', JB b5 nk4 (JB b4 nk3 hi3)⟩
    ·rw [<- HN (es := es ++ [(y, g.2)]) (by rw [List.map_append, List.map_append, S.e]; rfl)]; exact hu1
    ·rcases List.mem_append.mp hx with hx | hx
     ·exact Dm b5 nk4 M4.t x hx
     ·obtain rfl := List.mem_singleton.mp hx
      exact ⟨Iz b5 nk4 T4, T2.2⟩
    ·rcases List.mem_append.mp hx with hx | hx
     ·exact ⟨FQ b5 nk4 (FQ b4 nk3 ((K2 x hx).same s3)), (S.k x hx).2⟩
     ·obtain rfl := List.mem_singleton.mp hx
      exact ⟨FQ b5 nk4 (hc4.k gl _ (s3 _ _ g2)), T2.2⟩
    ·rw [List.map_append, List.map_append, S.e]; rfl
    ·exact Ol b5 nk4 (Ol b4 nk3 (s3 _ _ g2))
    ·exact Dm b5 nk4 (Dm b4 nk3 ((R2 (VF S1.gt fun r hr => hperm.mem_iff.mp (List.mem_cons_of_mem _ hr))).same s3))
    ·exact (hp2.map (fun r : Addr × Ent => r.2.num)).nodup_iff.mpr S.u
    ·rw [hp2.length_eq]; exact S.z
   ·exact rest
  ·exact rest
end
end My
namespace My
open PySem L2 PyProof.Rows
section
variable {P : Program} {w : World} {K : Fg_} {mg : Str -> Option Value} {base : Heap} {A : Adr} {D : Fds}
local macro_rules | `(tactic| walk_at "nx") => `(tactic| ((try dsimp only); rw [ap_seq]; walk_at "rdi"))
structure Dg (B H : Hp) (l : Addr) (c : Int) : Prop where
 s : But l B H
 n : ∃ c0, B l = some (.lst [.int c0])
 h : H l = some (.lst [.int c])
theorem Dg.of {H : Hp} {l : Addr} {c : Int} (h : H l = some (.lst [.int c])) : Dg H H l c := ⟨fun _ _ _ e => e, ⟨c, h⟩, h⟩
theorem Dg.trans {B H H' : Hp} {l : Addr} {c c' : Int} (h : Dg B H l c) (g : Dg H H' l c') : Dg B H' l c' := ⟨fun b o n e => g.s b o n (h.s b o n e), h.n, g.h⟩
theorem Dg.same {B H H' : Hp} {l : Addr} {c : Int} (h : Dg B H l c) (s : Same H H') : Dg B H' l c := ⟨fun b o n e => s _ _ (h.s b o n e), h.n, s _ _ h.h⟩
theorem Dg.t {B H : Hp} {l b : Addr} {c : Int} {xs : List V} (h : Dg B H l c) (e : B b = some (.tup xs)) : H b = some (.tup xs) := h.s b _ (fun z => by obtain ⟨c0, g⟩ := h.n; rw [z, g] at e; cases e) e
theorem Dg.d {B H : Hp} {l b : Addr} {c : Int} {xs : List (Key × V)} (h : Dg B H l c) (e : B b = some (.dK xs)) : H b = some (.dK xs) := h.s b _ (fun z => by obtain ⟨c0, g⟩ := h.n; rw [z, g] at e; cases e) e
theorem Dg.off {B0 B H : Hp} {l : Addr} {c : Int} (h : Dg B H l c) (s : Same B0 B) (n : B0 l = Option.none) : Same B0 H := fun b o e => h.s b o (fun z => by rw [z, n] at e; cases e) (s _ _ e)
theorem Yh {i j : Int} (h0 : 0 < j) (h1 : j < 10 ^ 30) : abI i j := by
 refine ⟨h0, ?_⟩
 have : j.natAbs < 2 ^ 100 := by omega
 exact Nat.lt_of_lt_of_le this (Nat.pow_le_pow_right (by decide) (by decide))
def Iv : Sp := fun vs H Q _ => ∃ (l : Addr) (c m : Int), vs = [.ref l, .int m] /\ H l = some (.lst [.int c]) /\ 0 < m /\ m < 10 ^ 30 /\ ∀ H', Dg H H' l (c / m) -> Q (.int (c % m)) H'
theorem Aq (T : Txt K mg A D) : FnOk P w K mg base CX0 1 A.sJ D.sJ ["_law_digits", "_law_many"] Iv := by
 refine T.va.ok sc__law_take (fun vs H Q E h => ?_) (fun cdv A' outer s0 H vs Q E hr h => ?_)
 ·obtain ⟨l, c, m, rfl, _⟩ := h; rfl
 ·obtain ⟨l, c, m, rfl, hl, h0, h1, k⟩ := h
  refine ⟨_, (Ac (Bd (i := 2) sc__law_take.nd rfl (Or.inl rfl) (Az Ci (Ao (Cv (K := K)) (pv 0) Ab (fun _ _ => rfl)) (pv 1)))
   (Ac (Yi (Az Ft (Ao (Cv (K := K)) (pv 0) Ab (fun _ _ => rfl)) (pv 1)) (acX (pv 0) Ab set_list))
   (Af (Am (pv 2))))), ?_⟩
  simp only [start_eq]
  walk_at "nx"
  refine ⟨_, SqL.of hl, _, rfl, _, rfl, h0, ?_⟩
  walk_at "nx"
  refine ⟨_, SqL.of hl, _, rfl, _, rfl, Yh h0 h1, ?_⟩
  unfold aey
  walk_at "rdi"
  exact ⟨l, _, 0, 0, rfl, rfl, hl, rfl, k _ ⟨fun b o n e => (Aj n).trans e, ⟨c, hl⟩, Ae⟩⟩
def Rw : Sp := fun vs H Q _ => ∃ (c k : Int), vs = [.int c, .int k] /\ 0 <= k /\ k <= 1000 /\ ∀ r : Int, Q (.int r) H
theorem QX (T : Txt K mg A D) : FnOk P w K mg base CX0 1 A.sG D.sG ["_law_cell", "_law_k"] Rw := by
 refine T.uT.ok sc__law_mixed (fun vs H Q E h => ?_) (fun cdv A' outer s H vs Q E hr h => ?_)
 ·obtain ⟨c, k, rfl, _⟩ := h; rfl
 ·obtain ⟨c, k', rfl, hk0, hk, k⟩ := h
  refine ⟨_, (Ac (Bd (i := 2) sc__law_mixed.nd rfl (Or.inl rfl) Ab)
   (Ac (Mp PassesOwn.never rfl (Pz (by rfl) T.xL (Aa Ab Ad)) (Bm (i := 3) sc__law_mixed.nd rfl (Or.inl rfl))
    (Ac (Bd (i := 4) sc__law_mixed.nd rfl (Or.inl rfl) (Az Ci (Az Dp (Az Cj (Az Cj (Az Cj (Az Ci (pv 0) (Az Hh Ab Ab)) (Az Dp Ab (pv 1))) (Az Dp Ab (pv 3))) Ab) Ab) Ab))
    (Ac (Bd (i := 4) sc__law_mixed.nd rfl (Or.inl rfl) (Az Ci (Az Dp (Az Cj (Az Cj (pv 4) (Az Dp Ab (pv 3))) (pv 1)) Ab) Ab))
    (Af (Bd (i := 2) sc__law_mixed.nd rfl (Or.inl rfl) (Az Cj (Az Dp (pv 2) Ab) (pv 4)))))))
   (Af (Am (pv 2))))), ?_⟩
  simp only [start_eq]
  walk_at "nx"
  rw [ap_seq, ap_for]
  walk_at "rdi"
  refine ⟨by decide, by decide, ?_⟩
  refine ForP.range (lo := 0) (n := 8) (fun i σ H2 => H2 = H /\ ∃ (n : Int) (v3 v4 : Option V), σ = [some (.int c), some (.int k'), some (.int n), v3, v4]) ⟨rfl, 0, _, _, rfl⟩ ?_ ?_
  ·rintro i σ H2 hi ⟨rfl, n, v3, v4, rfl⟩
   walk_at "rdi"
   walk_at "nx"
   refine ⟨Km (by decide) (by decide), by decide, CMulU.l (by decide) (by decide), CMulU.l (by decide) (by decide), CMulU.r (by decide) (by decide), by decide, ?_⟩
   walk_at "nx"
   refine ⟨CMulU.l (by decide) (by decide), CMulU.r (by decide) (by decide), by decide, ?_⟩
   exact CMulU.r (by decide) (by decide)
  ·rintro σ H2 ⟨rfl, n, v3, v4, rfl⟩
   walk_at "rda"
   exact k n
def Gx : Sp := fun vs H Q _ => ∃ (l : Addr) (c : Int), vs = [.ref l] /\ H l = some (.lst [.int c]) /\ ∀ v c' H', Dg H H' l c' -> Rg 1 1000000 v -> Q (.int v) H'
theorem Jv (T : Txt K mg A D) : FnOk P w K mg base CX0 2 A.sO D.sO ["_law_digits"] Gx := by
 refine T.vq.ok Qe (fun vs H Q E h => ?_) (fun cdv A' outer s0 H vs Q E hr h => ?_)
 ·obtain ⟨l, c, rfl, _⟩ := h; rfl
 ·obtain ⟨l, c, rfl, hl, k⟩ := h
  refine ⟨_, (Af (Am (Az Cj Ab (Ai (Aq (K := K) T) (hr.mono (by decide)) (by rfl) T.u8 T.u9 (Ax T) .nil Ak (Aa (pv 0) (Aa (Ao (Cv (K := K)) (Dv (Aa Ab (Aa Ab (Aa (Az Hh Ab Ab) Ad)))) (Ai (Aq (K := K) T) (hr.mono (by decide)) (by rfl) T.u8 T.u9 (Ax T) .nil Ak (Aa (pv 0) (Aa Ab Ad))) (fun _ _ => rfl)) Ad)))))), ?_⟩
  simp only [start_eq]
  walk_at "rdi"
  refine ⟨Km (by decide) (by decide), by rw [sizeLine_eq]; decide, fun p hp => ?_⟩
  have hlp : p ≠ l := fun e => by rw [e, hl] at hp; cases hp
  refine ⟨l, c, 3, rfl, (Aj (Ne.symm hlp)).trans hl, by decide, by decide, fun H1 D1 => ?_⟩
  obtain ⟨v, hv, bv⟩ := at3 (i := c % 3) (a := 9) (b := 500) (c := 1000000) (lo := 1) (hi := 1000000) (Int.emod_nonneg _ (by decide)) (Int.emod_lt_of_pos _ (by decide)) ⟨by decide, by decide⟩ ⟨by decide, by decide⟩ ⟨by decide, by decide⟩
  refine ⟨_, _, rfl, SqL.of (D1.s _ _ hlp Ae), _, hv, l, _, v, rfl, D1.h, by have := bv.1; omega, by have := bv.2; omega, fun H2 D2 => ⟨_, rfl, k _ _ _ ⟨fun b o n e => (D1.trans D2).s b o n (Same.new hp _ _ e), ⟨c, hl⟩, D2.h⟩ ?_⟩⟩
  have h1 := Int.emod_nonneg (c / 3) (show v ≠ 0 by have := bv.1; omega)
  have h2 := Int.emod_lt_of_pos (c / 3) (show 0 < v by have := bv.1; omega)
  exact ⟨by omega, by have := bv.2; omega⟩
end
end My
namespace My
open PySem L2 PyProof.Rows
section
variable {P : Program} {w : World} {K : Fg_} {mg : Str -> Option Value} {base : Heap} {A : Adr} {D : Fds}
local macro_rules | `(tactic| walk_at "nx") => `(tactic| ((try dsimp only); rw [ap_seq]; walk_at "rdi"))
def KC : Sp := fun vs H Q _ => ∃ (l : Addr) (c : Int), vs = [.ref l] /\ H l = some (.lst [.int c]) /\ ∀ v c' H', Dg H H' l c' -> Rg 0 1000000000 v -> Q (.int v) H'
theorem KH (T : Txt K mg A D) : FnOk P w K mg base CX0 2 A.sN D.sN ["_law_digits"] KC := by
 refine T.vn.ok Rt (fun vs H Q E h => ?_) (fun cdv A' outer s0 H vs Q E hr h => ?_)
 ·obtain ⟨l, c, rfl, _⟩ := h; rfl
 ·obtain ⟨l, c, rfl, hl, k⟩ := h
  refine ⟨_, (Af (Am (Ai (Aq (K := K) T) (hr.mono (by decide)) (by rfl) T.u8 T.u9 (Ax T) .nil Ak (Aa (pv 0) (Aa (Ao (Cv (K := K)) (Dv (Aa Ab (Aa Ab (Aa (Az Cj (Az Hh Ab Ab) Ab) Ad)))) (Ai (Aq (K := K) T) (hr.mono (by decide)) (by rfl) T.u8 T.u9 (Ax T) .nil Ak (Aa (pv 0) (Aa Ab Ad))) (fun _ _ => rfl)) Ad))))), ?_⟩
  simp only [start_eq]
  walk_at "rdi"
  refine ⟨Km (by decide) (by decide), by rw [sizeLine_eq]; decide, fun p hp => ?_⟩
  have hlp : p ≠ l := fun e => by rw [e, hl] at hp; cases hp
  refine ⟨l, c, 3, rfl, (Aj (Ne.symm hlp)).trans hl, by decide, by decide, fun H1 D1 => ?_⟩
  obtain ⟨v, hv, bv⟩ := at3 (i := c % 3) (a := 10) (b := 100) (c := 1000000001) (lo := 1) (hi := 1000000001) (Int.emod_nonneg _ (by decide)) (Int.emod_lt_of_pos _ (by decide)) ⟨by decide, by decide⟩ ⟨by decide, by decide⟩ ⟨by decide, by decide⟩
  refine ⟨_, _, rfl, SqL.of (D1.s _ _ hlp Ae), _, hv, l, _, v, rfl, D1.h, by have := bv.1; omega, by have := bv.2; omega, fun H2 D2 => k _ _ _ ⟨fun b o n e => (D1.trans D2).s b o n (Same.new hp _ _ e), ⟨c, hl⟩, D2.h⟩ ?_⟩
  have h1 := Int.emod_nonneg (c / 3) (show v ≠ 0 by have := bv.1; omega)
  have h2 := Int.emod_lt_of_pos (c / 3) (show 0 < v by have := bv.1; omega)
  exact ⟨by omega, by have := bv.2; omega⟩
def Sv : Sp := fun vs H Q _ => ∃ (l : Addr) (c h : Int), vs = [.ref l, .int h] /\ H l = some (.lst [.int c]) /\ Rg 1 1000000000 h /\ ∀ v c' H', Dg H H' l c' -> Rg 1 h v -> Q (.int v) H'
theorem Mq (T : Txt K mg A D) : FnOk P w K mg base CX0 2 A.sM D.sM ["_law_digits", "_law_here"] Sv := by
 refine T.vj.ok TF (fun vs H Q E h => ?_) (fun cdv A' outer s0 H vs Q E hr h => ?_)
 ·obtain ⟨l, c, h, rfl, _⟩ := h; rfl
 ·obtain ⟨l, c, h, rfl, hl, hh, k⟩ := h
  refine ⟨_, (Ac (Bq (Al (Ck) (Ai (Aq (K := K) T) (hr.mono (by decide)) (by rfl) T.u8 T.u9 (Ax T) .nil Ak (Aa (pv 0) (Aa Ab Ad))) Ab (Ay _)) (Af (Am (pv 1))) Av)
   (Af (Am (Az Cj Ab (Ai (Aq (K := K) T) (hr.mono (by decide)) (by rfl) T.u8 T.u9 (Ax T) .nil Ak (Aa (pv 0) (Aa (pv 1) Ad))))))), ?_⟩
  simp only [start_eq]
  walk_at "nx"
  unfold Rg at hh
  refine ⟨l, c, 3, rfl, hl, by decide, by decide, fun H1 D1 => ⟨rfl, ?_⟩⟩
  split
  ·exact k _ _ _ D1 ⟨hh.1, Int.le_refl _⟩
  ·refine ⟨l, _, h, rfl, D1.h, by omega, by omega, fun H2 D2 => ⟨_, rfl, k _ _ _ (D1.trans D2) ?_⟩⟩
   have h1 := Int.emod_nonneg (c / 3) (show h ≠ 0 by omega)
   have h2 := Int.emod_lt_of_pos (c / 3) (show 0 < h by omega)
   exact ⟨by omega, by omega⟩
def Lq : Sp := fun vs H Q _ => ∃ (l : Addr) (c d n h : Int) (w : Str), vs = [.int d, .int n, .str w, .ref l, .int h] /\ H l = some (.lst [.int c]) /\ Rg 0 1000000000 h /\
 ∀ t m f H', But l H H' -> H' t = some (.tup [.str "split", .int d, .int n, .str w, .int m, .int f]) -> Rg 1 1000 m -> Rg 1 1000 f -> Q (.ref t) H'
theorem La (T : Txt K mg A D) : FnOk P w K mg base CX0 2 A.sK D.sK ["_law_day", "_law_number", "_law_ware", "_law_digits", "_law_here"] Lq := by
 refine T.vd.ok sc__law_split_row (fun vs H Q E h => ?_) (fun cdv A' outer s0 H vs Q E hr h => ?_)
 ·obtain ⟨l, c, d, n, h, w, rfl, _⟩ := h; rfl
 ·obtain ⟨l, c, d, n, h, w, rfl, hl, hh, k⟩ := h
  refine ⟨_, (Ac (Bd (i := 5) sc__law_split_row.nd rfl (Or.inl rfl) (Az Cj Ab (Ai (Aq (K := K) T) (hr.mono (by decide)) (by rfl) T.u8 T.u9 (Ax T) .nil Ak (Aa (pv 3) (Aa Ab Ad)))))
   (Ac (Bd (i := 6) sc__law_split_row.nd rfl (Or.inl rfl) (Az Cj Ab (Ai (Aq (K := K) T) (hr.mono (by decide)) (by rfl) T.u8 T.u9 (Ax T) .nil Ak (Aa (pv 3) (Aa Ab Ad)))))
   (Ac (Bq (PW.pt (Kp (Al (Tv) (Az Ft (Az Dp (pv 4) (pv 5)) (pv 6)) (Az Hh Ab Ab) (Ay _)) (Jd (PW.pt (Sh (Al (Tv) (pv 4) Ab (Ay _)) (Og (Al (Ck) (Az Ft (Az Dp (pv 4) (pv 5)) (pv 6)) Ab (Ay _)))))))) (Af (Am (Bw (Aa Aw (Aa (pv 0) (Aa (pv 1) (Aa (pv 2) (Aa Ab (Aa Ab Ad))))))))) Av)
   (Af (Am (Bw (Aa Aw (Aa (pv 0) (Aa (pv 1) (Aa (pv 2) (Aa (pv 5) (Aa (pv 6) Ad)))))))))))), ?_⟩
  simp only [start_eq]
  walk_at "nx"
  refine ⟨l, c, 10, rfl, hl, by decide, by decide, fun H1 D1 => ⟨_, rfl, ?_⟩⟩
  walk_at "nx"
  refine ⟨l, _, 10, rfl, D1.h, by decide, by decide, fun H2 D2 => ⟨_, rfl, ?_⟩⟩
  have b1 := Ih (x := c) (m := 10) (lo := 0) (hi := 9) (by decide) (by decide) (by decide)
  have b2 := Ih (x := c / 10) (m := 10) (lo := 0) (hi := 9) (by decide) (by decide) (by decide)
  generalize c / 10 % 10 = f0 at b2
  generalize c % 10 = m0 at b1
  unfold Rg at b1 b2 hh
  walk_at "nx"
  have c1 : CMulU h (1 + m0) := CMulU.l (by omega) (by omega)
  have c2 : ∀ i : Int, abI i (1 + f0) := fun i => Yh (by omega) (by omega)
  have lz : 6 <= sizeLine := by rw [sizeLine_eq]; decide
  have out : ∀ m f : Int, Rg 1 1000 m -> Rg 1 1000 f -> ∀ p, H2 p = Option.none -> Q (.ref p) (upd H2 p (.tup [.str (Str.ofString "split"), .int d, .int n, .str w, .int m, .int f])) := fun m f hm hf p hp => k p m f _ (fun b o n e => Same.new hp _ _ ((D1.trans D2).s b o n e)) Ae hm hf
  have r1 : Rg 1 1000 1 := ⟨by decide, by decide⟩
  have r2 : Rg 1 1000 (1 + m0) := ⟨by omega, by omega⟩
  have r3 : Rg 1 1000 (1 + f0) := ⟨by omega, by omega⟩
  refine ⟨c1, c2 _, Km (by decide) (by decide), ?_⟩
  split
  ·exact ⟨lz, out 1 1 r1 r1⟩
  ·split
   ·refine ⟨c1, c2 _, ?_⟩
    split
    ·exact ⟨lz, out 1 1 r1 r1⟩
    ·exact ⟨lz, out _ _ r2 r3⟩
   ·exact ⟨lz, out _ _ r2 r3⟩
def MF : Sp := fun vs H Q _ => ∃ (l p cd : Addr) (c d n : Int) (w u : Str) (kvs : List (Key × V)), vs = [.int d, .int n, .ref p, .ref l, .ref cd] /\ H l = some (.lst [.int c]) /\ H p = some (.tup [.str w, .str u]) /\ H cd = some (.dK kvs) /\ Cnt kvs /\
 ((∀ t s r H', But l H H' -> H' t = some (.tup [.str "part", .int d, .int n, .str w, .str u, .int s, .int r]) -> Rg 1 1000000 r -> Rg 0 r s -> Q (.ref t) H') /\ ∀ t H', But l H H' -> H' t = some (.tup [.str "split", .int d, .int n, .str w, .int 1, .int 1]) -> Q (.ref t) H')
theorem Mx (T : Txt K mg A D) : FnOk P w K mg base CX0 2 A.sL D.sL ["_law_day", "_law_number", "_law_wares", "_law_digits", "_law_counts"] MF := by
 refine T.vg.ok sc__law_part_row (fun vs H Q E h => ?_) (fun cdv A' outer s0 H vs Q E hr h => ?_)
 ·obtain ⟨l, p, cd, c, d, n, w, u, kvs, rfl, _⟩ := h; rfl
 ·obtain ⟨l, p, cd, c, d, n, w, u, kvs, rfl, hl, hp, hcd, hC, k1, k2⟩ := h
  refine ⟨_, (Ac (Yi (pv 2) (Rb (K := K) (n := 2) rfl (DY (Bm (i := 5) sc__law_part_row.nd rfl (Or.inl rfl)) (DY (Bm (i := 6) sc__law_part_row.nd rfl (Or.inl rfl)) Rx))))
   (Ac (Bd (i := 7) sc__law_part_row.nd rfl (Or.inl rfl) (Az Cj Ab (Ai (Aq (K := K) T) (hr.mono (by decide)) (by rfl) T.u8 T.u9 (Ax T) .nil Ak (Aa (pv 3) (Aa (Ao (Cv (K := K)) (Dv (Aa Ab (Aa (Az Hh Ab Ab) Ad))) (Ai (Aq (K := K) T) (hr.mono (by decide)) (by rfl) T.u8 T.u9 (Ax T) .nil Ak (Aa (pv 3) (Aa Ab Ad))) (fun _ _ => rfl)) Ad)))))
   (Ac (Bd (i := 8) sc__law_part_row.nd rfl (Or.inl rfl) (Ai (Aq (K := K) T) (hr.mono (by decide)) (by rfl) T.u8 T.u9 (Ax T) .nil Ak (Aa (pv 3) (Aa (Az Cj (pv 7) Ab) Ad))))
   (Ac (Bq (Al (Tv) (Az Cj (JT (Ff hr) (pv 4) (pv 5) Ab ⟨rfl, rfl, rfl, rfl⟩) (JT (Ff hr) (pv 4) (pv 6) Ab ⟨rfl, rfl, rfl, rfl⟩)) (Az Hh Ab Ab) (Ay _)) (Af (Am (Bw (Aa Aw (Aa (pv 0) (Aa (pv 1) (Aa (pv 5) (Aa Ab (Aa Ab Ad))))))))) Av)
   (Af (Am (Bw (Aa Aw (Aa (pv 0) (Aa (pv 1) (Aa (pv 5) (Aa (pv 6) (Aa (pv 8) (Aa (pv 7) Ad)))))))))))))), ?_⟩
  simp only [start_eq]
  walk_at "nx"
  refine ⟨_, SqT.of hp, rfl, _, _, rfl, _, _, rfl, rfl, ?_⟩
  walk_at "nx"
  refine ⟨Km (by decide) (by decide), by rw [sizeLine_eq]; decide, fun q hq => ?_⟩
  have hlp : q ≠ l := fun e => by rw [e, hl] at hq; cases hq
  refine ⟨l, c, 2, rfl, (Aj (Ne.symm hlp)).trans hl, by decide, by decide, fun H1 D1 => ?_⟩
  obtain ⟨v, hv, bv⟩ : ∃ v, atI [V.int 9, V.int (10 ^ (6 : Int).toNat)] (c % 2) = some (.int v) /\ Rg 1 1000000 v := by
   rcases (show c % 2 = 0 \/ c % 2 = 1 by omega) with e | e <;> rw [e]
   ·exact ⟨9, rfl, by decide, by decide⟩
   ·exact ⟨1000000, rfl, by decide, by decide⟩
  unfold Rg at bv
  refine ⟨_, _, rfl, SqL.of (D1.s _ _ hlp Ae), _, hv, l, _, v, rfl, D1.h, by omega, by omega, fun H2 D2 => ⟨_, rfl, ?_⟩⟩
  have D0 : Dg H (upd H q (.lst [V.int 9, V.int (10 ^ (6 : Int).toNat)])) l c := (Dg.of hl).same (Same.new hq)
  have D2 := D0.trans (D1.trans D2)
  have b1 := Int.emod_nonneg (c / 2) (show v ≠ 0 by omega)
  have b2 := Int.emod_lt_of_pos (c / 2) (show 0 < v by omega)
  obtain ⟨r, hr'⟩ : ∃ r, r = 1 + c / 2 % v := ⟨_, rfl⟩
  rw [<- hr']
  have br : Rg 1 1000000 r := ⟨by omega, by omega⟩
  walk_at "nx"
  refine ⟨l, _, r + 1, rfl, D2.h, by omega, by omega, fun H3 D3 => ?_⟩
  have D3 := D2.trans D3
  have s1 := Int.emod_nonneg (c / 2 / v) (show r + 1 ≠ 0 by omega)
  have s2 := Int.emod_lt_of_pos (c / 2 / v) (show 0 < r + 1 by omega)
  generalize c / 2 / v % (r + 1) = sh at s1 s2
  obtain ⟨g1, g1'⟩ := hC.get w
  obtain ⟨g2, g2'⟩ := hC.get u
  walk_at "nx"
  have hcd3 := D3.d hcd
  refine ⟨.inl ⟨kvs, .inl hcd3⟩, _, DGet.k (k := Sum.inr w) hcd3, .inl ⟨kvs, .inl hcd3⟩, _, DGet.k (k := Sum.inr u) hcd3, ?_⟩
  rw [g1, g2]
  walk_at "rdi"
  have bt : ∀ {p : Addr} {u : HO}, H3 p = Option.none -> But l H (upd H3 p u) := fun hp b o n e => Same.new hp _ _ (D3.s b o n e)
  refine ⟨Km (by decide) (by decide), ?_⟩
  split
  ·exact ⟨by rw [sizeLine_eq]; decide, fun p hp => k2 p _ (bt hp) Ae⟩
  ·exact ⟨by rw [sizeLine_eq]; decide, fun p hp => k1 p sh r _ (bt hp) Ae br ⟨s1, by omega⟩⟩
end
end My
namespace My
open PySem L2 PyProof.Rows
section
variable {P : Program} {w : World} {K : Fg_} {mg : Str -> Option Value} {base : Heap} {A : Adr} {D : Fds}
local macro_rules | `(tactic| walk_at "nx") => `(tactic| ((try dsimp only); refine Bc fun u hu => ?_; rw [ap_seq]; walk_at "rdi"; subst hu))
def wares3 : List Str := ["tin", "ore", "abcdefgh"]
theorem Tp : ∀ w ∈ wares3, Nm w := by
 unfold Nm
 decide +kernel
theorem Zu : wares3.Nodup := by decide +kernel
def Vi : Sp := fun vs H Q _ => ∃ (r cd : Addr) (d n kd ix rest : Int) (kvs : List (Key × V)), vs = [.ref r, .ref cd, .bl true] /\ H r = some (.tup [.int d, .int n, .int kd, .int ix, .int rest]) /\ H cd = some (.dK kvs) /\ Cnt kvs /\ (∀ z, GC kvs z <= 1000000000) /\
 Rg 0 1000000 d /\ Rg 0 1000000 n /\ Rg 0 7 kd /\ Rg 0 2 ix /\
 ∀ (t : Addr) (e : Ent) (H' : Hp), Same H H' -> H' t = some (.tup (.str e.word :: e.args .non)) -> e.good -> e.lots = Option.none -> e.day = d -> e.num = n -> Fits kvs e -> Q (.ref t) H'
theorem Ve (T : Txt K mg A D) : FnOk P w K mg base CX0 3 A.sP D.sP ["_law_raw_here", "_law_counts", "_law_giving"] Vi := by
 refine T.vw.ok sc__law_row (fun vs H Q E h => ?_) (fun cdv A' outer s0 H vs Q E hr h => ?_)
 ·obtain ⟨r, cd, d, n, kd, ix, rest, kvs, rfl, _⟩ := h; rfl
 ·obtain ⟨r, cd, d, n, kd, ix, rest, kvs, rfl, hr', hcd, hC, hM, bd, bn, bk, bi, k⟩ := h
  refine ⟨_, (Ac (Yi (pv 0) (Rb (K := K) (n := 5) rfl (DY (Bm (i := 3) sc__law_row.nd rfl (Or.inl rfl)) (DY (Bm (i := 4) sc__law_row.nd rfl (Or.inl rfl)) (DY (Bm (i := 5) sc__law_row.nd rfl (Or.inl rfl)) (DY (Bm (i := 6) sc__law_row.nd rfl (Or.inl rfl)) (DY (Bm (i := 7) sc__law_row.nd rfl (Or.inl rfl)) Rx)))))))
   (Ac (Bd (i := 8) sc__law_row.nd rfl (Or.inl rfl) (Dv (Aa (pv 7) Ad)))
   (Ac (Bd (i := 9) sc__law_row.nd rfl (Or.inl rfl) (Dv (Aa Aw (Aa Aw (Aa Aw Ad)))))
   (Ac (Bd (i := 10) sc__law_row.nd rfl (Or.inl rfl) (Ao (Cv (K := K)) (pv 9) (pv 6) (fun _ _ => rfl)))
   (Ac (Bd (i := 11) sc__law_row.nd rfl (Or.inl rfl) (JT (Ff hr) (pv 1) (pv 10) Ab ⟨rfl, rfl, rfl, rfl⟩))
   (Ac (Bq (Al (Ck) (pv 5) Ab (Ay _)) (Af (Am (Ai (La (K := K) T) (hr.mono (by decide)) (by rfl) T.vb T.vc (Nb T) .nil Ak (Aa (pv 3) (Aa (pv 4) (Aa (pv 10) (Aa (pv 8) (Aa (pv 11) Ad)))))))) Av)
   (Ac (Bq (Al (Ck) (pv 5) Ab (Ay _)) (Ac (Bd (i := 12) sc__law_row.nd rfl (Or.inl rfl) (Ao (Cv (K := K)) (pv 9) (Az Ci (Az Cj (Az Cj (pv 6) Ab) (Ai (Aq (K := K) T) (hr.mono (by decide)) (by rfl) T.u8 T.u9 (Ax T) .nil Ak (Aa (pv 8) (Aa Ab Ad)))) Ab) (fun _ _ => rfl)))
    (Af (Am (Ai (Mx (K := K) T) (hr.mono (by decide)) (by rfl) T.ve T.vf (Oi T) .nil Ak (Aa (pv 3) (Aa (pv 4) (Aa (Bw (Aa (pv 10) (Aa (pv 12) Ad))) (Aa (pv 8) (Aa (pv 1) Ad))))))))) Av)
   (Ac (Bq (PW.pt (Sh (Al (Ck) (pv 5) Ab (Ay _)) (Og (PW.pt (Kp (Al (Ck) (pv 11) Ab (Ay _)) (Kp (IK (Iu (pv 2))) (Jd (Al (Ck) (Ai (Aq (K := K) T) (hr.mono (by decide)) (by rfl) T.u8 T.u9 (Ax T) .nil Ak (Aa (pv 8) (Aa Ab Ad))) Ab (Ay _))))))))) (Ac (Bd (i := 13) sc__law_row.nd rfl (Or.inl rfl) (Ao (Cv (K := K)) (Dv (Aa (Ai (Aq (K := K) T) (hr.mono (by decide)) (by rfl) T.u8 T.u9 (Ax T) .nil Ak (Aa (pv 8) (Aa Ab Ad))) (Aa (Ai (Aq (K := K) T) (hr.mono (by decide)) (by rfl) T.u8 T.u9 (Ax T) .nil Ak (Aa (pv 8) (Aa (Az Hh Ab Ab) Ad))) Ad))) (Ai (Aq (K := K) T) (hr.mono (by decide)) (by rfl) T.u8 T.u9 (Ax T) .nil Ak (Aa (pv 8) (Aa Ab Ad))) (fun _ _ => rfl)))
    (Af (Am (Bw (Aa Aw (Aa (pv 3) (Aa (pv 4) (Aa (pv 10) (Aa (Ai (Jv (K := K) T) (hr.mono (by decide)) (by rfl) T.vo T.vp (Ke T) .nil Ak (Aa (pv 8) Ad)) (Aa (pv 13) (Aa (Ai (Aq (K := K) T) (hr.mono (by decide)) (by rfl) T.u8 T.u9 (Ax T) .nil Ak (Aa (pv 8) (Aa (Az Cj (pv 3) Ab) Ad))) Ad))))))))))) Av)
   (Ac (Bq (Al (Ck) (pv 5) Ab (Ay _)) (Af (Am (Bw (Aa Aw (Aa (pv 3) (Aa (pv 4) (Aa (pv 10) (Aa (Ai (Mq (K := K) T) (hr.mono (by decide)) (by rfl) T.vh T.vi (PL T) .nil Ak (Aa (pv 8) (Aa (pv 11) Ad))) (Aa Jz Ad))))))))) Av)
   (Ac (Bq (PW.pt (Kp (Al (ZR) (pv 5) Ab (Ay _)) (Jd (Al (Ck) (pv 11) Ab (Ay _))))) (Af (Am (Bw (Aa Aw (Aa (pv 3) (Aa (pv 4) (Aa (pv 10) (Aa (Ai (Jv (K := K) T) (hr.mono (by decide)) (by rfl) T.vo T.vp (Ke T) .nil Ak (Aa (pv 8) Ad)) (Aa (Ai (KH (K := K) T) (hr.mono (by decide)) (by rfl) T.vk T.vm (Mh T) .nil Ak (Aa (pv 8) Ad)) (Aa (Ai (Aq (K := K) T) (hr.mono (by decide)) (by rfl) T.u8 T.u9 (Ax T) .nil Ak (Aa (pv 8) (Aa Ab Ad))) Ad)))))))))) Av)
   (Af (Am (Bw (Aa Aw (Aa (pv 3) (Aa (pv 4) (Aa (pv 10) (Aa (Ai (Mq (K := K) T) (hr.mono (by decide)) (by rfl) T.vh T.vi (PL T) .nil Ak (Aa (pv 8) (Aa (pv 11) Ad))) (Aa (Ai (KH (K := K) T) (hr.mono (by decide)) (by rfl) T.vk T.vm (Mh T) .nil Ak (Aa (pv 8) Ad)) (Aa (Ai (Aq (K := K) T) (hr.mono (by decide)) (by rfl) T.u8 T.u9 (Ax T) .nil Ak (Aa (pv 8) (Aa Ab Ad))) (Aa Jz Ad))))))))))))))))))))), ?_⟩
  unfold Rg at bd bn bk bi
  simp only [start_eq]
  walk_at "nx"
  refine ⟨_, SqT.of hr', rfl, _, _, rfl, _, _, rfl, _, _, rfl, _, _, rfl, _, _, rfl, rfl, ?_⟩
  walk_at "nx"
  refine ⟨by rw [sizeLine_eq]; decide, fun l hl => ?_⟩
  have s1 := Same.new (o := .lst [.int rest]) hl
  have h1 : (upd H l (.lst [.int rest])) l = some (.lst [.int rest]) := Ae
  generalize upd H l (.lst [.int rest]) = H1 at s1 h1
  walk_at "nx"
  refine ⟨by rw [sizeLine_eq]; decide, fun wa hwa => ?_⟩
  have s2 := Same.new (o := .lst [.str (Str.ofString "tin"), .str (Str.ofString "ore"), .str (Str.ofString "abcdefgh")]) hwa
  have h2 : (upd H1 wa (.lst [.str (Str.ofString "tin"), .str (Str.ofString "ore"), .str (Str.ofString "abcdefgh")])) wa = some (.lst (wares3.map V.str)) := Ae
  generalize upd H1 wa (.lst [.str (Str.ofString "tin"), .str (Str.ofString "ore"), .str (Str.ofString "abcdefgh")]) = H2 at s2 h2
  obtain ⟨w, haw, hgw⟩ := Xj (ws := wares3) (i := ix) bi.1 (by show ix < 3; omega)
  have hNw : Nm w := Tp w (List.mem_of_getElem? hgw)
  walk_at "nx"
  refine ⟨_, SqL.of h2, _, haw, ?_⟩
  have S2 := s1.trans s2
  have hcd2 := S2 _ _ hcd
  obtain ⟨hg, hg0⟩ := hC.get w
  have hgM := hM w
  walk_at "nx"
  refine ⟨.inl ⟨kvs, .inl hcd2⟩, _, DGet.k (k := Sum.inr w) hcd2, ?_⟩
  rw [hg]
  have hl2 := s2 _ _ h1
  have hwl : wa ≠ l := fun e => by rw [e, hl2] at h2; cases h2
  generalize hth : GC kvs w = th at hg hg0 hgM
  walk_at "nx"
  have hB : Base d n w := ⟨bd.1, bd.2, bn.1, bn.2, hNw⟩
  have fin : ∀ {X : Hp}, But l H2 X -> Same H X := fun b x o e => b x o (fun z => by rw [z, hl] at e; cases e) (S2 _ _ e)
  by_cases h6 : kd = 6
  ·rw [if_pos h6]
   exact ⟨l, rest, d, n, th, w, rfl, hl2, ⟨hg0, hgM⟩, fun t m f H' b ht hm hf => k t (.split d n w m f) H' (fin b) ht ⟨hB, hm, hf⟩ rfl rfl rfl trivial⟩
  rw [if_neg h6]
  walk_at "nx"
  by_cases h7 : kd = 7
  ·rw [if_pos h7]
   walk_at "nx"
   refine ⟨l, rest, 2, rfl, hl2, by decide, by decide, fun H3 D3 => ?_⟩
   have b3 : 0 <= rest % 2 /\ rest % 2 < 2 := by omega
   generalize rest % 2 = q3 at b3
   have hi0 : 0 <= (ix + 1 + q3) % 3 := Int.emod_nonneg _ (by decide)
   have hi1 : (ix + 1 + q3) % 3 < 3 := Int.emod_lt_of_pos _ (by decide)
   obtain ⟨u, hau, hgu⟩ := Xj (ws := wares3) (i := (ix + 1 + q3) % 3) hi0 hi1
   have hNu : Nm u := Tp u (List.mem_of_getElem? hgu)
   have hne : u ≠ w := abt Zu hgu hgw fun e => aaA (L := 3) bi.1 (by omega) b3.1 (by omega) (by omega)
   refine ⟨_, rfl, by decide, _, SqL.of (D3.s _ _ hwl h2), _, hau, ?_⟩
   rw [ap_ret]
   walk_at "rdi"
   refine ⟨by rw [sizeLine_eq]; decide, fun p hp => ?_⟩
   have hpl : l ≠ p := fun e => by rw [<- e, D3.h] at hp; cases hp
   have D4 := D3.same (Same.new (o := .tup [V.str w, V.str u]) hp)
   exact ⟨l, p, cd, _, d, n, w, u, kvs, rfl, D4.h, Ae, D4.d hcd2, hC, fun t s r H' b ht hr hs => k t (.part d n w u s r) H' (fin (fun x o nn e => b x o nn (D4.s x o nn e))) ht ⟨hB, hNu, hne, hr, hs⟩ rfl rfl rfl trivial,
    fun t H' b ht => k t (.split d n w 1 1) H' (fin (fun x o nn e => b x o nn (D4.s x o nn e))) ht ⟨hB, ⟨by decide, by decide⟩, ⟨by decide, by decide⟩⟩ rfl rfl rfl trivial⟩
  rw [if_neg h7]
  have gift : ∀ (H6 : Hp) (c6 : Int), Dg H2 H6 l c6 -> ∀ (cost : Int), Rg 0 1000000000000000 cost -> Gx [V.ref l] H6 (fun x H1 => Iv [V.ref l, V.int (d + 1)] H1 (fun y H1 => 7 <= sizeLine /\ ∀ p, H1 p = Option.none -> Q (V.ref p) (upd H1 p (HO.tup [V.str (Str.ofString "gift"), V.int d, V.int n, V.str w, x, V.int cost, y]))) E0) E0 := fun H6 c6 D6 cost bc =>
   ⟨l, c6, rfl, D6.h, fun v c7 H7 D7 bv => ⟨l, c7, d + 1, rfl, D7.h, by omega, by omega, fun H8 D8 => ⟨by rw [sizeLine_eq]; decide, fun p hp => by
    unfold Rg at bc bv
    have z1 := Int.emod_nonneg c7 (show d + 1 ≠ 0 by omega)
    have z2 := Int.emod_lt_of_pos c7 (show 0 < d + 1 by omega)
    have D := ((D6.trans D7).trans D8).same (Same.new (o := .tup [V.str (Str.ofString "gift"), V.int d, V.int n, V.str w, V.int v, V.int cost, V.int (c7 % (d + 1))]) hp)
    exact k p (.gift d n w v cost (c7 % (d + 1))) _ (fin D.s) Ae ⟨hB, ⟨by omega, by omega⟩, ⟨by omega, by omega⟩, ⟨by omega, by omega⟩⟩ rfl rfl rfl (show v <= 1000000 by omega)⟩⟩⟩
  have buy : Gx [V.ref l] H2 (fun x H1 => KC [V.ref l] H1 (fun x_1 H1 => Iv [V.ref l, V.int 50] H1 (fun x_2 H1 => 7 <= sizeLine /\ ∀ p, H1 p = Option.none -> Q (V.ref p) (upd H1 p (HO.tup [V.str (Str.ofString "buy"), V.int d, V.int n, V.str w, x, x_1, x_2]))) E0) E0) E0 :=
   ⟨l, rest, rfl, hl2, fun v c3 H3 D3 bv => ⟨l, c3, rfl, D3.h, fun pr c4 H4 D4 bp => ⟨l, c4, 50, rfl, D4.h, by decide, by decide, fun H5 D5 => ⟨by rw [sizeLine_eq]; decide, fun p hp => by
    unfold Rg at bv bp
    have D := ((D3.trans D4).trans D5).same (Same.new (o := .tup [V.str (Str.ofString "buy"), V.int d, V.int n, V.str w, V.int v, V.int pr, V.int (c4 % 50)]) hp)
    exact k p (.buy d n w v pr (c4 % 50)) _ (fin D.s) Ae ⟨hB, ⟨by omega, by omega⟩, ⟨by omega, by omega⟩, ⟨by omega, by omega⟩⟩ rfl rfl rfl (show v <= 1000000 by omega)⟩⟩⟩⟩
  have two : ∀ (x y c : Int), Rg 0 999 x -> Rg 0 999999999999999 y -> ∃ v, atI [V.int x, V.int y] (c % 2) = some (.int v) /\ Rg 0 1000000000000000 v := fun x y c bx by' => by
   unfold Rg at bx by'
   rcases (show c % 2 = 0 \/ c % 2 = 1 by omega) with e | e <;> rw [e]
   ·exact ⟨x, rfl, by omega, by omega⟩
   ·exact ⟨y, rfl, by omega, by omega⟩
  walk_at "nx"
  by_cases h5 : kd = 5
  ·rw [if_pos h5]
   by_cases h0 : th = 0
   ·rw [if_pos h0]
    walk_at "nx"
    refine ⟨l, rest, 1000, rfl, hl2, by decide, by decide, fun H4 D4 => ⟨Km (by decide) (by decide), l, _, 10 ^ (15 : Int).toNat, rfl, D4.h, by decide, by decide, fun H5 D5 => ⟨by rw [sizeLine_eq]; decide, fun p hp => ?_⟩⟩⟩
    have D5 := D4.trans D5
    obtain ⟨v, hv, bv⟩ := two (rest % 1000) (rest / 1000 % 10 ^ (15 : Int).toNat) (rest / 1000 / 10 ^ (15 : Int).toNat) (Ih (by decide) (by decide) (by decide)) (Ih (by decide) (by decide) (by decide))
    have D6 := D5.same (Same.new (o := .lst [V.int (rest % 1000), V.int (rest / 1000 % 10 ^ (15 : Int).toNat)]) hp)
    have hpl : p ≠ l := fun e => by rw [e, D5.h] at hp; cases hp
    refine ⟨l, _, 2, rfl, D6.h, by decide, by decide, fun H7 D7 => ⟨_, _, rfl, SqL.of (D7.s _ _ hpl Ae), _, hv, ?_⟩⟩
    rw [ap_ret]
    walk_at "rdi"
    exact gift H7 _ (D6.trans D7) v bv
   ·rw [if_neg h0]
    refine ⟨l, rest, 2, rfl, hl2, by decide, by decide, fun H3 D3 => ⟨rfl, ?_⟩⟩
    have some' : 1 <= th := by omega
    split
    ·walk_at "nx"
     refine ⟨l, _, 1000, rfl, D3.h, by decide, by decide, fun H4 D4 => ⟨Km (by decide) (by decide), l, _, 10 ^ (15 : Int).toNat, rfl, D4.h, by decide, by decide, fun H5 D5 => ⟨by rw [sizeLine_eq]; decide, fun p hp => ?_⟩⟩⟩
     have D5 := (D3.trans D4).trans D5
     obtain ⟨v, hv, bv⟩ := two (rest / 2 % 1000) (rest / 2 / 1000 % 10 ^ (15 : Int).toNat) (rest / 2 / 1000 / 10 ^ (15 : Int).toNat) (Ih (by decide) (by decide) (by decide)) (Ih (by decide) (by decide) (by decide))
     have D6 := D5.same (Same.new (o := .lst [V.int (rest / 2 % 1000), V.int (rest / 2 / 1000 % 10 ^ (15 : Int).toNat)]) hp)
     have hpl : p ≠ l := fun e => by rw [e, D5.h] at hp; cases hp
     refine ⟨l, _, 2, rfl, D6.h, by decide, by decide, fun H7 D7 => ⟨_, _, rfl, SqL.of (D7.s _ _ hpl Ae), _, hv, ?_⟩⟩
     rw [ap_ret]
     walk_at "rdi"
     exact gift H7 _ (D6.trans D7) v bv
    ·walk_at "nx"
     rw [if_pos h5]
     refine ⟨l, _, th, rfl, D3.h, ⟨some', hgM⟩, fun v c4 H4 D4 bv => ⟨by rw [sizeLine_eq]; decide, fun p hp => ?_⟩⟩
     unfold Rg at bv
     have D := (D3.trans D4).same (Same.new (o := .tup [V.str (Str.ofString "give"), V.int d, V.int n, V.str w, V.int v, V.non]) hp)
     exact k p (.give d n w v Option.none) _ (fin D.s) Ae ⟨hB, ⟨by omega, by omega⟩, trivial⟩ rfl rfl rfl (by show v <= GC kvs w; rw [hth]; exact bv.2)
  iterate 2 (rw [if_neg h5]; walk_at "nx")
  split
  ·exact buy
  ·split
   ·exact buy
   ·rename_i hk3 hth0
    rw [ap_ret]
    walk_at "rdi"
    refine ⟨l, rest, th, rfl, hl2, ⟨by omega, hgM⟩, fun v c3 H3 D3 bv => ⟨l, c3, rfl, D3.h, fun pr c4 H4 D4 bp => ⟨l, c4, 50, rfl, D4.h, by decide, by decide, fun H5 D5 => ⟨by rw [sizeLine_eq]; decide, fun p hp => ?_⟩⟩⟩⟩
    unfold Rg at bv bp
    have D := ((D3.trans D4).trans D5).same (Same.new (o := .tup [V.str (Str.ofString "sell"), V.int d, V.int n, V.str w, V.int v, V.int pr, V.int (c4 % 50), V.non]) hp)
    exact k p (.sell d n w v pr (c4 % 50) Option.none) _ (fin D.s) Ae ⟨hB, ⟨by omega, by omega⟩, ⟨by omega, by omega⟩, ⟨by omega, by omega⟩, trivial⟩ rfl rfl rfl (by show v <= GC kvs w; rw [hth]; exact bv.2)
end
end My
namespace My
open PySem L2 PyProof.Rows
section
variable {P : Program} {w : World} {K : Fg_} {mg : Str -> Option Value} {base : Heap} {A : Adr} {D : Fds}
local macro_rules | `(tactic| walk_at "nx") => `(tactic| ((try dsimp only); refine Bc fun u hu => ?_; rw [ap_seq]; walk_at "rdi"; subst hu))
local macro_rules | `(tactic| walk_at "ng") => `(tactic| ((try dsimp only); refine Bc fun u hu => ?_; rw [ap_seq]; refine Ed fun v w hv hw => ?_; walk_at "rdi"; (first | rw [if_neg (by decide +kernel), if_neg (by decide +kernel)] | rw [if_neg (by decide +kernel)]); subst hw; rw [ap_next]; dsimp only; subst hu))
def Oj : Sp := fun vs H Q _ => ∃ (cd t : Addr) (kvs : List (Key × V)) (e : Ent), vs = [.ref cd, .ref t] /\ H cd = some (.dK kvs) /\ Cnt kvs /\ (∀ z, GC kvs z <= 1000000000) /\ kvs.length <= 1000 /\ H t = some (.tup (.str e.word :: e.args .non)) /\ e.good /\ Fits kvs e /\
 ∀ (q : Addr) (z : Str) (i : Int) (H' : Hp), Same H H' -> H q = Option.none -> H' q = some (.dK (putK kvs (Sum.inr z) (.int i))) -> 0 <= i -> (kvs = [] -> i <= 1000000000) -> Q (.ref q) H'
theorem Nq (T : Txt K mg A D) : FnOk P w K mg base CX0 1 A.sQ D.sQ ["_law_counts", "_law_row_here"] Oj := by
 refine T.vz.ok sc__law_counted (fun vs H Q E h => ?_) (fun cdv A' outer s0 H vs Q E hr h => ?_)
 ·obtain ⟨cd, t, kvs, e, rfl, _⟩ := h; rfl
 ·obtain ⟨cd, t, kvs, e, rfl, hcd, hC, hM, hlen, ht, hg, hF, k⟩ := h
  refine ⟨_, (Ac (Bd (i := 2) sc__law_counted.nd rfl (Or.inl rfl) (Ao (Ah (K := K)) (pv 1) Ab (fun _ _ => rfl)))
   (Ac (Bd (i := 3) sc__law_counted.nd rfl (Or.inl rfl) (Ao (Ah (K := K)) (pv 1) Ab (fun _ _ => rfl)))
   (Ac (Bd (i := 4) sc__law_counted.nd rfl (Or.inl rfl) (JT (Ff hr) (pv 0) (pv 3) Ab ⟨rfl, rfl, rfl, rfl⟩))
   (Ac (Bd (i := 5) sc__law_counted.nd rfl (Or.inl rfl) (Jc Ut (by rfl) T.xN (by decide +kernel) (Aa (pv 0) Ad)))
   (Ac (Bq (PW.pt (Kp (Al (Ck) (pv 2) Aw (Ay _)) (Jd (Al (Ck) (pv 2) Aw (Ay _))))) (Af (Gy (Ff hr) (pv 5) (pv 3) (Az Cj (pv 4) (Ao (Ah (K := K)) (pv 1) Ab (fun _ _ => rfl))) rfl)) Av)
   (Ac (Bq (PW.pt (Kp (Al (Ck) (pv 2) Aw (Ay _)) (Jd (Al (Ck) (pv 2) Aw (Ay _))))) (Af (Gy (Ff hr) (pv 5) (pv 3) (Az aaM (pv 4) (Ao (Ah (K := K)) (pv 1) Ab (fun _ _ => rfl))) rfl)) Av)
   (Ac (Bq (Al (Ck) (pv 2) Aw (Ay _)) (Af (Gy (Ff hr) (pv 5) (pv 3) (Az Ft (Az Dp (pv 4) (Ao (Ah (K := K)) (pv 1) Ab (fun _ _ => rfl))) (Ao (Ah (K := K)) (pv 1) Ab (fun _ _ => rfl))) rfl)) Av)
   (Ac (Bq (Al (Ck) (pv 2) Aw (Ay _)) (Af (Gy (Ff hr) (pv 5) (Ao (Ah (K := K)) (pv 1) Ab (fun _ _ => rfl)) (Az Cj (JT (Ff hr) (pv 0) (Ao (Ah (K := K)) (pv 1) Ab (fun _ _ => rfl)) Ab ⟨rfl, rfl, rfl, rfl⟩) (pv 4)) rfl)) Av)
   (Af (Am (pv 5))))))))))), ?_⟩
  simp only [start_eq]
  have a0 : atI (V.str e.word :: e.args .non) 0 = some (.str e.word) := by cases e <;> rfl
  have a3 : atI (V.str e.word :: e.args .non) 3 = some (.str e.ware) := by cases e <;> rfl
  walk_at "nx"
  refine ⟨_, SqT.of ht, _, a0, ?_⟩
  walk_at "nx"
  refine ⟨_, SqT.of ht, _, a3, ?_⟩
  obtain ⟨g1, g2⟩ := hC.get e.ware
  have g3 := hM e.ware
  walk_at "nx"
  refine ⟨.inl ⟨kvs, .inl hcd⟩, _, DGet.k (k := Sum.inr e.ware) hcd, ?_⟩
  rw [g1]
  walk_at "nx"
  refine ⟨kvs, .inl hcd, fun q hq => ?_⟩
  have s1 := Same.new (o := .dK kvs) hq
  have hq1 : (upd H q (.dK kvs)) q = some (.dK kvs) := Ae
  generalize upd H q (.dK kvs) = H1 at s1 hq1
  have hsz : kvs.length < sizeLine := by rw [sizeLine_eq]; omega
  have out : ∀ (z : Str) (i : Int), 0 <= i -> (kvs = [] -> i <= 1000000000) -> Q (.ref q) (upd H1 q (.dK (putK kvs (Sum.inr z) (.int i)))) := fun z i h0 h1 => k q z i _ (s1.upd hq) hq Ae h0 h1
  have hnil : ∀ z, kvs = [] -> GC kvs z = 0 := fun z e => by rw [e]; rfl
  have hh : GC kvs e.ware = GC kvs e.ware /\ 0 <= GC kvs e.ware /\ GC kvs e.ware <= 1000000000 := ⟨rfl, g2, g3⟩
  clear g1 g2 g3 a0 a3
  cases e with
  | buy d n w p r f =>
   dsimp only [Ent.word, Ent.ware] at hh ⊢
   obtain ⟨_, hg0, hgM⟩ := hh
   have ht1 := s1 _ _ ht
   walk_at "nx"
   refine ⟨_, SqT.of ht1, _, rfl, _, rfl, _, DPut.k (k := Sum.inr w) hq1 hsz, ?_⟩
   iterate 3 walk_at "ng"
   walk_at "rdi"
   obtain ⟨_, ⟨hp, _⟩, _⟩ := hg
   exact out _ _ (by omega) fun e => by have := hnil w e; have : p <= 1000000 := hF; omega
  | sell d n w p r f o =>
   dsimp only [Ent.word, Ent.ware] at hh ⊢
   obtain ⟨_, hg0, hgM⟩ := hh
   have ht1 := s1 _ _ ht
   walk_at "ng"
   walk_at "nx"
   refine ⟨_, SqT.of ht1, _, rfl, _, rfl, _, DPut.k (k := Sum.inr w) hq1 hsz, ?_⟩
   iterate 2 walk_at "ng"
   walk_at "rdi"
   have hF : p <= GC kvs w := hF
   obtain ⟨_, ⟨hp, _⟩, _⟩ := hg
   exact out _ _ (by omega) fun e => by omega
  | gift d n w p c s =>
   dsimp only [Ent.word, Ent.ware] at hh ⊢
   obtain ⟨_, hg0, hgM⟩ := hh
   have ht1 := s1 _ _ ht
   walk_at "nx"
   rw [if_neg (by decide +kernel)]
   refine ⟨_, SqT.of ht1, _, rfl, _, rfl, _, DPut.k (k := Sum.inr w) hq1 hsz, ?_⟩
   iterate 3 walk_at "ng"
   walk_at "rdi"
   obtain ⟨_, ⟨hp, _⟩, _⟩ := hg
   exact out _ _ (by omega) fun e => by have := hnil w e; have : p <= 1000000 := hF; omega
  | give d n w p o =>
   dsimp only [Ent.word, Ent.ware] at hh ⊢
   obtain ⟨_, hg0, hgM⟩ := hh
   have ht1 := s1 _ _ ht
   walk_at "ng"
   walk_at "nx"
   rw [if_neg (by decide +kernel)]
   refine ⟨_, SqT.of ht1, _, rfl, _, rfl, _, DPut.k (k := Sum.inr w) hq1 hsz, ?_⟩
   iterate 2 walk_at "ng"
   walk_at "rdi"
   have hF : p <= GC kvs w := hF
   obtain ⟨_, ⟨hp, _⟩, _⟩ := hg
   exact out _ _ (by omega) fun e => by omega
  | split d n w m f =>
   dsimp only [Ent.word, Ent.ware] at hh ⊢
   obtain ⟨_, hg0, hgM⟩ := hh
   have ht1 := s1 _ _ ht
   iterate 2 walk_at "ng"
   walk_at "nx"
   obtain ⟨_, ⟨hm, hm'⟩, ⟨hf, hf'⟩⟩ := hg
   have bm : 0 <= GC kvs w * m := Int.mul_nonneg hg0 (by omega)
   have bq : 0 <= GC kvs w * m / f := Int.ediv_nonneg bm (by omega)
   refine ⟨_, SqT.of ht1, _, rfl, _, rfl, CMulU.l (by omega) (by omega), _, SqT.of ht1, _, rfl, _, rfl, Yh (by omega) (by omega), _, DPut.k (k := Sum.inr w) hq1 hsz, ?_⟩
   walk_at "ng"
   walk_at "rdi"
   refine out _ _ bq fun e => ?_
   rw [hnil w e, Int.zero_mul, Int.zero_ediv]
   decide
  | part d n w u a b =>
   dsimp only [Ent.word, Ent.ware] at hh ⊢
   obtain ⟨_, hg0, hgM⟩ := hh
   have ht1 := s1 _ _ ht
   iterate 3 walk_at "ng"
   walk_at "nx"
   have hcd1 := s1 _ _ hcd
   obtain ⟨gu, gu0⟩ := hC.get u
   refine ⟨.inl ⟨kvs, .inl hcd1⟩, _, SqT.of ht1, _, rfl, _, DGet.k (k := Sum.inr u) hcd1, _, gu, _, SqT.of ht1, _, rfl, _, DPut.k (k := Sum.inr u) hq1 hsz, ?_⟩
   walk_at "rdi"
   exact out _ _ (by omega) fun e => by rw [hnil u e, hnil w e]; decide
end
end My
namespace My
open PySem L2 PyProof.Rows
section
variable {P : Program} {w : World} {K : Fg_} {mg : Str -> Option Value} {base : Heap} {A : Adr} {D : Fds}
local macro_rules | `(tactic| walk_at "nx") => `(tactic| ((try dsimp only); refine Bc fun u hu => ?_; rw [ap_seq]; walk_at "rdi"; subst hu))
def Vk : Sp := fun vs H Q _ => ∃ (s k : Int), vs = [.int s, .int k] /\ ∀ (t : Addr) (d m kd ix rest : Int) (H' : Hp), Same H H' -> H' t = some (.tup [.int d, .int (m * 64 + k), .int kd, .int ix, .int rest]) -> Rg 0 1000000 d -> Rg 0 1999 m -> Rg 0 7 kd -> Rg 0 2 ix -> Q (.ref t) H'
theorem Vh (T : Txt K mg A D) : FnOk P w K mg base CX0 2 A.sR D.sR ["_law_source", "_law_k"] Vk := by
 refine T.vC.ok sc__law_raw (fun vs H Q E h => ?_) (fun cdv A' outer s0 H vs Q E hr h => ?_)
 ·obtain ⟨s, k, rfl, _⟩ := h; rfl
 ·obtain ⟨s, kk, rfl, k⟩ := h
  refine ⟨_, (Ac (Bd (i := 2) sc__law_raw.nd rfl (Or.inl rfl) (Dv (Aa (pv 0) Ad)))
   (Ac (Bd (i := 3) sc__law_raw.nd rfl (Or.inl rfl) (Ai (Aq (K := K) T) (hr.mono (by decide)) (by rfl) T.u8 T.u9 (Ax T) .nil Ak (Aa (pv 2) (Aa Ab Ad))))
   (Ac (Bd (i := 4) sc__law_raw.nd rfl (Or.inl rfl) (Ai (Aq (K := K) T) (hr.mono (by decide)) (by rfl) T.u8 T.u9 (Ax T) .nil Ak (Aa (pv 2) (Aa Ab Ad))))
   (Ac (Bd (i := 5) sc__law_raw.nd rfl (Or.inl rfl) (Ai (Aq (K := K) T) (hr.mono (by decide)) (by rfl) T.u8 T.u9 (Ax T) .nil Ak (Aa (pv 2) (Aa Ab Ad))))
   (Ac (Bq (Al (Ck) (Ai (Aq (K := K) T) (hr.mono (by decide)) (by rfl) T.u8 T.u9 (Ax T) .nil Ak (Aa (pv 2) (Aa Ab Ad))) Ab (Ay _)) (Af (Bd (i := 5) sc__law_raw.nd rfl (Or.inl rfl) (Ai (Aq (K := K) T) (hr.mono (by decide)) (by rfl) T.u8 T.u9 (Ax T) .nil Ak (Aa (pv 2) (Aa (Az Cj (Az Hh Ab Ab) Ab) Ad))))) Av)
   (Ac (Bd (i := 6) sc__law_raw.nd rfl (Or.inl rfl) (Az Cj (Az Dp (Ai (Aq (K := K) T) (hr.mono (by decide)) (by rfl) T.u8 T.u9 (Ax T) .nil Ak (Aa (pv 2) (Aa Ab Ad))) Ab) (pv 1)))
   (Af (Am (Bw (Aa (pv 5) (Aa (pv 6) (Aa (pv 3) (Aa (pv 4) (Aa (Ao (Cv (K := K)) (pv 2) Ab (fun _ _ => rfl)) Ad)))))))))))))), ?_⟩
  simp only [start_eq]
  walk_at "nx"
  refine ⟨by rw [sizeLine_eq]; decide, fun l hl => ?_⟩
  have s1 := Same.new (o := .lst [.int s]) hl
  have h1 : (upd H l (.lst [.int s])) l = some (.lst [.int s]) := Ae
  generalize upd H l (.lst [.int s]) = H1 at s1 h1
  walk_at "nx"
  refine ⟨l, s, 8, rfl, h1, by decide, by decide, fun H2 D2 => ?_⟩
  have b2 := Ih (x := s) (m := 8) (lo := 0) (hi := 7) (by decide) (by decide) (by decide)
  generalize s % 8 = kd at b2
  walk_at "nx"
  refine ⟨l, _, 3, rfl, D2.h, by decide, by decide, fun H3 D3 => ?_⟩
  have D3 := D2.trans D3
  have b3 := Ih (x := s / 8) (m := 3) (lo := 0) (hi := 2) (by decide) (by decide) (by decide)
  generalize s / 8 % 3 = ix at b3
  walk_at "nx"
  refine ⟨l, _, 30, rfl, D3.h, by decide, by decide, fun H4 D4 => ?_⟩
  have D4 := D3.trans D4
  have b4 := Ih (x := s / 8 / 3) (m := 30) (lo := 0) (hi := 1000000) (by decide) (by decide) (by decide)
  generalize s / 8 / 3 % 30 = day at b4
  generalize s / 8 / 3 / 30 = c4 at D4
  walk_at "nx"
  refine ⟨l, c4, 6, rfl, D4.h, by decide, by decide, fun H5 D5 => ⟨rfl, ?_⟩⟩
  have D5 := D4.trans D5
  split
  ·refine ⟨Km (by decide) (by decide), l, _, _, rfl, D5.h, by decide, by decide, fun H6 D6 => ?_⟩
   have D6 := D5.trans D6
   have b6 := Ih (x := c4 / 6) (m := 10 ^ (6 : Int).toNat + 1) (lo := 0) (hi := 1000000) (by decide) (by decide) (by decide)
   generalize c4 / 6 % (10 ^ (6 : Int).toNat + 1) = dy at b6
   walk_at "nx"
   refine ⟨l, _, 2000, rfl, D6.h, by decide, by decide, fun H7 D7 => ⟨_, rfl, CMulU.r (by decide) (by decide), ?_⟩⟩
   have D7 := D6.trans D7
   rw [ap_ret]
   walk_at "rdi"
   refine ⟨_, SqL.of D7.h, _, rfl, by rw [sizeLine_eq]; decide, fun p hp => ?_⟩
   exact k p dy _ kd ix _ _ ((D7.same (Same.new hp)).off s1 hl) Ae b6 (Ih (by decide) (by decide) (by decide)) b2 b3
  ·walk_at "nx"
   refine ⟨l, _, 2000, rfl, D5.h, by decide, by decide, fun H7 D7 => ⟨_, rfl, CMulU.r (by decide) (by decide), ?_⟩⟩
   have D7 := D5.trans D7
   rw [ap_ret]
   walk_at "rdi"
   refine ⟨_, SqL.of D7.h, _, rfl, by rw [sizeLine_eq]; decide, fun p hp => ?_⟩
   exact k p day _ kd ix _ _ ((D7.same (Same.new hp)).off s1 hl) Ae b4 (Ih (by decide) (by decide) (by decide)) b2 b3
theorem abj (ns : List Int) (m : Nat) : ∃ cs : List Int, Xf (ns.map V.int) (some 1) (some ((m : Int) + 1)) = cs.map V.int /\ cs.length <= m := by
 refine ⟨(ns.drop (min 1 (ns.map V.int).length)).take (min (m + 1) (ns.map V.int).length - min 1 (ns.map V.int).length), ?_, ?_⟩
 ·rw [show ((m : Int) + 1) = ((m + 1 : Nat) : Int) by omega, show (1 : Int) = ((1 : Nat) : Int) from rfl]
  unfold Xf
  rw [HT.sIx_nat, HT.sIx_nat, List.map_take, List.map_drop]
 ·rw [List.length_take, List.length_drop]
  omega
def Oz (K : Fg_) : Sp := fun vs H Q _ => ∃ (a : Addr) (ns : List Int), vs = [.ref a] /\ SqL K H a (ns.map V.int) /\
 ∀ (p : Addr) (xs : List Int) H', Same H H' -> H p = Option.none -> H' p = some (.lst (xs.map V.int)) -> 1 <= xs.length -> xs.length <= 56 -> Q (.ref p) H'
theorem Oq (T : Txt K mg A D) : FnOk P w K mg base CX0 2 A.sI D.sI ["_law_script"] (Oz K) := by
 refine T.uZ.ok sc__law_sources (fun vs H Q E h => ?_) (fun cdv A' outer s0 H vs Q E hr h => ?_)
 ·obtain ⟨a, ns, rfl, _⟩ := h; rfl
 ·obtain ⟨a, ns, rfl, hS, k⟩ := h
  refine ⟨_, (Ac (Bd (i := 1) sc__law_sources.nd rfl (Or.inr rfl) (QJ (Ri (K := K)) (pv 0) (Rc Ab) (Rc Ab)))
   (Ac (Bq (PW.pt (Sh (Al (Ck) (Az Ci (Ai (Dw (K := K) T) (hr.mono (by decide)) (by rfl) T.uU T.uV (Es T) .nil Ak (Aa (pv 0) (Aa Ab Ad))) Ab) Ab (Ay _)) (Og (Al (Tv) (Bf (DX (K := K)) (by rfl) T.xM (by decide +kernel) (Aa (pv 1) Ad)) Ab (Ay _))))) (Af (Am (Eh (cap := [Option.none]) (N' := ["_law_cell"]) rfl (by walk_at "compok") (CN (K := K) (pv 1)) (fun _ _ _ _ => (Bm (i := 0) (show (["_law_cell"] : List Str).Nodup from by decide +kernel) rfl (Or.inl rfl) (Or.inr rfl))) (fun _ _ _ _ => Ec) (fun _ _ _ _ => (Az Ci (pv 0) (Az Dp (Az Hh Ab Ab) (Az Hh Ab Ab))))))) Av)
   (Ac (Bd (i := 1) sc__law_sources.nd rfl (Or.inr rfl) (Az Yu (pv 1) (Dv (Aa (Ai (Dw (K := K) T) (hr.mono (by decide)) (by rfl) T.uU T.uV (Es T) .nil Ak (Aa (pv 0) (Aa Ab Ad))) Ad))))
   (Ac (Bd (i := 2) sc__law_sources.nd rfl (Or.inl rfl) (Az Cj Ab (Az Ci (Az Ft (Ai (Dw (K := K) T) (hr.mono (by decide)) (by rfl) T.uU T.uV (Es T) .nil Ak (Aa (pv 0) (Aa Ab Ad))) Ab) Ab)))
   (Af (Am (Eh (cap := [Option.none, some 1]) (N' := ["_law_k", "_law_cells"]) rfl (by walk_at "compok") (Pz (by rfl) T.xL (Aa (pv 2) Ad)) (fun _ _ _ _ => (Bm (i := 0) (show (["_law_k", "_law_cells"] : List Str).Nodup from by decide +kernel) rfl (Or.inl rfl) (Or.inr rfl))) (fun _ _ _ _ => Ec) (fun _ _ _ _ => (Ai (QX (K := K) T) (hr.mono (by decide)) (by rfl) T.uR T.uS (RG T) .nil Ak (Aa (Ao (Cv (K := K)) (pv 1) (Az Ci (pv 0) (Bf (DX (K := K)) (by rfl) T.xM (by decide +kernel) (Aa (pv 1) Ad))) (fun _ _ => rfl)) (Aa (pv 0) Ad))))))))))), ?_⟩
  simp only [start_eq]
  walk_at "nx"
  refine ⟨_, hS, fun p hp => ?_⟩
  obtain ⟨cs, hcs, hcl⟩ := abj ns 56
  rw [show (57 : Int) = ((56 : Nat) : Int) + 1 from rfl, hcs]
  have s1 := Same.new (o := .lst (cs.map V.int)) hp
  have h1 : (upd H p (.lst (cs.map V.int))) p = some (.lst (cs.map V.int)) := Ae
  generalize upd H p (.lst (cs.map V.int)) = H1 at s1 h1
  (try dsimp only)
  refine Bc fun u hu => ?_
  rw [ap_seq]
  walk_at "rdi"
  have rest : u { nx := fun _ H' => Q V.non H', rt := Q } [some (V.ref a), some (V.ref p), Option.none] H1 := by
   subst hu
   walk_at "nx"
   refine ⟨a, ns, 0, rfl, s1.seq hS, ?_⟩
   generalize ns.getD 0 0 = c0
   refine ⟨by rw [sizeLine_eq]; decide, fun p1 hp1 => ?_⟩
   have s2 := Same.new (o := .lst [V.int c0]) hp1
   refine ⟨_, s2 _ _ h1, _, Ae, by rw [List.length_map, sizeLine_eq]; simp; omega, fun p2 hp2 => ?_⟩
   have s3 := Same.new (o := .lst (cs.map V.int ++ [V.int c0])) hp2
   have h3 : (upd (upd H1 p1 (.lst [V.int c0])) p2 (.lst (cs.map V.int ++ [V.int c0]))) p2 = some (.lst ((cs ++ [c0]).map V.int)) := by rw [Ae, List.map_append]; rfl
   have S3 := s1.trans (s2.trans s3)
   generalize upd (upd H1 p1 (.lst [V.int c0])) p2 (.lst (cs.map V.int ++ [V.int c0])) = H3 at S3 h3
   walk_at "nx"
   refine ⟨a, ns, 0, rfl, S3.seq hS, _, rfl, ⟨by decide, by decide⟩, by decide, ?_⟩
   obtain ⟨m, hm⟩ : ∃ m, m = 4 + ns.getD 0 0 / 2 % 24 := ⟨_, rfl⟩
   have bm : 4 <= m /\ m < 28 := by omega
   rw [<- hm]
   rw [ap_ret]
   walk_at "rdi"
   refine ⟨by omega, by omega, ?_⟩
   refine acp (fun σ => ∃ v, σ = [v, some (.ref p2)]) (fun i v _ => ∃ r, v = .int r) ⟨_, rfl⟩ (by rw [sizeLine_eq]; omega) ?_ ?_
   ·rintro Da i hi σ H5 R ⟨v, rfl⟩ sm hD hA kk
    walk_at "rdi"
    have h5 := sm _ _ h3
    have hpos : 0 < (cs ++ [c0]).length := by rw [List.length_append]; exact Nat.succ_pos _
    refine ⟨_, .inl (SqL.of h5), by rw [List.length_map]; omega, _, SqL.of h5, ?_⟩
    rw [List.length_map]
    generalize cs ++ [c0] = dl at hpos h5
    have e0 := Int.emod_nonneg (0 + (i : Int)) (show (dl.length : Int) ≠ 0 by omega)
    have e1 := Int.emod_lt_of_pos (0 + (i : Int)) (show (0 : Int) < dl.length by omega)
    obtain ⟨j, hj⟩ : ∃ j : Nat, (0 + (i : Int)) % (dl.length : Int) = j := ⟨_, (Int.toNat_of_nonneg e0).symm⟩
    rw [hj] at e1 ⊢
    have hjl : j < dl.length := by omega
    exact ⟨.int dl[j], JG (by rw [List.getElem?_map, List.getElem?_eq_getElem hjl]; rfl), _, _, rfl, by omega, by omega, fun r => kk _ _ H5 ⟨_, rfl⟩ (Same.refl _) fun _ _ => ⟨r, rfl⟩⟩
   ·intro Da H' acc hD sm hA hlen hF
    obtain ⟨xs, hx⟩ : ∃ xs : List Int, acc = xs.map V.int := by
     refine ⟨acc.map toI, ?_⟩
     rw [List.map_map]
     refine (Nh fun v hv => ?_).symm
     obtain ⟨j, hj, ej⟩ := List.getElem_of_mem hv
     obtain ⟨r, rfl⟩ := hF j v (by rw [List.getElem?_eq_getElem hj, ej])
     rfl
    rw [hx] at hA
    have hxl : xs.length = m.toNat := by rw [<- hlen, hx, List.length_map]
    exact k Da xs H' (S3.trans sm) (S3.free hD) hA (by omega) (by omega)
  refine ⟨a, ns, 0, rfl, s1.seq hS, _, rfl, by decide, ?_⟩
  split
  ·refine ⟨_, .inl (SqL.of h1), ?_⟩
   rw [List.length_map]
   split
   ·rename_i hc
    have c1 : CMulU (10 ^ (60 : Int).toNat) (10 ^ (30 : Int).toNat) := CMulU.big (by decide +kernel) (by decide +kernel)
    refine ⟨⟨_, SqL.of h1⟩, CompP.list (K := K) (fun σ => ∃ v, σ = [v]) (fun _ => true) (fun v => match v with | .int i => .int (i % (10 ^ (60 : Int).toNat * 10 ^ (30 : Int).toNat)) | v => v) (SqL.of h1) ⟨_, rfl⟩ (by rw [List.length_map, sizeLine_eq]; omega) ?_ ?_⟩
    ·rintro x hx σ H5 R1 R2 ⟨v, rfl⟩ sm k1 k2
     obtain ⟨i, _, rfl⟩ := List.mem_map.mp hx
     walk_at "rdi"
     exact ⟨Km (by decide) (by decide), Km (by decide) (by decide), c1, by decide +kernel, k1 rfl _ _ ⟨_, rfl⟩ (Same.refl _)⟩
    ·intro Da H' hD sm e
     rw [Kr, List.map_map] at e
     refine k Da (cs.map fun i => i % (10 ^ (60 : Int).toNat * 10 ^ (30 : Int).toNat)) H' (s1.trans sm) (s1.free hD) (by rw [e, List.map_map]; rfl) (by rw [List.length_map]; omega) (by rw [List.length_map]; exact hcl)
   ·exact rest
  ·exact rest
end
end My
namespace My
open PySem L2 PyProof.Rows
section
variable {P : Program} {w : World} {K : Fg_} {mg : Str -> Option Value} {base : Heap} {A : Adr} {D : Fds}
local macro_rules | `(tactic| walk_at "nx") => `(tactic| ((try dsimp only); refine Bc fun u hu => ?_; rw [ap_seq]; walk_at "rdi"; subst hu))
abbrev RWL := List (Addr × List Int)
def JP (rs : RWL) : List V := rs.map fun r => V.ref r.1
def XD (i : Nat) (xs : List Int) : Prop := ∃ d m kd ix rest : Int, xs = [d, m * 64 + i, kd, ix, rest] /\ Rg 0 1000000 d /\ Rg 0 1999 m /\ Rg 0 7 kd /\ Rg 0 2 ix
def RawAt (H : Hp) (rs : RWL) : Prop := ∀ r ∈ rs, H r.1 = some (.tup (r.2.map V.int))
theorem RawAt.same {H H' : Hp} {rs : RWL} (h : RawAt H rs) (s : Same H H') : RawAt H' rs := fun r hr => s _ _ (h r hr)
theorem ade {H : Hp} : ∀ {acc : List V} {j : Nat}, (∀ (i : Nat) v, acc[i]? = some v -> ∃ b xs, v = .ref b /\ H b = some (.tup (xs.map V.int)) /\ XD (j + i) xs) -> ∃ rs : RWL, acc = JP rs /\ RawAt H rs /\ ∀ (i : Nat) r, rs[i]? = some r -> XD (j + i) r.2
 | [], _, _ => ⟨[], rfl, fun r h => (List.not_mem_nil h).elim, fun i r h => by simp at h⟩
 | v :: acc, j, h => by
  obtain ⟨b, xs, rfl, hb, hx⟩ := h 0 v rfl
  obtain ⟨rs, e1, e2, e3⟩ := ade (acc := acc) (j := j + 1) fun i v hv => by
   have := h (i + 1) v hv
   rwa [show j + (i + 1) = j + 1 + i by omega] at this
  refine ⟨(b, xs) :: rs, by rw [e1]; rfl, fun r hr => ?_, fun i r hi => ?_⟩
  ·rcases List.mem_cons.mp hr with rfl | hr
   ·exact hb
   ·exact e2 r hr
  ·cases i with
   | zero => cases hi; exact hx
   | succ i => have := e3 i r hi; rwa [show j + 1 + i = j + (i + 1) by omega] at this
def aci (xs : List Int) : Int := xs.getD 1 0
theorem YS {rs : RWL} (hl : rs.length <= 56) (h : ∀ (i : Nat) r, rs[i]? = some r -> XD i r.2) : (rs.map fun r => aci r.2).Nodup := by
 refine List.pairwise_iff_getElem.mpr fun i j hi hj hij => ?_
 rw [List.length_map] at hi hj
 rw [List.getElem_map, List.getElem_map]
 obtain ⟨d, m, kd, ix, rest, e, _, bm, _⟩ := h i _ (List.getElem?_eq_getElem hi)
 obtain ⟨d', m', kd', ix', rest', e', _, bm', _⟩ := h j _ (List.getElem?_eq_getElem hj)
 rw [e, e']
 show m * 64 + (i : Int) ≠ m' * 64 + (j : Int)
 omega
def tsT (H : Hp) : V -> List Int
 | .ref b => match H b with
  | some (.tup xs) => xs.map toI
  | _ => []
 | _ => []
theorem adm {H : Hp} {b : Addr} {xs : List Int} (h : H b = some (.tup (xs.map V.int))) : tsT H (.ref b) = xs := by
 unfold tsT
 dsimp only
 rw [h]
 dsimp only
 rw [List.map_map]
 exact Nh fun x _ => rfl
structure Hs (B H : Hp) (pt c : Addr) (tl : EL) (kc : List (Key × V)) (ds : List Int) (i : Nat) : Prop where
 s : Same B H
 l : H pt = some (.lst (Bj tl))
 cd : H c = some (.dK kc)
 cn : B c = Option.none
 t : RowsAt H tl
 o : ∀ r ∈ tl, r.2.lots = Option.none
 k : Cnt kc
 m : ∀ z, GC kc z <= 1000000000
 u : (nums tl).Sublist (ds.take i)
 e : i = 0 \/ tl ≠ []
 z : tl = [] -> kc = []
 n : kc.length <= i
theorem Hs.same {B H H' : Hp} {pt c : Addr} {tl : EL} {kc : List (Key × V)} {ds : List Int} {i : Nat} (h : Hs B H pt c tl kc ds i) (s : Same H H') : Hs B H' pt c tl kc ds i :=
 ⟨h.s.trans s, s _ _ h.l, s _ _ h.cd, h.cn, h.t.same s, h.o, h.k, h.m, h.u, h.e, h.z, h.n⟩
def Pb (K : Fg_) : Sp := fun vs H Q _ => ∃ (a : Addr) (ns : List Int), vs = [.ref a, .bl true] /\ SqL K H a (ns.map V.int) /\
 ∀ p (tl : EL) H', Same H H' -> H p = Option.none -> H' p = some (.lst (Bj tl)) -> RowsAt H' tl -> (∀ r ∈ tl, r.2.lots = Option.none) -> tl.length <= 56 -> tl ≠ [] -> (nums tl).Nodup -> (∀ n ∈ nums tl, n < 700000) -> Q (.ref p) H'
theorem OD (T : Txt K mg A D) : FnOk P w K mg base CX0 4 A.sS D.sS ["_law_script", "_law_giving"] (Pb K) := by
 refine T.vF.ok sc__law_history (fun vs H Q E h => ?_) (fun cdv A' outer s0 H vs Q E hr h => ?_)
 ·obtain ⟨a, ns, rfl, _⟩ := h; rfl
 ·obtain ⟨a, ns, rfl, hS, k⟩ := h
  refine ⟨_, (Ac (Bd (i := 2) sc__law_history.nd rfl (Or.inl rfl) Ni)
   (Ac (Bd (i := 3) sc__law_history.nd rfl (Or.inl rfl) (Dv Ad))
   (Ac (Bd (i := 4) sc__law_history.nd rfl (Or.inr rfl) (Ai (Oq (K := K) T) (hr.mono (by decide)) (by rfl) T.uX T.uY (Qk T) .nil Ak (Aa (pv 0) Ad)))
   (Ac (Mp PassesOwn.never rfl (CN (K := K) (Bf (Om (K := K)) (by rfl) T.xO (by decide +kernel) (Aa (Eh (cap := [Option.none, some 4]) (N' := ["_law_k", "_law_sources_here"]) rfl (by walk_at "compok") (Pz (by rfl) T.xL (Aa (Bf (DX (K := K)) (by rfl) T.xM (by decide +kernel) (Aa (pv 4) Ad)) Ad)) (fun _ _ _ _ => (Bm (i := 0) (show (["_law_k", "_law_sources_here"] : List Str).Nodup from by decide +kernel) rfl (Or.inl rfl) (Or.inr rfl))) (fun _ _ _ _ => Ec) (fun _ _ _ _ => (Ai (Vh (K := K) T) (hr.mono (by decide)) (by rfl) T.vA T.vB (Xa T) .nil Ak (Aa (Ao (Cv (K := K)) (pv 1) (pv 0) (fun _ _ => rfl)) (Aa (pv 0) Ad))))) Ad))) (Bm (i := 5) sc__law_history.nd rfl (Or.inl rfl))
    (Ac (Bd (i := 6) sc__law_history.nd rfl (Or.inl rfl) (Ai (Ve (K := K) T) (hr.mono (by decide)) (by rfl) T.vt T.vv (WP T) .nil Ak (Aa (pv 5) (Aa (pv 2) (Aa (pv 1) Ad)))))
    (Ac (Bd (i := 7) sc__law_history.nd rfl (Or.inr rfl) (Ai (Nq (K := K) T) (hr.mono (by decide)) (by rfl) T.vx T.vy (PN T) .nil Ak (Aa (pv 2) (Aa (pv 6) Ad))))
    (Af (Bq (Al (adL) (Bf (Xb (K := K) rfl) (by rfl) T.xP (by decide +kernel) (Aa (Az Yu (Dv (Aa Ab Ad)) (Uc (Eh (cap := [Option.none, some 7]) (N' := ["_law_ware", "_law_more"]) rfl (by walk_at "compok") (Xw (pv 7)) (fun _ _ _ _ => (Bm (i := 0) (show (["_law_ware", "_law_more"] : List Str).Nodup from by decide +kernel) rfl (Or.inl rfl) (Or.inr rfl))) (fun _ _ _ _ => Ec) (fun _ _ _ _ => (JK (Ff hr) (pv 1) (pv 0) (fun _ _ => rfl)))))) Ad)) (Az Hh Ab Ab) (Ay _)) (Ac (Bh (Qo (K := K) PySem.F.plainAttrs_list PySem.F.slot_list_append PySem.F.type_list_append Ja (pv 3) (Aa (pv 6) Ad)))
     (Af (Bd (i := 2) sc__law_history.nd rfl (Or.inl rfl) (pv 7)))) Av)))))
   (Af (Am (pv 3))))))), ?_⟩
  simp only [start_eq]
  walk_at "nx"
  intro pd hpd
  have s1 := Same.new (o := .dK []) hpd
  have h1d : (upd H pd (.dK [])) pd = some (.dK []) := Ae
  generalize upd H pd (.dK []) = H1 at s1 h1d
  walk_at "nx"
  refine ⟨by rw [sizeLine_eq]; decide, fun pt hpt => ?_⟩
  have s2 := Same.new (o := .lst []) hpt
  have h2t : (upd H1 pt (.lst [])) pt = some (.lst []) := Ae
  have h2d := s2 _ _ h1d
  generalize upd H1 pt (.lst []) = H2 at s2 h2t h2d
  have S2 := s1.trans s2
  walk_at "nx"
  refine ⟨a, ns, rfl, S2.seq hS, fun q xs H3 s3 hq h3 hx1 hx2 => ?_⟩
  have S3 := S2.trans s3
  (try dsimp only)
  refine Bc fun u hu => ?_
  rw [ap_seq]
  refine Nf fun tb htb => ?_
  rw [ap_for]
  walk_at "rdi"
  refine ⟨_, .inl (SqL.of h3), by omega, by rw [List.length_map]; omega, ?_⟩
  rw [List.length_map, Int.toNat_natCast]
  have lz : ∀ n : Nat, n <= 1000 -> n <= sizeLine := fun n h => by rw [sizeLine_eq]; omega
  refine acp (fun σ => ∃ v, σ = [v, some (.ref q)]) (fun i v H' => ∃ b ys, v = .ref b /\ H' b = some (.tup (ys.map V.int)) /\ XD i ys) ⟨_, rfl⟩ (lz _ (by omega)) ?_ ?_
  ·rintro Da i hi σ H5 R ⟨_, rfl⟩ sm hD ⟨acc, hA⟩ kk
   walk_at "rdi"
   rw [Int.zero_add]
   refine ⟨_, SqL.of (sm _ _ h3), .int xs[i], JG (by rw [List.getElem?_map, List.getElem?_eq_getElem hi]; rfl), xs[i], i, rfl, fun t d m kd ix rest H6 s6 ht bd bm bk bi => ?_⟩
   refine kk (.ref t) _ H6 ⟨_, rfl⟩ s6 fun H' hb => ⟨t, [d, m * 64 + i, kd, ix, rest], rfl, hb _ _ (fun z => ?_) ht, d, m, kd, ix, rest, rfl, bd, bm, bk, bi⟩
   rw [z, s6 _ _ hA] at ht; cases ht
  ·intro Da H4 acc hD s4 hA hlen hF
   obtain ⟨rs, e1, e2, e3⟩ := ade (H := H4) (acc := acc) (j := 0) (fun i v hv => by rw [Nat.zero_add]; exact hF i v hv)
   rw [e1] at hA
   have hrl : rs.length = xs.length := by rw [<- hlen, e1]; unfold JP; rw [List.length_map]
   have hraw : ∀ (i : Nat) r, rs[i]? = some r -> XD i r.2 := fun i r h => by have := e3 i r h; rwa [Nat.zero_add] at this
   have hnu := YS (by omega) hraw
   rw [ap_rSortP]
   have hts : ∀ r ∈ rs, tsT H4 (.ref r.1) = r.2 := fun r hr => adm (e2 r hr)
   refine ⟨_, tsT H4, 4, SqL.of hA, by unfold JP; rw [List.length_map]; omega, ?_, fun y hy => ?_, fun p zs hp hperm _ => ?_⟩
   ·unfold JP
    rw [List.map_map]
    refine List.pairwise_map.mpr (List.Pairwise.imp_of_mem (fun {a b} ha hb h z => h ?_) (List.pairwise_map.mp hnu))
    have z : tsT H4 (.ref a.1) = tsT H4 (.ref b.1) := z
    rw [hts a ha, hts b hb] at z
    rw [z]
   ·obtain ⟨r, hr, rfl⟩ := List.mem_map.mp hy
    rw [hts r hr]
    obtain ⟨j, hj⟩ := List.getElem?_of_mem hr
    obtain ⟨d, m, kd, ix, rest, e, _⟩ := hraw j r hj
    exact ⟨by rw [e]; rfl, r.1, [], rfl, SqT.of (by rw [List.append_nil]; exact e2 r hr)⟩
   ·obtain ⟨os, rfl, hpm⟩ := Lw (f := fun r : Addr × List Int => V.ref r.1) hperm rfl
    have s5 := Same.new (o := .lst (JP os)) hp
    have h5 : (upd H4 p (.lst (JP os))) p = some (.lst (JP os)) := Ae
    change (∃ a_1, _)
    have S5 := S3.trans (s4.trans s5)
    have S25 := s3.trans (s4.trans s5)
    have hR5 : RawAt (upd H4 p (.lst (JP os))) os := fun r hr => s5 _ _ (e2 r (hpm.mem_iff.mp hr))
    have hpe : (upd H4 p (.lst (os.map fun r => V.ref r.1))) = upd H4 p (.lst (JP os)) := rfl
    rw [hpe]
    generalize upd H4 p (.lst (JP os)) = H5 at s5 h5 S5 S25 hR5
    have hptp : p ≠ pt := fun z => by rw [z, (s3.trans s4) _ _ h2t] at hp; cases hp
    refine ⟨p, rfl, ⟨_, SqL.of h5⟩, ?_⟩
    have hol : os.length = xs.length := by rw [hpm.length_eq, hrl]
    have hpt0 := s1.free hpt
    refine ForP.list (K := K) (a := p) (xs := JP os) (fun i σ Hx => ∃ (c : Addr) (tl : EL) (kc : List (Key × V)) (v5 v6 v7 : Option V), σ = [some (.ref a), some (.bl true), some (.ref c), some (.ref pt), some (.ref q), v5, v6, v7] /\ Hs H Hx pt c tl kc (os.map fun r => aci r.2) i /\ Hx p = some (.lst (JP os)) /\ RawAt Hx os)
     ⟨pd, [], [], _, _, _, rfl, ⟨S5, S25 _ _ h2t, S25 _ _ h2d, hpd, fun r h => (List.not_mem_nil h).elim, fun r h => (List.not_mem_nil h).elim, Cnt.nil, fun z => by show (0 : Int) <= _; decide, List.Sublist.refl _, .inl rfl, fun _ => rfl, Nat.le_refl _⟩, h5, hR5⟩ (fun i σ Hx _ ⟨_, _, _, _, _, _, _, _, h, _⟩ => SqL.of h) ?_ ?_
    ·rintro i y σ Hx hi ⟨c, tl, kc, v5, v6, v7, rfl, L, hpx, hRx⟩
     obtain ⟨r, hri, rfl⟩ : ∃ r, os[i]? = some r /\ y = .ref r.1 := by
      unfold JP at hi
      rw [List.getElem?_map] at hi
      cases e : os[i]? with
      | none => rw [e] at hi; cases hi
      | some r => rw [e] at hi; exact ⟨r, rfl, (Option.some.inj hi).symm⟩
     have hrm := List.mem_of_getElem? hri
     obtain ⟨j, hj⟩ := List.getElem?_of_mem (hpm.mem_iff.mp hrm)
     obtain ⟨d, m, kd, ix, rest, er, bd, bm, bk, bi⟩ := hraw j r hj
     have hjl : j < rs.length := (List.getElem?_eq_some_iff.mp hj).1
     have hil : i < os.length := (List.getElem?_eq_some_iff.mp hri).1
     have hrx := hRx r hrm
     rw [er] at hrx
     subst htb
     walk_at "nx"
     unfold Rg at bm
     refine ⟨r.1, c, d, m * 64 + j, kd, ix, rest, kc, rfl, hrx, L.cd, L.k, L.m, bd, ⟨by omega, by omega⟩, bk, bi, fun t e H6 s6 ht hg ho hed hen hFt => ?_⟩
     have L6 := L.same s6
     walk_at "nx"
     have hn6 := L6.n
     refine ⟨c, t, kc, e, rfl, L6.cd, L6.k, L6.m, by omega, ht, hg, hFt, fun q2 z iv H7 s7 hq2 h7 hi0 hi1 => ?_⟩
     have L7 := L6.same s7
     (try dsimp only)
     walk_at "rdi"
     obtain ⟨k2, hk2⟩ : ∃ k2, k2 = putK kc (Sum.inr z) (.int iv) := ⟨_, rfl⟩
     rw [<- hk2] at h7
     have hC2 : Cnt k2 := hk2 ▸ L7.k.put z hi0
     have hl2 : k2.length <= kc.length + 1 := hk2 ▸ Vs _ _ _
     have hq20 : H q2 = Option.none := L6.s.free hq2
     refine ⟨lz _ (by decide), fun p1 hp1 => ?_⟩
     have s8 := Same.new (o := .lst [V.int 0]) hp1
     have h8l : (upd H7 p1 (.lst [V.int 0])) p1 = some (.lst [V.int 0]) := Ae
     generalize upd H7 p1 (.lst [V.int 0]) = H8 at s8 h8l
     have L8 := L7.same s8
     have h8 := s8 _ _ h7
     have ht8 := s8 _ _ (s7 _ _ ht)
     have hR8 := ((hRx.same s6).same s7).same s8
     have hp8 := s8 _ _ (s7 _ _ (s6 _ _ hpx))
     refine ⟨k2, h8, fun o => ?_⟩
     have h9 : (upd H8 q2 (.frz o (.dK k2))) q2 = some (.frz o (.dK k2)) := Ae
     have o9 : But q2 H8 (upd H8 q2 (.frz o (.dK k2))) := Eb
     generalize upd H8 q2 (.frz o (.dK k2)) = H9 at h9 o9
     refine Vr (fun σ => ∃ v, σ = [v, some (.ref q2)]) (fun i v _ => ∃ kv, k2[i]? = some kv /\ v = kv.2) h9 ⟨_, rfl⟩ (lz _ (by omega)) ?_ ?_
     ·rintro Db j' kv hkv σ H10 R ⟨_, rfl⟩ sm hDb hAb kk
      have hv := Qy hC2.u (k := kv.1) (v := kv.2) (List.mem_of_getElem? hkv)
      walk_at "rdi"
      exact ⟨kv.2, hv ▸ .inl ⟨_, kv.1, .inr ⟨o, sm _ _ h9⟩, rfl, rfl⟩, kk _ _ _ ⟨_, rfl⟩ (Same.refl _) fun _ _ => ⟨kv, hkv, rfl⟩⟩
     ·intro Db H10 acc2 hDb s10 hAb hlen2 hF2
      have hb' := s10 _ _ h9
      have hne : Db ≠ q2 := fun e => by rw [e, h9] at hDb; cases hDb
      refine ⟨q2, o, k2, hb', fun o' u' e => ?_, ?_⟩
      ·have e : H q2 = some (.frz o' u') := e
       rw [hq20] at e; cases e
      have S : Same H8 (upd H10 q2 (.dK k2)) := fun a u h => by
       by_cases e : a = q2
       ·subst e; rw [h8] at h; rw [Ae]; exact h
       ·exact (Aj e).trans (s10 _ _ (o9 a u e h))
      have hA11 : (upd H10 q2 (.dK k2)) Db = some (.lst ((k2.map fun kv => toI kv.2).map V.int)) := by
       refine (Aj hne).trans (hAb.trans ?_)
       congr 2
       refine List.ext_getElem? fun n => ?_
       rw [List.getElem?_map, List.getElem?_map]
       by_cases hn : n < acc2.length
       ·obtain ⟨kv, g1, g2⟩ := hF2 n _ (List.getElem?_eq_getElem hn)
        obtain ⟨z', i', e', _⟩ := hC2.k kv (List.mem_of_getElem? g1)
        rw [List.getElem?_eq_getElem hn, g2, g1, e']
        rfl
       ·rw [List.getElem?_eq_none (by omega), List.getElem?_eq_none (by omega)]
        rfl
      generalize upd H10 q2 (.dK k2) = H11 at S hA11
      walk_at "rdi"
      refine ⟨_, S _ _ h8l, _, hA11, by rw [List.length_map, List.length_map, sizeLine_eq]; simp; omega, fun p3 hp3 => ?_⟩
      have s12 := Same.new (o := .lst ([V.int 0] ++ (k2.map fun kv => toI kv.2).map V.int)) hp3
      have h12 : (upd H11 p3 (.lst ([V.int 0] ++ (k2.map fun kv => toI kv.2).map V.int))) p3 = some (.lst ((0 :: k2.map fun kv => toI kv.2).map V.int)) := Ae
      generalize upd H11 p3 (.lst ([V.int 0] ++ (k2.map fun kv => toI kv.2).map V.int)) = H12 at s12 h12
      have S12 := S.trans s12
      have L12 := L8.same S12
      have hq12 : H12 q2 = some (.dK k2) := S12 _ _ h8
      have hgetds : (os.map fun r => aci r.2)[i]? = some e.num := by
       rw [List.getElem?_map, hri, hen]
       show some (aci r.2) = _
       rw [er]
       rfl
      refine ⟨_, SqL.of h12, List.cons_ne_nil _ _, fun M hM1 hM2 => ⟨Km (by decide) (by decide), ?_⟩⟩
      rw [show (10 : Int) ^ (9 : Int).toNat = 1000000000 by decide]
      split
      ·rename_i hMle
       walk_at "nx"
       refine ⟨.inl ⟨rfl, _, SqL.of L12.l⟩, _, L12.l, by rw [Bk, sizeLine_eq]; have := L12.u.length_le; rw [List.length_take] at this; unfold nums at this; rw [List.length_map] at this; omega, ?_⟩
       walk_at "rdi"
       have hpt12 : ∀ {b : Addr} {ys : List V}, H12 b = some (.tup ys) -> b ≠ pt := fun h e => by rw [e, L12.l] at h; cases h
       have hq2pt : q2 ≠ pt := fun e => by rw [e, L12.l] at hq12; cases hq12
       have ht12 := S12 _ _ ht8
       refine ⟨tl ++ [(t, e)], k2, ⟨L12.s.upd hpt0, ?_, (Aj hq2pt).trans hq12, hq20, fun r' hr' => ?_, fun r' hr' => ?_, hC2, fun z' => ?_, ?_, .inr (by simp), fun e => by simp at e, by omega⟩, (Aj hptp).trans (S12 _ _ hp8), fun r' hr' => (Aj (hpt12 (S12 _ _ (hR8 r' hr')))).trans (S12 _ _ (hR8 r' hr'))⟩
       ·rw [Ae]; unfold Bj; rw [List.map_append]; rfl
       ·rcases List.mem_append.mp hr' with hr' | hr'
        ·exact ⟨(L12.t r' hr').1.put L12.l, (L12.t r' hr').2⟩
        ·obtain rfl := List.mem_singleton.mp hr'
         exact ⟨⟨.non, (Aj (hpt12 ht12)).trans ht12, by rw [ho]; exact rfl⟩, hg⟩
       ·rcases List.mem_append.mp hr' with hr' | hr'
        ·exact L12.o r' hr'
        ·obtain rfl := List.mem_singleton.mp hr'
         exact ho
       ·unfold GC
        cases ev : Gs k2 (Sum.inr z') with
        | none => show (0 : Int) <= _; decide
        | some v =>
         obtain ⟨y', i', ey, _⟩ := hC2.k _ (Rk ev)
         have hmem := hM2 (toI v) (List.mem_cons_of_mem _ (List.mem_map.mpr ⟨_, Rk ev, rfl⟩))
         cases ey
         exact Int.le_trans hmem hMle
       ·have hn : nums (tl ++ [(t, e)]) = nums tl ++ [e.num] := by unfold nums; rw [List.map_append]; rfl
        rw [hn, List.take_add_one, hgetds]
        exact L12.u.append (List.Sublist.refl _)
      ·rename_i hMn
       have hne0 : tl ≠ [] := fun e0 => hMn (by
        have hk0 := L12.z e0
        have hiv := hi1 hk0
        rw [hk0] at hk2
        have hk3 : k2 = [(Sum.inr z, .int iv)] := hk2
        rw [hk3] at hM1
        rcases List.mem_cons.mp hM1 with e | e
        ·omega
        ·have : M = iv := List.mem_singleton.mp e
         omega)
       refine ⟨tl, kc, ⟨L12.s, L12.l, L12.cd, L12.cn, L12.t, L12.o, L12.k, L12.m, L12.u.trans ?_, .inr hne0, L12.z, by have := L12.n; omega⟩, S12 _ _ hp8, hR8.same S12⟩
       rw [List.take_add_one]
       exact List.sublist_append_left _ _
    ·rintro σ Hx ⟨c, tl, kc, v5, v6, v7, rfl, L, hpx, hRx⟩
     subst hu
     walk_at "rda"
     have hlen' : (JP os).length = os.length := by unfold JP; rw [List.length_map]
     rw [hlen'] at L
     have hu := L.u
     rw [List.take_of_length_le (by rw [List.length_map]; exact Nat.le_refl _)] at hu
     have hnu' : (os.map fun r => aci r.2).Nodup := (hpm.map (fun r : Addr × List Int => aci r.2)).nodup_iff.mpr hnu
     have htl : tl.length <= os.length := by
      have := hu.length_le
      unfold nums at this
      rwa [List.length_map, List.length_map] at this
     refine k pt tl Hx L.s hpt0 L.l L.t L.o (by omega) (L.e.resolve_left (by omega)) (hu.nodup hnu') fun n hn => ?_
     obtain ⟨r, hr, rfl⟩ := List.mem_map.mp (hu.subset hn)
     obtain ⟨j, hj⟩ := List.getElem?_of_mem (hpm.mem_iff.mp hr)
     have hjl : j < rs.length := (List.getElem?_eq_some_iff.mp hj).1
     obtain ⟨d, m, kd, ix, rest, er, bd, bm, bk, bi⟩ := hraw j r hj
     rw [er]
     unfold Rg at bm
     show m * 64 + (j : Int) < 700000
     omega
end
end My
namespace My
open PySem L2 PyProof.Rows
section
variable {P : Program} {w : World} {K : Fg_} {mg : Str -> Option Value} {base : Heap} {A : Adr} {D : Fds}
def Wn (K : Fg_) : Sp := fun vs H Q _ => ∃ (a : Addr) (ns : List Int), vs = [.ref a] /\ SqL K H a (ns.map V.int) /\ ns.length <= 63 /\ ∀ H', Q (.bl true) H'
theorem Te {H : Hp} : ∀ {ts : EL}, (∀ r ∈ ts, TupE H r.1 r.2) -> RepsD K H (Bj ts) (ts.map fun r => r.2.dvT)
 | [], _ => .nil
 | r :: ts, h => .cons (Rz (h r (.head _))) (Te fun q hq => h q (.tail _ hq))
theorem Le : ∀ es : List Ent, Ef (es.map Ent.dvT) <= 19
 | [] => by decide
 | e :: es => by
  rw [List.map_cons]
  unfold Ef
  refine Nat.max_le.mpr ⟨?_, Le es⟩
  cases e with
  | sell d n w p r f o => have := Vn o; simp only [Ent.dvT, Ent.argsD, GX, Ef]; omega
  | give d n w p o => have := Vn o; simp only [Ent.dvT, Ent.argsD, GX, Ef]; omega
  | _ => simp only [Ent.dvT, Ent.argsD, GX, Ef]; decide
theorem Kc {H : Hp} {p : Addr} {ts : EL} (hp : H p = some (.lst (Bj ts))) (h : ∀ r ∈ ts, TupE H r.1 r.2) : RepD K H (.ref p) (.lst ((ts.map (·.2)).map Ent.dvT)) := by
 rw [List.map_map]
 exact .lst (SqL.of hp) (Te h)
theorem Ly {H : Hp} {Q : VK} {p q : Addr} {ts us : EL} (hp : H p = some (.lst (Bj ts))) (hq : H q = some (.lst (Bj us))) (h1 : ∀ r ∈ ts, TupE H r.1 r.2) (h2 : ∀ r ∈ us, TupE H r.1 r.2) (e : ts.map (·.2) = us.map (·.2)) (k : Q (.bl false) H) : adF K (.ref p) (.ref q) H Q :=
 ⟨_, _, Kc hp h1, e ▸ Kc hq h2, Nat.succ_le_succ (Nat.zero_le _), Nat.succ_le_succ (Le _), by rw [Hg]; exact k⟩
theorem Wu {H : Hp} {Q : VK} {p q : Addr} {ts us : EL} (hp : H p = some (.lst (Bj ts))) (hq : H q = some (.lst (Bj us))) (h1 : ∀ r ∈ ts, TupE H r.1 r.2) (h2 : ∀ r ∈ us, TupE H r.1 r.2) (e : ts.map (·.2) = us.map (·.2)) (k : Q (.bl true) H) : adU K (.ref p) (.ref q) H Q :=
 ⟨_, _, Kc hp h1, e ▸ Kc hq h2, Nat.succ_le_succ (Nat.zero_le _), Nat.succ_le_succ (Le _), by rw [Hg]; exact k⟩
end
end My
namespace My
open PySem L2 PyProof.Rows
section
variable {P : Program} {w : World} {K : Fg_} {mg : Str -> Option Value} {base : Heap} {A : Adr} {D : Fds}
structure PEo (X : Cx) (e : Expr) (t : TE) : Prop where
 h : PE X e t
theorem Qv {X : Cx} {K : Fg_} {x : Str} {ts : List Expr} {x1 : _} {te to : TE} {p1 p2 p3 p4 p5 : Pos} (ho : PE X (.Name x p1) to) (he : PEo X (.Tuple ts x1 p5) te) (hl : (p2.endLine == p3.line) = true := by rfl) (hK : X.K = K := by rfl) : PS X (.Expr (.Call (.Attribute (.Name x p1) "append" p2) [.Tuple ts x1 p5] [] p3) p4) (aby (tBM K "list" Ry to (Dt te Vf))) :=
 Bh (Qo (K := K) PySem.F.plainAttrs_list PySem.F.slot_list_append PySem.F.type_list_append Ja ho (Aa he.h Ad) (hline := hl) (hK := hK))
noncomputable def Uk (T : Txt K mg A D) (cdv : Value) (A' : Around) (outer : List Env) (s0 : Shared) (H : Hp) (E : XK) (hr : Room 11 (A'.deeper (envOfC "law" (Ag Vb) s0.heap.objs.size A.law cdv))) :
  { t : TS // PSs (Lk CX0 P w K mg base ["_law_script", "_law_rows", "_law_ledger", "_law_model", "_law_entry_here", "_law_gone", "_law_cell", "_law_found"] "law" (Ag Vb) A.law cdv A' outer s0 H E).nox (CJ Vb) t } :=
 ⟨_, (Ac (Bd (i := 1) sc_law.nd rfl (Or.inl rfl) (Ai (OD (K := K) T) (hr.mono (by decide)) (by rfl) T.vD T.vE (Ql T) .nil Ak (Aa (pv 0) (Aa HF Ad))))
   (Ac (Qv (K := K) (pv 1) (te := aaE (Dt (tC (V.str "sell")) (Dt (tC (V.int 3)) (Dt (tC (V.int 700000)) (Dt (tC (V.str "tin")) (Dt (tC (V.int 7)) (Dt (tC (V.int 2)) (Dt (tC (V.int 1)) (Dt (aaE (Dt (aaE (Dt (tC (V.int 4)) (Dt (tC (V.int 5)) Vf))) (Dt (aaE (Dt (tC (V.int 9)) (Dt (tC (V.int 2)) Vf))) Vf))) Vf))))))))) (by refine PEo.mk (Bw ?_); refine Aa ?_ ?_; (exact Aw); refine Aa ?_ ?_; (exact Ab); refine Aa ?_ ?_; (exact Ab); refine Aa ?_ ?_; (exact Aw); refine Aa ?_ ?_; (exact Ab); refine Aa ?_ ?_; (exact Ab); refine Aa ?_ ?_; (exact Ab); refine Aa ?_ ?_; (refine Bw ?_; refine Aa ?_ ?_; (refine Bw ?_; refine Aa ?_ ?_; (exact Ab); refine Aa ?_ ?_; (exact Ab); exact Ad); refine Aa ?_ ?_; (refine Bw ?_; refine Aa ?_ ?_; (exact Ab); refine Aa ?_ ?_; (exact Ab); exact Ad); exact Ad); exact Ad))
   (Ac (Qv (K := K) (pv 1) (te := aaE (Dt (tC (V.str "give")) (Dt (tC (V.int 2)) (Dt (tC (V.int 700001)) (Dt (tC (V.str "ore")) (Dt (tC (V.int 3)) (Dt (aaE (Dt (aaE (Dt (tC (V.int 8)) (Dt (tC (V.int 3)) Vf))) Vf)) Vf))))))) (by refine PEo.mk (Bw ?_); refine Aa ?_ ?_; (exact Aw); refine Aa ?_ ?_; (exact Ab); refine Aa ?_ ?_; (exact Ab); refine Aa ?_ ?_; (exact Aw); refine Aa ?_ ?_; (exact Ab); refine Aa ?_ ?_; (refine Bw ?_; refine Aa ?_ ?_; (refine Bw ?_; refine Aa ?_ ?_; (exact Ab); refine Aa ?_ ?_; (exact Ab); exact Ad); exact Ad); exact Ad))
   (Ac (Bd (i := 2) sc_law.nd rfl (Or.inl rfl) (aay T.zJ (KY (K := K) T) (hr.mono (by decide)) (by rfl) T.x4 (LC T) .nil Ak))
   (Ac (Bq (PW.pt (Kp (Al (Nk (K := K) hr) (Bt (pv 2) (.cons T.yI T.z0 (CP (K := K) T) (hr.mono (by decide)) (Dc T) .nil) Ak) (Dv Ad) (Ay _)) (Jd (IK (Iu (Ai (DG (K := K) T) (hr.mono (by decide)) (by rfl) T.xl T.xm (El T) .nil Ak (Aa (pv 2) (Aa Ab (Aa (Ai (Ko (K := K) T) (hr.mono (by decide)) (by rfl) T.xo T.xp (Mi T) .nil Ak (Aa (Ao (Cv (K := K)) (pv 1) Ab (fun _ _ => rfl)) Ad)) Ad))))))))) (Af (Am HF)) Av)
   (Ac (Bd (i := 3) sc_law.nd rfl (Or.inl rfl) Ni)
   (Ac (Mp PassesOwn.never rfl (CN (K := K) (Ai (Qj (K := K) T) (hr.mono (by decide)) (by rfl) T.vH T.vI (QM T) .nil Ak (Aa (Eh (cap := [Option.none]) (N' := ["_law_row_here"]) rfl (by walk_at "compok") (CN (K := K) (pv 1)) (fun _ _ _ _ => (Bm (i := 0) (show (["_law_row_here"] : List Str).Nodup from by decide +kernel) rfl (Or.inl rfl) (Or.inr rfl))) (fun _ _ _ _ => Ec) (fun _ _ _ _ => (Ai (Gg (K := K) T) (hr.mono (by decide)) (by rfl) T.xv T.xw (Hq T) .nil Ak (Aa (pv 0) Ad)))) (Aa (Ai (Dw (K := K) T) (hr.mono (by decide)) (by rfl) T.uU T.uV (Es T) .nil Ak (Aa (pv 0) (Aa Ab Ad))) Ad)))) (Bm (i := 4) sc_law.nd rfl (Or.inl rfl))
    (Ac (Gy (Ff hr) (pv 3) (Ar (K := K) (pv 4) rfl) (Bt (pv 4) (.cons T.yS T.zQ (Gb (K := K) T) (hr.mono (by decide)) (GD T) (.cons T.y3 T.zR (Ew (K := K) T) (hr.mono (by decide)) (FT T) (.cons T.zf T.zS (Ez (K := K) T) (hr.mono (by decide)) (FJ T) (.cons T.zn T.zT (Fb (K := K) T) (hr.mono (by decide)) (FP T) (.cons T.zv T.zU (DW (K := K) T) (hr.mono (by decide)) (Ey T) (.cons T.yK T.zV (CK (K := K) T) (hr.mono (by decide)) (CW T) .nil)))))) Ak) rfl)
    (Af (Bq (Al (Um) (Jp (pv 2) (.cons T.yI T.zX (FZ (K := K) T) (hr.mono (by decide)) (Gz T) .nil) aak (Aa (pv 4) Ad)) Jz (Ay _)) (Af (Am HF)) Av))))
   (Ac (Bd (i := 5) sc_law.nd rfl (Or.inl rfl) (Dv Ad))
   (Ac (Mp PassesOwn.never rfl (CN (K := K) (QJ (Ri (K := K)) (pv 0) YZ (Rc Ab))) (Bm (i := 6) sc_law.nd rfl (Or.inl rfl))
    (Af (Bq (PW.pt (Kp (IK (Iu (Ai (Tu (K := K) T) (hr.mono (by decide)) (by rfl) T.xH T.xI (Ue T) .nil Ak (Aa (pv 2) (Aa (pv 3) (Aa (pv 5) (Aa (pv 6) Ad))))))) (Jd (Al (Nk (K := K) hr) (Ai (Hv (K := K) T) (hr.mono (by decide)) (by rfl) T.wU T.wV (Je T) .nil Ak (Aa (Bt (pv 2) (.cons T.yI T.z0 (CP (K := K) T) (hr.mono (by decide)) (Dc T) .nil) Ak) Ad)) (Ai (Dq (K := K) T) (hr.mono (by decide)) (by rfl) T.wX T.wY (Du T) .nil Ak (Aa (pv 3) Ad)) (Ay _))))) (Af (Am HF)) Av)))
   (Ac (Bd (i := 7) sc_law.nd rfl (Or.inl rfl) (Bt (pv 2) (.cons T.yI T.z0 (CP (K := K) T) (hr.mono (by decide)) (Dc T) .nil) Ak))
   (Ac (Bq (PW.pt (Kp (IK (Iu (Bf (IW (K := K)) (by rfl) T.xR (by decide +kernel) (Aa (pv 7) (Aa (WD "list" (by rfl) T.xW (by decide +kernel)) Ad))))) (Jd (Al (Nk (K := K) hr) (Ai (Hv (K := K) T) (hr.mono (by decide)) (by rfl) T.wU T.wV (Je T) .nil Ak (Aa (pv 7) Ad)) (Ai (Dq (K := K) T) (hr.mono (by decide)) (by rfl) T.wX T.wY (Du T) .nil Ak (Aa (pv 3) Ad)) (Ay _))))) (Af (Am HF)) Av)
   (Ac (Mp PassesOwn.never rfl (CN (K := K) (pv 7)) (Bm (i := 4) sc_law.nd rfl (Or.inl rfl))
    (Af (Bq (IK (Iu (Ai (Kl (K := K) T) (hr.mono (by decide)) (by rfl) T.xy T.xz (Lj T) .nil Ak (Aa (pv 4) Ad)))) (Af (Am HF)) Av)))
   (Ac (Bh (Xu (K := K) PySem.F.plainAttrs_list PySem.F.slot_list_clear PySem.F.type_list_clear aas (pv 7)))
   (Af (Am (JH (UV (K := K) hr) (Ai (Hv (K := K) T) (hr.mono (by decide)) (by rfl) T.wU T.wV (Je T) .nil Ak (Aa (Bt (pv 2) (.cons T.yI T.z0 (CP (K := K) T) (hr.mono (by decide)) (Dc T) .nil) Ak) Ad)) (Ai (Dq (K := K) T) (hr.mono (by decide)) (by rfl) T.wX T.wY (Du T) .nil Ak (Aa (pv 3) Ad)) (Ay _)))))))))))))))))⟩
end
end My
namespace My
open PySem L2 PyProof.Rows
section
variable {P : Program} {w : World} {K : Fg_} {mg : Str -> Option Value} {base : Heap} {A : Adr} {D : Fds}
theorem abQ {b r s : Addr} {H H' : Hp} {x : Addr} {e : Ent} (o : Off3 b r s H H') (n1 : Iw H b) (n2 : Iw H r) (n3 : Iw H s) : IsE A H x e -> IsE A H' x e := by
 have tp : ∀ {a : Addr} {xs : List V}, H a = some (.tup xs) -> H' a = some (.tup xs) := fun h => o _ _ (fun z => n1.1 _ (z ▸ h)) (fun z => n2.1 _ (z ▸ h)) (fun z => n3.1 _ (z ▸ h)) h
 rintro ⟨dx, nv, h1, h2⟩
 refine ⟨dx, nv, o _ _ (fun z => n1.2.2 _ _ _ (z ▸ h1)) (fun z => n2.2.2 _ _ _ (z ▸ h1)) (fun z => n3.2.2 _ _ _ (z ▸ h1)) h1, ?_⟩
 revert h2
 cases e.lots with
 | none => exact fun h => h
 | some rs => exact fun ⟨l, e0, hl, hL⟩ => ⟨l, e0, o _ _ (fun z => n1.2.1 _ (z ▸ hl)) (fun z => n2.2.1 _ (z ▸ hl)) (fun z => n3.2.1 _ (z ▸ hl)) hl, fun r hr => tp (hL r hr)⟩
theorem ZD {H H' : Hp} {x gl : Addr} {e : Ent} (h : IsE A H x e) (n : H gl = Option.none) (s : Same H H') : Kept A gl H' x e := by
 obtain ⟨dx, nv, h1, h2⟩ := h
 refine ⟨dx, nv, s _ _ h1, h2.same s, fun q eq z => ?_⟩
 subst eq
 revert h2
 cases e.lots with
 | none => intro h; cases h
 | some rs => exact fun ⟨l, e0, hl, _⟩ => by cases e0; rw [z, n] at hl; cases hl
theorem abg (ns : List Int) (m : Nat) : ∃ cs : List Int, Xf (ns.map V.int) Option.none (some (m : Int)) = cs.map V.int /\ cs.length <= m := by
 refine ⟨ns.take (min m (ns.map V.int).length), ?_, by rw [List.length_take]; omega⟩
 unfold Xf
 rw [HT.sIx_nat, List.map_take]
 rfl
theorem ZW {B H H' : Hp} {b r s : Addr} (h : Same B H) (o : Off3 b r s H H') (n1 : B b = Option.none) (n2 : B r = Option.none) (n3 : B s = Option.none) : Same B H' := fun a u e => o a u (fun z => by rw [z, n1] at e; cases e) (fun z => by rw [z, n2] at e; cases e) (fun z => by rw [z, n3] at e; cases e) (h _ _ e)
theorem St70.facts {gl : Addr} {H : Hp} {lg bd md : Addr} {es ms gs : EL} (h : St70 A gl H lg bd md es ms gs) : es.length < 60 /\ ms.length < 60 /\ EntAt A H es /\ ∀ r ∈ es, r.2.good := by
 have h1 := congrArg List.length h.e
 rw [List.length_map, List.length_map] at h1
 have h2 := h.z
 rw [List.length_append] at h2
 exact ⟨by omega, by omega, fun r hr => (h.k r hr).1.isE, fun r hr => (h.k r hr).2⟩
end
end My
namespace My
open PySem L2 PyProof.Rows
section
variable {P : Program} {w : World} {K : Fg_} {mg : Str -> Option Value} {base : Heap} {A : Adr} {D : Fds}
local macro_rules | `(tactic| walk_at "nx") => `(tactic| ((try dsimp only); refine Bc fun u hu => ?_; rw [ap_seq]; walk_at "rdi"; subst hu))
theorem acz (T : Txt K mg A D) : FnOk P w K mg base CX0 12 A.law D.law ["_law_script"] (Wn K) := by
 refine T.xK.ok sc_law (fun vs H Q E h => ?_) (fun cdv A' outer s0 H vs Q E hr h => ?_)
 ·obtain ⟨a, ns, rfl, _⟩ := h; rfl
 ·obtain ⟨a, ns, rfl, hS, hl, k⟩ := h
  refine ⟨(Uk (base := base) T cdv A' outer s0 H E hr).1, (Uk (base := base) T cdv A' outer s0 H E hr).2, ?_⟩
  unfold Uk
  dsimp only
  simp only [start_eq]
  walk_at "nx"
  refine ⟨a, ns, rfl, hS, fun pr tl H1 s1 hpr h1 hR ho hlen hne hnu hlt => ?_⟩
  walk_at "nx"
  have lz : ∀ n : Nat, n <= 1000 -> n <= sizeLine := fun n h => by rw [sizeLine_eq]; omega
  have lt : ∀ n : Nat, n <= 1000 -> n < sizeLine := fun n h => by rw [sizeLine_eq]; omega
  refine ⟨.inl ⟨rfl, _, SqL.of h1⟩, lz _ (by decide), fun a1 g1 => ⟨lz _ (by decide), fun a2 g2 => ⟨lz _ (by decide), fun a3 g3 => ⟨lz _ (by decide), fun t1 g4 => ?_⟩⟩⟩⟩
  obtain ⟨e1, he1⟩ : ∃ e1, e1 = Ent.sell 3 700000 (Str.ofString "tin") 7 2 1 (some [(a1, 4, 5), (a2, 9, 2)]) := ⟨_, rfl⟩
  have q1 := Same.new (o := .tup [V.int 4, V.int 5]) g1
  have q2 := Same.new (o := .tup [V.int 9, V.int 2]) g2
  have q3 := Same.new (o := .tup [V.ref a1, V.ref a2]) g3
  have q4 := Same.new (o := .tup [V.str (Str.ofString "sell"), V.int 3, V.int 700000, V.str (Str.ofString "tin"), V.int 7, V.int 2, V.int 1, V.ref a3]) g4
  have T1 : TupE (upd (upd (upd (upd H1 a1 (.tup [V.int 4, V.int 5])) a2 (.tup [V.int 9, V.int 2])) a3 (.tup [V.ref a1, V.ref a2])) t1 (.tup [V.str (Str.ofString "sell"), V.int 3, V.int 700000, V.str (Str.ofString "tin"), V.int 7, V.int 2, V.int 1, V.ref a3])) t1 e1 := by
   rw [he1]
   refine ⟨.ref a3, Ae, a3, rfl, q4 _ _ Ae, fun r hr => ?_⟩
   rcases List.mem_cons.mp hr with rfl | hr
   ·exact (q2.trans (q3.trans q4)) _ _ Ae
   ·obtain rfl := List.mem_singleton.mp hr
    exact (q3.trans q4) _ _ Ae
  have G1 : e1.good := by
   rw [he1]
   refine ⟨⟨by decide, by decide, by decide, by decide, by unfold Nm; decide +kernel⟩, ⟨by decide, by decide⟩, ⟨by decide, by decide⟩, ⟨by decide, by decide⟩, ⟨by show 2 <= 5; decide, fun r hr => ?_, ?_, rfl⟩⟩
   ·rcases List.mem_cons.mp hr with rfl | hr
    ·exact ⟨by show (0 : Int) <= 4; decide, by show (4 : Int) <= 1000000; decide, by show (1 : Int) <= 5; decide, by show (5 : Int) <= 7; decide⟩
    ·obtain rfl := List.mem_singleton.mp hr
     exact ⟨by show (0 : Int) <= 9; decide, by show (9 : Int) <= 1000000; decide, by show (1 : Int) <= 2; decide, by show (2 : Int) <= 7; decide⟩
   ·show [(4 : Int), 9].Nodup
    decide
  have s2 := q1.trans (q2.trans (q3.trans q4))
  generalize upd (upd (upd (upd H1 a1 (.tup [V.int 4, V.int 5])) a2 (.tup [V.int 9, V.int 2])) a3 (.tup [V.ref a1, V.ref a2])) t1 (.tup [V.str (Str.ofString "sell"), V.int 3, V.int 700000, V.str (Str.ofString "tin"), V.int 7, V.int 2, V.int 1, V.ref a3]) = H2 at T1 s2
  have h2 := s2 _ _ h1
  refine ⟨_, h2, lt _ (by rw [Bk]; omega), ?_⟩
  have hR2 : RowsAt (upd H2 pr (.lst (Bj tl ++ [V.ref t1]))) (tl ++ [(t1, e1)]) := fun r hr => by
   rcases List.mem_append.mp hr with hr | hr
   ·exact Jr (hR.same s2) h2 r hr
   ·obtain rfl := List.mem_singleton.mp hr
    exact ⟨T1.put h2, G1⟩
  have h3 : (upd H2 pr (.lst (Bj tl ++ [V.ref t1]))) pr = some (.lst (Bj (tl ++ [(t1, e1)]))) := by rw [Ae]; unfold Bj; rw [List.map_append]; rfl
  have S3 : Same H (upd H2 pr (.lst (Bj tl ++ [V.ref t1]))) := (s1.trans s2).upd hpr
  generalize upd H2 pr (.lst (Bj tl ++ [V.ref t1])) = H3 at hR2 h3 S3
  clear h1 hR q1 q2 q3 q4 T1 h2 s2 g1 g2 g3 g4
  walk_at "nx"
  refine ⟨.inl ⟨rfl, _, SqL.of h3⟩, lz _ (by decide), fun b1 g1 => ⟨lz _ (by decide), fun b2 g2 => ⟨lz _ (by decide), fun t2 g3 => ?_⟩⟩⟩
  obtain ⟨e2, he2⟩ : ∃ e2, e2 = Ent.give 2 700001 (Str.ofString "ore") 3 (some [(b1, 8, 3)]) := ⟨_, rfl⟩
  have q1 := Same.new (o := .tup [V.int 8, V.int 3]) g1
  have q2 := Same.new (o := .tup [V.ref b1]) g2
  have q3 := Same.new (o := .tup [V.str (Str.ofString "give"), V.int 2, V.int 700001, V.str (Str.ofString "ore"), V.int 3, V.ref b2]) g3
  have T2 : TupE (upd (upd (upd H3 b1 (.tup [V.int 8, V.int 3])) b2 (.tup [V.ref b1])) t2 (.tup [V.str (Str.ofString "give"), V.int 2, V.int 700001, V.str (Str.ofString "ore"), V.int 3, V.ref b2])) t2 e2 := by
   rw [he2]
   refine ⟨.ref b2, Ae, b2, rfl, q3 _ _ Ae, fun r hr => ?_⟩
   obtain rfl := List.mem_singleton.mp hr
   exact (q2.trans q3) _ _ Ae
  have G2 : e2.good := by
   rw [he2]
   refine ⟨⟨by decide, by decide, by decide, by decide, by unfold Nm; decide +kernel⟩, ⟨by decide, by decide⟩, ⟨by show 1 <= 5; decide, fun r hr => ?_, ?_, rfl⟩⟩
   ·obtain rfl := List.mem_singleton.mp hr
    exact ⟨by show (0 : Int) <= 8; decide, by show (8 : Int) <= 1000000; decide, by show (1 : Int) <= 3; decide, by show (3 : Int) <= 3; decide⟩
   ·show [(8 : Int)].Nodup
    decide
  have s4 := q1.trans (q2.trans q3)
  generalize upd (upd (upd H3 b1 (.tup [V.int 8, V.int 3])) b2 (.tup [V.ref b1])) t2 (.tup [V.str (Str.ofString "give"), V.int 2, V.int 700001, V.str (Str.ofString "ore"), V.int 3, V.ref b2]) = H4 at T2 s4
  have h4 := s4 _ _ h3
  refine ⟨_, h4, lt _ (by rw [Bk, List.length_append, List.length_singleton]; omega), ?_⟩
  obtain ⟨rw', hrw⟩ : ∃ rl, rl = tl ++ [(t1, e1)] ++ [(t2, e2)] := ⟨_, rfl⟩
  have hR5 : RowsAt (upd H4 pr (.lst (Bj (tl ++ [(t1, e1)]) ++ [V.ref t2]))) rw' := fun r hr => by
   rw [hrw] at hr
   rcases List.mem_append.mp hr with hr | hr
   ·exact Jr (hR2.same s4) h4 r hr
   ·obtain rfl := List.mem_singleton.mp hr
    exact ⟨T2.put h4, G2⟩
  have h5 : (upd H4 pr (.lst (Bj (tl ++ [(t1, e1)]) ++ [V.ref t2]))) pr = some (.lst (Bj rw')) := by rw [Ae, hrw]; unfold Bj; rw [List.map_append (l₁ := tl ++ [(t1, e1)])]; rfl
  have S5 : Same H (upd H4 pr (.lst (Bj (tl ++ [(t1, e1)]) ++ [V.ref t2]))) := (S3.trans s4).upd hpr
  generalize upd H4 pr (.lst (Bj (tl ++ [(t1, e1)]) ++ [V.ref t2])) = H5 at hR5 h5 S5
  clear h3 hR2 S3 q1 q2 q3 T2 h4 s4 g1 g2 g3
  have hrl : rw'.length <= 58 := by rw [hrw, List.length_append, List.length_append, List.length_singleton, List.length_singleton]; omega
  have hrn : (nums rw').Nodup := by
   rw [hrw, BV, BV]
   refine List.nodup_append.mpr ⟨List.nodup_append.mpr ⟨hnu, List.nodup_cons.mpr ⟨List.not_mem_nil, .nil⟩, fun a ha b hb => ?_⟩, List.nodup_cons.mpr ⟨List.not_mem_nil, .nil⟩, fun a ha b hb => ?_⟩
   ·have hb : b = 700000 := by rw [List.mem_singleton.mp hb]; rw [he1]; rfl
    have := hlt a ha
    omega
   ·have hb : b = 700001 := by rw [List.mem_singleton.mp hb]; rw [he2]; rfl
    rcases List.mem_append.mp ha with ha | ha
    ·have := hlt a ha
     omega
    ·have ha : a = 700000 := by rw [List.mem_singleton.mp ha]; rw [he1]; rfl
     omega
  obtain ⟨r0, rt, hr0⟩ : ∃ r0 rt, rw' = r0 :: rt /\ r0 ∈ tl := by
   cases tl with
   | nil => exact (hne rfl).elim
   | cons r0 tl => exact ⟨r0, _, hrw.trans rfl, List.mem_cons_self⟩
  obtain ⟨hr0, hr0m⟩ := hr0
  have ho0 := ho r0 hr0m
  walk_at "nx"
  intro lg dl hlg hdl hdne
  refine ⟨lg, dl, rfl, Ae, fun bd hbd => ⟨rfl, ?_⟩⟩
  have nbl : bd ≠ lg := fun z => by rw [z, Ae] at hbd; cases hbd
  rw [Aj nbl] at hbd
  have nbd : bd ≠ dl := fun z => by rw [z, Ae] at hbd; cases hbd
  rw [Aj nbd] at hbd
  have s6 : Same H5 (upd (upd (upd (upd H5 dl (.own lg)) lg (.ins A.ul dl [])) bd (.dK [])) lg (.ins A.ul dl [("by_number", .ref bd)])) := ((((Same.refl H5).upd hdl).upd hlg).upd hbd).upd hlg
  have d6 : (upd (upd (upd (upd H5 dl (.own lg)) lg (.ins A.ul dl [])) bd (.dK [])) lg (.ins A.ul dl [("by_number", .ref bd)])) bd = some (.dK (kvE [])) := (Aj nbl).trans Ae
  have i6 : (upd (upd (upd (upd H5 dl (.own lg)) lg (.ins A.ul dl [])) bd (.dK [])) lg (.ins A.ul dl [("by_number", .ref bd)])) lg = some (.ins A.ul dl [("by_number", .ref bd)]) := Ae
  generalize upd (upd (upd (upd H5 dl (.own lg)) lg (.ins A.ul dl [])) bd (.dK [])) lg (.ins A.ul dl [("by_number", .ref bd)]) = H6 at s6 d6 i6
  have L6 : LgD A H6 lg bd [] := ⟨⟨dl, i6⟩, d6, .nil⟩
  have S6 := S5.trans s6
  have h6 := s6 _ _ h5
  have hR6 := hR5.same s6
  walk_at "nx"
  refine ⟨_, dl, _, i6, _, List.mem_cons_self, rfl, lg, bd, [], rfl, L6, by decide, fun r h => (List.not_mem_nil h).elim, fun r h => (List.not_mem_nil h).elim, fun p0 es0 H7 s7 hp0 h7 hE7 hperm0 _ => ?_⟩
  have he0 : es0 = [] := List.map_eq_nil_iff.mp hperm0.eq_nil
  subst he0
  refine ⟨lz _ (by decide), fun p1 hp1 => ?_⟩
  refine Ly (ts := []) (us := []) (Same.new hp1 _ _ h7) Ae (fun r h => (List.not_mem_nil h).elim) (fun r h => (List.not_mem_nil h).elim) rfl ?_
  have s8 := s7.trans (Same.new (o := .lst []) hp1)
  generalize upd H7 p1 (.lst []) = H8 at s8
  have S8 := S6.trans s8
  refine ⟨false, rfl, ?_⟩
  rw [if_neg (by decide)]
  have h8 := s8 _ _ h6
  have hR8 := hR6.same s8
  have a0 : atI (Bj rw') 0 = some (.ref r0.1) := by rw [hr0]; exact JG (j := 0) rfl
  have hm0 : r0 ∈ rw' := by rw [hr0]; exact List.mem_cons_self
  refine ⟨_, SqL.of h8, _, a0, r0.1, r0.2, rfl, (hR8 r0 hm0).1, ho0, (hR8 r0 hm0).2, fun x0 B0 H9 sB hMd => ?_⟩
  obtain ⟨dy, ny, hN, _⟩ := id hMd
  have s9 := sB.trans hN.s
  refine ⟨lg, bd, x0, [], r0.2, 1, rfl, (L6.same s8).same s9, Nat.zero_le _, hMd.isE, (hR8 r0 hm0).2, .inr ⟨.inl rfl, List.not_mem_nil⟩, fun H10 s10 => ⟨true, rfl, ?_⟩⟩
  rw [if_neg (by decide)]
  have s610 := s8.trans (s9.trans s10)
  have S10 := S6.trans s610
  have L10 := L6.same s610
  have h10 := s610 _ _ h6
  have hR10 := hR6.same s610
  clear hMd hN s9 s10 s610 hR8 h8 s8 L6 h6 hR6 i6 d6 s6 h5 hR5
  walk_at "nx"
  intro md hmd
  have s11 := Same.new (o := .dK []) hmd
  have d11 : (upd H10 md (.dK [])) md = some (.dK (kvE [])) := Ae
  generalize upd H10 md (.dK []) = H11 at s11 d11
  have nbm : bd ≠ md := fun z => by have := L10.d; rw [z, hmd] at this; cases this
  have S11 := S10.trans s11
  have L11 := L10.same s11
  have h11 := s11 _ _ h10
  have hR11 := hR10.same s11
  (try dsimp only)
  refine Bc fun u hu => ?_
  rw [ap_seq]
  refine Nf fun tb htb => ?_
  rw [ap_for]
  walk_at "rdi"
  refine ⟨⟨_, SqL.of h11⟩, ?_⟩
  refine CompP.listE (K := K) (fun σ => ∃ v, σ = [v]) (fun i v H' => ∃ b r, rw'[i]? = some r /\ v = .ref b /\ IsE A H' b r.2) (SqL.of h11) ⟨_, rfl⟩ (lz _ (by rw [Bk]; omega)) ?_ ?_
  ·rintro Da i y hy σ H12 R ⟨_, rfl⟩ sm hD ⟨acc, hA⟩ kk
   obtain ⟨r, hr', rfl⟩ := Hl hy
   have hm := hR11 r (List.mem_of_getElem? hr')
   walk_at "rdi"
   refine ⟨r.1, r.2, rfl, hm.1.same sm, hm.2, fun x B H13 sB hMd => ?_⟩
   obtain ⟨dy, ny, hN, _⟩ := id hMd
   exact kk (.ref x) _ H13 ⟨_, rfl⟩ (sB.trans hN.s) fun H' hb => ⟨x, r, hr', rfl, Wc hMd (sB _ _ hA) hb⟩
  ·intro pe H12 acc hpe s12 hA hlen' hF
   rw [Bk] at hlen'
   obtain ⟨els, x1, x2, x3⟩ := aap (F := fun b e => IsE A H12 b e) hlen' hF
   rw [x1] at hA
   have hell : els.length = rw'.length := by simpa using congrArg List.length x2
   refine ⟨a, ns, 1, rfl, (S11.trans s12).seq hS, pe, els, _, rfl, hA, by omega, fun pq els' H13 s13 hpq h13 hperm => ?_⟩
   have hE13 : EntAt A H13 els' := fun r hr => (x3 r (hperm.mem_iff.mp hr)).same s13
   have hg13 : ∀ r ∈ els', r.2.good := fun r hr => by
    have : r.2 ∈ els.map (·.2) := List.mem_map.mpr ⟨r, hperm.mem_iff.mp hr, rfl⟩
    rw [x2] at this
    obtain ⟨q, hq, e⟩ := List.mem_map.mp this
    exact e ▸ (hR11 q hq).2
   have hn13 : (nums els').Nodup := by
    have h1 : (nums els).Nodup := by rw [HN x2]; exact hrn
    exact (hperm.map (fun r : Addr × Ent => r.2.num)).nodup_iff.mpr h1
   have hl13 : els'.length <= 58 := by rw [hperm.length_eq]; omega
   have S13 := S11.trans (s12.trans s13)
   have L13 := L11.same (s12.trans s13)
   have d13 := (s12.trans s13) _ _ d11
   have nk1 := Cu L13.d
   have nk2 := Cu d13
   refine ⟨pq, rfl, ⟨_, SqL.of h13⟩, ?_⟩
   have npb : pq ≠ bd := fun z => nk1.2.1 _ (z ▸ h13)
   have npm : pq ≠ md := fun z => nk2.2.1 _ (z ▸ h13)
   refine ForP.list (K := K) (a := pq) (xs := Bj els') (fun i σ Hx => ∃ (es ms : EL) (v4 : Option V), σ = [some (.ref a), some (.ref pr), some (.ref lg), some (.ref md), v4, Option.none, Option.none, Option.none] /\ Off3 bd md md H13 Hx /\ LgD A Hx lg bd es /\ MdD Hx md ms /\ EntAt A Hx es /\ es.map (·.2) = (els'.take i).map (·.2) /\ ms.map (·.2) = (els'.take i).map (·.2))
    ⟨[], [], _, rfl, Off3.of (Same.refl _), L13, ⟨d13, .nil, fun r h => (List.not_mem_nil h).elim⟩, fun r h => (List.not_mem_nil h).elim, rfl, rfl⟩ (fun i σ Hx _ ⟨_, _, _, _, o, _⟩ => SqL.of (o _ _ npb npm npm h13)) ?_ ?_
   ·rintro i y σ Hx hi ⟨es, ms, v4, rfl, o, L, M, hE, e1, e2⟩
    obtain ⟨r, hri, rfl⟩ := Hl hi
    have hrm := List.mem_of_getElem? hri
    have hil : i < els'.length := (List.getElem?_eq_some_iff.mp hri).1
    have hEr := abQ o nk1 nk2 nk2 (hE13 r hrm)
    have hgr := hg13 r hrm
    have htk : els'.take (i + 1) = els'.take i ++ [r] := by rw [List.take_add_one, hri]; rfl
    have hnin : r.2.num ∉ nums (els'.take i) := fun z => by
     have hu := hn13
     rw [<- List.take_append_drop (i + 1) els', htk, BV, BV] at hu
     exact (List.nodup_append.mp (List.nodup_append.mp hu).1).2.2 _ z _ (List.mem_singleton.mpr rfl) rfl
    have hni1 : r.2.num ∉ nums es := by rw [HN e1]; exact hnin
    have hni2 : r.2.num ∉ nums ms := by rw [HN e2]; exact hnin
    have hel : es.length = i := by
     have := congrArg List.length e1
     rw [List.length_map, List.length_map, List.length_take] at this
     omega
    have hml : ms.length = i := by
     have := congrArg List.length e2
     rw [List.length_map, List.length_map, List.length_take] at this
     omega
    obtain ⟨dx, nv, hx, hn⟩ := id hEr
    obtain ⟨isK, hkK, hmT⟩ := Ys A r.2
    have ce := Nt T r.2
    subst htb
    walk_at "nx"
    refine ⟨_, dx, _, hx, _, hmT, IV r.2 nv, r.1, r.2, hkK, rfl, hEr, fun t nt H14 s14 ht h14 hn14 => ?_⟩
    have M14 := M.same s14
    have L14 := L.same s14
    have nk14 := Cu M14.d
    refine ⟨_, dx, _, s14 _ _ hx, ce.c, ce.n, _, Bs r.2 nv, _, DPut.k (k := Sum.inl r.2.num) M14.d (lt _ (by rw [Hu]; omega)), ?_⟩
    rw [RD (r := (t, r.2)) hni2]
    have b15 : But md H14 (upd H14 md (.dK (kvE (ms ++ [(t, r.2)])))) := Eb
    have d15 : (upd H14 md (.dK (kvE (ms ++ [(t, r.2)])))) md = some (.dK (kvE (ms ++ [(t, r.2)]))) := Ae
    generalize upd H14 md (.dK (kvE (ms ++ [(t, r.2)]))) = H15 at b15 d15
    have L15 : LgD A H15 lg bd es := L14.bt b15 nk14 nbm
    have hE15 := KR b15 nk14 (hEr.same s14)
    obtain ⟨dl', hi15⟩ := L15.i
    have nk16 := Cu L15.d
    walk_at "rdi"
    refine ⟨_, dl', _, hi15, _, List.mem_cons_self, rfl, lg, bd, r.1, es, r.2, rfl, L15, by omega, hE15, hgr, fun z => (hni1 z).elim, fun _ y H16 b16 d16 hc16 => ?_⟩
    (try dsimp only)
    rw [if_neg (fun z : ¬ V.non = V.non => z rfl)]
    have hap : ∀ {l : EL} {x : Addr}, l.map (·.2) = (els'.take i).map (·.2) -> (l ++ [(x, r.2)]).map (·.2) = (els'.take (i + 1)).map (·.2) := fun {l x} h => by
     rw [htk, List.map_append, List.map_append, h]
     rfl
    have hnd : ∀ {l : EL} {x : Addr}, (nums l).Nodup -> r.2.num ∉ nums l -> (nums (l ++ [(x, r.2)])).Nodup := fun {l x} h1 h2 => by
     rw [BV]
     refine List.nodup_append.mpr ⟨h1, List.nodup_cons.mpr ⟨List.not_mem_nil, .nil⟩, fun a ha b hb => ?_⟩
     have : b = r.2.num := List.mem_singleton.mp hb
     rw [this]
     exact fun z => h2 (z ▸ ha)
    refine ⟨?_, es ++ [(y, r.2)], ⟨?_, d16, hnd L.u hni1⟩, ms ++ [(t, r.2)], ⟨b16 _ _ nbm.symm d15, hnd M.u hni2, fun q hq => ?_⟩, fun q hq => ?_, hap e1, hap e2⟩
    ·exact o.trans ((Off3.of s14).trans ((Off3.r b15).trans (Off3.b b16)))
    ·exact ⟨dl', JB b16 nk16 hi15⟩
    ·rcases List.mem_append.mp hq with hq | hq
     ·exact Dm b16 nk16 (Dm b15 nk14 M14.t) q hq
     ·obtain rfl := List.mem_singleton.mp hq
      exact ⟨Iz b16 nk16 (Iz b15 nk14 ⟨nt, h14, hn14⟩), hgr⟩
    ·rcases List.mem_append.mp hq with hq | hq
     ·exact KR b16 nk16 (KR b15 nk14 ((hE q hq).same s14))
     ·obtain rfl := List.mem_singleton.mp hq
      exact hc16.i
   ·rintro σ Hx ⟨es, ms, v4, rfl, o, L, M, hE, e1, e2⟩
    subst hu
    walk_at "nx"
    have hlx : (Bj els').length = els'.length := Bk els'
    rw [hlx, List.take_length] at e1 e2
    have SHx : Same H Hx := ZW S13 o (S5.free hbd) (S10.free hmd) (S10.free hmd)
    have hgE : ∀ r ∈ es, r.2.good := fun r hr => by
     have : r.2 ∈ es.map (·.2) := List.mem_map.mpr ⟨r, hr, rfl⟩
     rw [e1] at this
     obtain ⟨q, hq, e⟩ := List.mem_map.mp this
     exact e ▸ hg13 q hq
    have hmsl : ms.length <= 58 := by
     have := congrArg List.length e2
     rw [List.length_map, List.length_map] at this
     omega
    refine ⟨Nat.zero_le _, fun gl hgl => ?_⟩
    have s17 := Same.new (o := .lst []) hgl
    have g17 : (upd Hx gl (.lst [])) gl = some (.lst (Bj [])) := Ae
    generalize upd Hx gl (.lst []) = H17 at s17 g17
    have St17 : St70 A gl H17 lg bd md es ms [] := ⟨L.same s17, M.same s17, fun r hr => ⟨ZD (hE r hr) hgl s17, hgE r hr⟩, e1.trans e2.symm, nbm, g17, fun r h => (List.not_mem_nil h).elim, by rw [List.append_nil]; exact M.u, by rw [List.append_nil]; exact hmsl⟩
    have SH17 := SHx.trans s17
    have fgl : H gl = Option.none := SHx.free hgl
    (try dsimp only)
    refine Bc fun u hu => ?_
    rw [ap_seq]
    refine Nf fun tb2 htb2 => ?_
    rw [ap_for]
    walk_at "rdi"
    refine ⟨_, SH17.seq hS, fun pc hpc => ⟨⟨_, SqL.of Ae⟩, ?_⟩⟩
    obtain ⟨cs, hcs, hcl⟩ := abg ns 63
    rw [show (63 : Int) = ((63 : Nat) : Int) from rfl, hcs]
    have s18 := Same.new (o := .lst (cs.map V.int)) hpc
    have h18 : (upd H17 pc (.lst (cs.map V.int))) pc = some (.lst (cs.map V.int)) := Ae
    generalize upd H17 pc (.lst (cs.map V.int)) = H18 at s18 h18
    have St18 := St17.same s18
    have n1 : pc ≠ bd := fun z => (Cu St18.L.d).2.1 _ (z ▸ h18)
    have n2 : pc ≠ md := fun z => (Cu St18.M.d).2.1 _ (z ▸ h18)
    have n3 : pc ≠ gl := fun z => by rw [z, g17] at hpc; cases hpc
    refine ForP.list (K := K) (a := pc) (xs := cs.map V.int) (fun i σ Hy => ∃ (es ms gs : EL) (v6 : Option V), σ = [some (.ref a), some (.ref pr), some (.ref lg), some (.ref md), v4, some (.ref gl), v6, Option.none] /\ Off3 bd md gl H18 Hy /\ St70 A gl Hy lg bd md es ms gs)
     ⟨es, ms, [], _, rfl, Off3.of (Same.refl _), St18⟩ (fun i σ Hy _ ⟨_, _, _, _, _, o, _⟩ => SqL.of (o _ _ n1 n2 n3 h18)) ?_ ?_
    ·rintro i y σ Hy hi ⟨es, ms, gs, v6, rfl, o, St⟩
     obtain ⟨c, rfl, _⟩ := abV hi
     subst htb2
     walk_at "rdi"
     refine ⟨gl, lg, bd, md, es, ms, gs, c, rfl, St, fun H1 es1 ms1 gs1 o1 St1 => ⟨true, rfl, ?_⟩⟩
     rw [if_neg (by decide)]
     obtain ⟨f1, f2, f3, f4⟩ := St1.facts
     obtain ⟨dl1, hi1⟩ := St1.L.i
     refine ⟨_, dl1, _, hi1, _, List.mem_cons_self, rfl, lg, bd, es1, rfl, St1.L, f1, f3, f4, fun p2 es2 H2 s2 hp2 h2 hE2 hperm2 hord2 => ?_⟩
     have hl2 : es2.length <= 100 := by have := hperm2.length_eq; rw [List.length_map, List.length_map] at this; omega
     refine ⟨p2, es2, rfl, h2, hE2, hl2, fun D3 ts H3 hD3 s3 h3 hT3 e3 => ?_⟩
     refine ⟨md, ms1, rfl, St1.M.same (s2.trans s3), f2, fun D4 us H4 hD4 s4 h4 hT4 hperm4 hord4 => ?_⟩
     refine Ly (s4 _ _ h3) h4 (fun r hr => (hT3 r hr).same s4) hT4 (by rw [e3]; exact YJ (hperm2.trans (by rw [St1.e]; exact hperm4.symm)) hord2 hord4) ?_
     refine ⟨false, rfl, ?_⟩
     rw [if_neg (by decide)]
     have s24 := s2.trans (s3.trans s4)
     exact ⟨o.trans (o1.trans (Off3.of s24)), es1, ms1, gs1, St1.same s24⟩
    ·rintro σ Hy ⟨es, ms, gs, v6, rfl, o, St⟩
     subst hu
     walk_at "nx"
     obtain ⟨f1, f2, f3, f4⟩ := St.facts
     obtain ⟨dl1, hi1⟩ := St.L.i
     refine ⟨_, dl1, _, hi1, _, List.mem_cons_self, rfl, lg, bd, es, rfl, St.L, f1, f3, f4, fun pf es2 H2 s2 hpf h2 hE2 hperm2 hord2 => ?_⟩
     have hl2 : es2.length <= 100 := by have := hperm2.length_eq; rw [List.length_map, List.length_map] at this; omega
     walk_at "nx"
     refine ⟨_, .lst h2, true, by with_unfolding_all rfl, ?_⟩
     rw [if_neg (by decide)]
     refine ⟨pf, es2, rfl, h2, hE2, hl2, fun D3 ts H3 hD3 s3 h3 hT3 e3 => ?_⟩
     refine ⟨md, ms, rfl, St.M.same (s2.trans s3), f2, fun D4 us H4 hD4 s4 h4 hT4 hperm4 hord4 => ?_⟩
     refine Ly (s4 _ _ h3) h4 (fun r hr => (hT3 r hr).same s4) hT4 (by rw [e3]; exact YJ (hperm2.trans (by rw [St.e]; exact hperm4.symm)) hord2 hord4) ⟨false, rfl, ?_⟩
     rw [if_neg (by decide)]
     have s34 := s3.trans s4
     have h4f := s34 _ _ h2
     have hE4 := hE2.same s34
     (try dsimp only)
     refine Bc fun u hu => ?_
     rw [ap_seq]
     refine Nf fun tb3 htb3 => ?_
     rw [ap_for]
     walk_at "rdi"
     refine ⟨⟨_, SqL.of h4f⟩, ?_⟩
     refine ForP.list (K := K) (a := pf) (xs := Bj es2) (fun i σ Hz => (∃ w4, σ = [some (.ref a), some (.ref pr), some (.ref lg), some (.ref md), w4, some (.ref gl), v6, some (.ref pf)]) /\ Same H4 Hz) ⟨⟨_, rfl⟩, Same.refl _⟩ (fun i σ Hz _ ⟨_, sz⟩ => SqL.of (sz _ _ h4f)) ?_ ?_
     ·rintro i y σ Hz hi ⟨⟨w4, rfl⟩, sz⟩
      obtain ⟨r, hri, rfl⟩ := Hl hi
      subst htb3
      walk_at "rdi"
      refine ⟨r.1, r.2, rfl, (hE4 r (List.mem_of_getElem? hri)).same sz, fun H' s' => ⟨true, rfl, ?_⟩⟩
      rw [if_neg (by decide)]
      exact sz.trans s'
     ·rintro σ Hz ⟨⟨w4, rfl⟩, sz⟩
      subst hu
      walk_at "nx"
      refine ⟨.inl ⟨rfl, _, SqL.of (sz _ _ h4f)⟩, pf, _, rfl, rfl, sz _ _ h4f, ?_⟩
      have S5 := (((s2.trans s34).trans sz).upd (o := .lst []) hpf)
      generalize upd Hz pf (.lst []) = H5 at S5
      have St5 := St.same S5
      obtain ⟨k1, k2, k3, k4⟩ := St5.facts
      obtain ⟨dl5, hi5⟩ := St5.L.i
      dsimp only
      rw [ap_ret]
      walk_at "rdi"
      refine ⟨_, dl5, _, hi5, _, List.mem_cons_self, rfl, lg, bd, es, rfl, St5.L, k1, k3, k4, fun p6 es6 H6 s6 hp6 h6 hE6 hperm6 hord6 => ?_⟩
      have hl6 : es6.length <= 100 := by have := hperm6.length_eq; rw [List.length_map, List.length_map] at this; omega
      refine ⟨p6, es6, rfl, h6, hE6, hl6, fun D7 ts7 H7 hD7 s7 h7 hT7 e7 => ?_⟩
      refine ⟨md, ms, rfl, St5.M.same (s6.trans s7), k2, fun D8 us8 H8 hD8 s8 h8 hT8 hperm8 hord8 => ?_⟩
      exact Wu (s8 _ _ h7) h8 (fun r hr => (hT7 r hr).same s8) hT8 (by rw [e7]; exact YJ (hperm6.trans (by rw [St5.e]; exact hperm8.symm)) hord6 hord8) (k H8)
end
end My
namespace My
open PySem L2 PyProof.Rows
abbrev Dm_ (K : Fg_) (c : Addr) (x q : Str) (st : Stmt) (f : Addr) (oc : Value) (od : Option Addr) (kV dc pm : Value) (an : Option Addr) (cd ct : Value) (sl : Array (Option Value)) : Prop := PySem.W.findIn K (.ref c) x = some (some (.ref f)) /\ K.lookup f = some ⟨oc, od, .func (PySem.W.fnOf x q (Eg st) (CJ st) (Ag st) .none kV dc pm an cd ct), sl⟩ /\ PySem.W.codeIn K cd q = true /\ PySem.W.keepIn K (.ref f) = true
abbrev Df_ (K : Fg_) (x : Str) (st : Stmt) (f : Addr) (oc : Value) (od : Option Addr) (kV dc pm : Value) (an : Option Addr) (cd ct : Value) (sl : Array (Option Value)) : Prop := PySem.W.nsIn K mainGlobals x = some (some (.ref f)) /\ K.lookup f = some ⟨oc, od, .func (PySem.W.fnOf x x (Eg st) (CJ st) (Ag st) .none kV dc pm an cd ct), sl⟩ /\ PySem.W.codeIn K cd x = true /\ PySem.W.keepIn K (.ref f) = true
theorem all_mk {l : PySem.W.OpenLaw} {w : World} {K : Fg_} {h : Heap} {mg : Str -> Option Value} {fa : Addr} (X : K.In h) (G : h.Ns mainGlobals mg) (hfa : mg "law" = some (.ref fa))
  {f0 f1 f2 f3 f4 f5 f6 f7 f8 f9 f10 f11 f12 f13 f14 f15 f16 f17 f18 f19 f20 f21 f22 f23 f24 f26 f27 f29 f31 f32 f33 f34 f35 f36 f37 f38 f39 f40 f41 f42 f43 f44 f45 f46 f47 f48 f49 f50 f51 f52 f53 f54 f55 f56 f57 f58 f59 f60 f61 f62 f63 f64 : Addr}
  {od0 an0 od1 an1 od2 an2 od3 an3 od4 an4 od5 an5 od6 an6 od7 an7 od8 an8 od9 an9 iC mw nH nr om rX nq mq l5 iA oT k9 m5 ig gW pN iX kI qc lH pB nl n6 sD qi qw sw mD pi oH iu ol sF oz l6 o6 je nN mv kY qM py lm sf p9 rm jV no jo mR jX my lL kx mG oG ju kg oh jm gN jM ko nD qS lu m9 jF ni mJ sy lZ lh rB jH gO mj sj kG lQ pP ow qj qR oo gR jG jE rA oA rq iT sx nA ln mT ph lC pJ hW oO kh ji iW : Option Addr}
  {sl0 sl1 sl2 sl3 sl4 sl5 sl6 sl7 sl8 sl9 jn qJ p8 rL qa nJ oP oC lN lO nh iO qe jA mH rT iH rf oW lF pC oj j4 nM rS mU mt nj iD rY kR n4 jl kt iI pb mm qy pz lU io qb oN nX pK pU i7 jj si mW rh hZ : Array (Option Value)}
  {oc0 kV0 dc0 pm0 cd0 ct0 oc1 kV1 dc1 pm1 cd1 ct1 oc2 kV2 dc2 pm2 cd2 ct2 oc3 kV3 dc3 pm3 cd3 ct3 oc4 kV4 dc4 pm4 cd4 ct4 oc5 kV5 dc5 pm5 cd5 ct5 oc6 kV6 dc6 pm6 cd6 ct6 oc7 kV7 dc7 pm7 cd7 ct7 oc8 kV8 dc8 pm8 cd8 ct8 oc9 kV9 dc9 pm9 cd9 ct9 ox lp lb kW gU mZ oR jI mB nG qk l7 nb kZ sk rW lE n5 ql iU nV qI qd nB so qZ ss ou qX pE nK jd rj lq qu kA nY nS ku jb kr mL jL mh kN px r6 og sA gL gS nO iM se lM i4 iV iQ gK iB lv i9 oq kD l0 ma oS iz pS ll rg rH kj qm kF l9 qo mI qY ir qF ik nP sq oQ qU jg qQ su iZ rJ o7 jh mY rK rZ n8 rn iR rN jR jT me re qp kz i8 j8 kP mz gP mS iE g8 le qf gJ pj g9 lR qE nQ nC p7 kl oZ pD kU lS mX lc ls rO lx kB pV kH jY qK jx pA oB rG jU km j9 o8 nZ pL rD nI qz pQ lr pO nE qA qh rV oy j5 jc kn lV i5 nL kM pX rQ mC li lX ip sr qV nR lJ oF gH hX pY lB g7 mQ kJ lA pZ mF oU qW kE rP qB ka pM ra kQ qT iN jQ mr rE lI kC ke qv oV kq jf jD lf mf n9 jv ij qg ja m8 oJ jP ib oM lG nF sg nT jz j6 k8 jw iw jW iJ qO kX pG mK kb qN lD jt mM pH j0 gZ ky rM qx sE pF hJ m6 iP mE jC iS iq gQ oE m7 oK iF lK jO hU js qt l8 mi rR mO gM lW ly pW oX rb gI pT kT j7 mP r9 jN qH qq jJ qr ie jB iG on oY nU jK l4 lT mn gX sv qD hV mV nu pk nW qG kK iK lP jS kL : Value}
  {c0 c1 c2 c3 c4 c5 c6 c7 c8 c9 c10 c11 c12 c13 c14 c15 c16 c17 c18 : Addr}
  {bW d7 cF cR cG cI ef bo cV : Tok}
  (dM : PySem.W.nsIn K mainGlobals "Ledger" = some (some (.ref c0)))
  (eI : PySem.W.nsIn K mainGlobals "Entry" = some (some (.ref c1)))
  (cY : PySem.W.nsIn K mainGlobals "Parting" = some (some (.ref c2)))
  (fG : PySem.W.nsIn K mainGlobals "Buy" = some (some (.ref c3)))
  (fe : PySem.W.nsIn K mainGlobals "Sell" = some (some (.ref c4)))
  (eQ : PySem.W.nsIn K mainGlobals "Gift" = some (some (.ref c5)))
  (e8 : PySem.W.nsIn K mainGlobals "Give" = some (some (.ref c6)))
  (eo : PySem.W.nsIn K mainGlobals "Split" = some (some (.ref c7)))
  (b8 : PySem.W.nsIn K mainGlobals "LotError" = some (some (.ref c8)))
  (eE : PySem.W.nsIn K mainGlobals "Twice" = some (some (.ref c9)))
  (cg : PySem.W.nsIn K mainGlobals "NoNumber" = some (some (.ref c10)))
  (eY : PySem.W.nsIn K mainGlobals "Late" = some (some (.ref c11)))
  (cH : PySem.W.nsIn K mainGlobals "NoEntry" = some (some (.ref c12)))
  (eF : PySem.W.nsIn K mainGlobals "NoLot" = some (some (.ref c13)))
  (cj : PySem.W.nsIn K mainGlobals "NoPieces" = some (some (.ref c14)))
  (dP : PySem.W.nsIn K mainGlobals "NoText" = some (some (.ref c15)))
  (ek : PySem.W.nsIn K mainGlobals "NoWay" = some (some (.ref c16)))
  (bF : PySem.W.nsIn K mainGlobals "NoWeights" = some (some (.ref c17)))
  (cW : PySem.W.nsIn K mainGlobals "NotHeld" = some (some (.ref c18)))
  (a0 : Df_ K "_law_mixed" Gh f0 oc0 od0 kV0 dc0 pm0 an0 cd0 ct0 sl0)
  (a1 : Df_ K "_law_cell_at" Ek f1 oc1 od1 kV1 dc1 pm1 an1 cd1 ct1 sl1)
  (a2 : Df_ K "_law_sources" Et f2 oc2 od2 kV2 dc2 pm2 an2 cd2 ct2 sl2)
  (a3 : Df_ K "_law_take" Hw f3 oc3 od3 kV3 dc3 pm3 an3 cd3 ct3 sl3)
  (a4 : Df_ K "_law_split_row" CZ f4 oc4 od4 kV4 dc4 pm4 an4 cd4 ct4 sl4)
  (a5 : Df_ K "_law_part_row" Dz f5 oc5 od5 kV5 dc5 pm5 an5 cd5 ct5 sl5)
  (a6 : Df_ K "_law_some" Ht f6 oc6 od6 kV6 dc6 pm6 an6 cd6 ct6 sl6)
  (a7 : Df_ K "_law_price" Gp f7 oc7 od7 kV7 dc7 pm7 an7 cd7 ct7 sl7)
  (a8 : Df_ K "_law_pieces" Fp f8 oc8 od8 kV8 dc8 pm8 an8 cd8 ct8 sl8)
  (a9 : Df_ K "_law_row" Jo f9 oc9 od9 kV9 dc9 pm9 an9 cd9 ct9 sl9)
  (a10 : Df_ K "_law_counted" Ep f10 ox iC lp lb kW mw gU mZ jn)
  (a11 : Df_ K "_law_raw" Jm f11 oR nH jI mB nG nr qk l7 qJ)
  (a12 : Df_ K "_law_history" En f12 nb om kZ sk rW rX lE n5 p8)
  (a13 : Dm_ K c0 "__init__" "Ledger.__init__" CQ f13 ql nq iU nV qI mq qd nB rL)
  (a14 : Df_ K "_law_turned" Fo f14 so l5 qZ ss ou iA qX pE qa)
  (a15 : Df_ K "refuse_twice" Ei f15 nK oT jd rj lq k9 qu kA nJ)
  (a16 : Df_ K "place_of" Jk f16 nY m5 nS ku jb ig kr mL oP)
  (a17 : Df_ K "in_order" Jl f17 jL gW mh kN px pN r6 og oC)
  (a18 : Df_ K "is_whole_number" CV f18 sA iX gL gS nO kI iM se lN)
  (a19 : Df_ K "check_number" Er f19 lM qc i4 iV iQ lH gK iB lO)
  (a20 : Df_ K "is_name" Ku f20 lv pB i9 oq kD nl l0 ma nh)
  (a21 : Df_ K "check_name" Gu f21 oS n6 iz pS ll sD rg rH iO)
  (a22 : Dm_ K c1 "__init__" "Entry.__init__" Dk f22 kj qi qm kF l9 qw qo mI qe)
  (a23 : Dm_ K c2 "__init__" "Parting.__init__" CG f23 qY sw ir qF ik mD nP sq jA)
  (a24 : Df_ K "check_trade" Fl f24 oQ pi qU jg qQ oH su iZ mH)
  {f25 : Addr} {qP jZ : Option Addr} {iy : Array (Option Value)} {il jq lj jr gq jy : Value}
  (a25 : PySem.W.findIn K (.ref c3) "__init__" = some (some (.ref f25)))
  {gp : Addr} {gB : Option Addr} {gy : Value} {gG : Array (Option Value)} {nc : Nat} {fP : Tok}
  (l25 : K.lookup f25 = some ⟨il, qP, .func (PySem.W.fnOf "__init__" "Buy.__init__" (Eg Cr) (CJ Cr) (Ag Cr) (.ref gp) jq lj jr jZ gq jy), iy⟩)
  (d25 : PySem.W.codeIn K gq "Buy.__init__" = true)
  (k25 : PySem.W.keepIn K (.ref f25) = true)
  (fU : K.lookup gp = some ⟨gy, gB, .seq #[.int 0 fP] nc, gG⟩)
  (a26 : Df_ K "check_named" Fv f26 rJ iu o7 jh mY ol rK rZ rT)
  (a27 : Df_ K "named_copy" Gi f27 n8 sF rn iR rN oz jR jT iH)
  {f28 : Addr} {kO sC : Option Addr} {gY : Array (Option Value)} {mx qL qC ic gm ml : Value}
  (a28 : PySem.W.findIn K (.ref c4) "__init__" = some (some (.ref f28)))
  {gr : Addr} {gv : Option Addr} {gw : Value} {gA : Array (Option Value)} {pI : Nat} {fO : Tok}
  (l28 : K.lookup f28 = some ⟨mx, kO, .func (PySem.W.fnOf "__init__" "Sell.__init__" (Eg Cg) (CJ Cg) (Ag Cg) (.ref gr) qL qC ic sC gm ml), gY⟩)
  (d28 : PySem.W.codeIn K gm "Sell.__init__" = true)
  (k28 : PySem.W.keepIn K (.ref f28) = true)
  (fX : K.lookup gr = some ⟨gw, gv, .seq #[.int 0 fO, .none] pI, gA⟩)
  (a29 : Dm_ K c5 "__init__" "Gift.__init__" Dy f29 me l6 re qp kz o6 i8 j8 rf)
  {f30 : Addr} {rC ki : Option Addr} {jk : Array (Option Value)} {iY rF lY k7 gn pw : Value}
  (a30 : PySem.W.findIn K (.ref c6) "__init__" = some (some (.ref f30)))
  {gk : Addr} {gz : Option Addr} {gE : Value} {gF : Array (Option Value)} {pR : Nat}
  (l30 : K.lookup f30 = some ⟨iY, rC, .func (PySem.W.fnOf "__init__" "Give.__init__" (Eg Cd) (CJ Cd) (Ag Cd) (.ref gk) rF lY k7 ki gn pw), jk⟩)
  (d30 : PySem.W.codeIn K gn "Give.__init__" = true)
  (k30 : PySem.W.keepIn K (.ref f30) = true)
  (fV : K.lookup gk = some ⟨gE, gz, .seq #[.none] pR, gF⟩)
  (a31 : Dm_ K c7 "__init__" "Split.__init__" Dh f31 kP je mz gP mS nN iE g8 oW)
  (a32 : Df_ K "entry_that_tells" Cy f32 le mv qf gJ pj kY g9 lR lF)
  (a33 : Dm_ K c3 "word" "Buy.word" Jq f33 qE qM nQ nC p7 py kl oZ pC)
  (a34 : Dm_ K c3 "told" "Buy.told" Jh f34 pD lm kU lS mX sf lc ls oj)
  (a35 : Df_ K "named_told" Gk f35 rO p9 lx kB pV rm kH jY j4)
  (a36 : Dm_ K c4 "word" "Sell.word" Ia f36 qK jV jx pA oB no rG jU nM)
  (a37 : Dm_ K c4 "told" "Sell.told" HW f37 km jo j9 o8 nZ mR pL rD rS)
  (a38 : Dm_ K c5 "word" "Gift.word" HY f38 nI jX qz pQ lr my pO nE mU)
  (a39 : Dm_ K c5 "told" "Gift.told" HJ f39 qA lL qh rV oy kx j5 jc mt)
  (a40 : Dm_ K c6 "word" "Give.word" Hr f40 kn mG lV i5 nL oG kM pX nj)
  (a41 : Dm_ K c6 "told" "Give.told" HB f41 rQ ju mC li lX kg ip sr iD)
  (a42 : Dm_ K c7 "word" "Split.word" Gv f42 qV oh nR lJ oF jm gH hX rY)
  (a43 : Dm_ K c7 "told" "Split.told" Gq f43 pY gN lB g7 mQ jM kJ lA kR)
  (a44 : Dm_ K c2 "word" "Parting.word" Em f44 pZ ko mF oU qW nD kE rP n4)
  (a45 : Dm_ K c2 "told" "Parting.told" Eu f45 qB qS ka pM ra lu kQ qT jl)
  (a46 : Df_ K "copy_of_entry" DR f46 iN m9 jQ mr rE jF lI kC kt)
  (a47 : Dm_ K c0 "entries" "Ledger.entries" Di f47 ke ni qv oV kq mJ jf jD iI)
  (a48 : Df_ K "_law_shown" Gn f48 lf sy mf n9 jv lZ ij qg pb)
  (a49 : Df_ K "_law_model_shown" Cz f49 ja lh m8 oJ jP rB ib oM mm)
  (a50 : Dm_ K c9 "__init__" "Twice.__init__" Dj f50 lG jH nF sg nT gO jz j6 qy)
  (a51 : Dm_ K c0 "enter" "Ledger.enter" Ej f51 k8 mj jw iw jW sj iJ qO pz)
  (a52 : Dm_ K c10 "__init__" "NoNumber.__init__" Cp f52 kX kG pG mK kb lQ qN lD lU)
  (a53 : Dm_ K c0 "refuse_missing" "Ledger.refuse_missing" Bu f53 jt pP mM pH j0 ow gZ ky io)
  (a54 : Dm_ K c0 "strike" "Ledger.strike" DP f54 rM qj qx sE pF qR hJ m6 qb)
  (a55 : Dm_ K c0 "correct" "Ledger.correct" Dd f55 iP oo mE jC iS gR iq gQ oN)
  (a56 : Df_ K "_law_refused" Eo f56 oE jG m7 oK iF jE lK jO nX)
  (a57 : Df_ K "_law_entry" Gj f57 hU rA js qt l8 oA mi rR pK)
  (a58 : Df_ K "_law_named" Gr f58 mO rq gM lW ly iT pW oX pU)
  (a59 : Df_ K "_law_made" HX f59 rb sx gI pT kT nA j7 mP i7)
  (a60 : Df_ K "_law_kind_right" CT f60 r9 ln jN qH qq mT jJ qr jj)
  (a61 : Df_ K "_law_corrected" Dl f61 ie ph jB iG on lC oY nU si)
  (a62 : Df_ K "_law_struck" Fj f62 jK pJ l4 lT mn hW gX sv mW)
  (a63 : Df_ K "_law_done" Ib f63 qD oO hV mV nu kh pk nW rh)
  (a64 : Df_ K "law" Vb f64 qG ji kK iK lP iW jS kL hZ)
  (en : PySem.W.nsIn K mainGlobals "range" = some none)
  (fH : PySem.W.nsIn K mainGlobals "len" = some none)
  (eL : PySem.W.nsIn K mainGlobals "dict" = some none)
  (dA : PySem.W.nsIn K mainGlobals "sorted" = some none)
  (fE : PySem.W.nsIn K mainGlobals "max" = some none)
  (fD : PySem.W.nsIn K mainGlobals "zip" = some none)
  (aY : PySem.W.nsIn K mainGlobals "isinstance" = some none)
  (fK : PySem.W.nsIn K mainGlobals "int" = some none)
  (eZ : PySem.W.nsIn K mainGlobals "bool" = some none)
  (fC : PySem.W.nsIn K mainGlobals "all" = some none)
  (fJ : PySem.W.nsIn K mainGlobals "str" = some none)
  (e9 : PySem.W.nsIn K mainGlobals "list" = some none)
  (fF : PySem.W.nsIn K mainGlobals "sum" = some none)
  (em : PySem.W.nsIn K mainGlobals "tuple" = some none)
  (be : PySem.W.nsIn K mainGlobals "ValueError" = some none)
  (ax : PySem.W.nsIn K mainGlobals "MOST_LETTERS" = some (some (.int 8 bW)))
  (cC : PySem.W.nsIn K mainGlobals "MOST_DAY" = some (some (.int 1000000 d7)))
  (aF : PySem.W.nsIn K mainGlobals "MOST_NUMBER" = some (some (.int 1000000 cF)))
  (aX : PySem.W.nsIn K mainGlobals "MOST_WHOLE" = some (some (.int 1000000 cR)))
  (aG : PySem.W.nsIn K mainGlobals "MOST_PIECES" = some (some (.int 1000000000 cG)))
  (bz : PySem.W.nsIn K mainGlobals "MOST_PRICE" = some (some (.int 1000000000 cI)))
  (cB : PySem.W.nsIn K mainGlobals "MOST_FEE" = some (some (.int 1000000000 ef)))
  (ao : PySem.W.nsIn K mainGlobals "MOST_GIFT_COST" = some (some (.int 1000000000000000000 bo)))
  (bA : PySem.W.nsIn K mainGlobals "MOST_SPLIT" = some (some (.int 1000 cV)))
  (ci : PySem.W.excIn K c8 [.type "ValueError", .type "Exception", .type "BaseException", .type "object"] "ValueError.__new__" = true)
  {gb fT : Str} {gj : Addr} {fZ eS : List Value} {gf : List Str} {fN : List Value} {gi : Bool} {fM : Option Bool} {fQ : Option Addr} {fS fR fW gg fY : Option Value}
  (dS : K.lookup c9 = some (excClassObj gb fT c9 gj fZ eS true gf fN gi fM fQ fS fR fW gg fY "ValueError.__new__"))
  (dL : PySem.W.tailIn K [.type "ValueError", .type "Exception", .type "BaseException", .type "object"] eS = true)
  (dH : PySem.W.isFn K (.ref f50) = true)
  (dO : PySem.W.findIn K (.ref c9) "__setattr__" = some (some (.builtin "object.__setattr__")))
  (dZ : PySem.W.keepIn K (.ref c9) = true)
  (dG : PySem.W.findIn K (.ref c9) "__class__" = some (some (.builtin "object.__class__")))
  (dQ : PySem.W.findIn K (.ref c9) "__getattribute__" = some (some (.builtin "BaseException.__getattribute__")))
  (dU : PySem.W.findIn K (.ref c9) "__getattr__" = some none)
  (aB : PySem.W.findIn K (.ref c9) "number" = some none)
  {fq fw : Str} {fL : Addr} {fz dz : List Value} {fB : List Str} {fb : List Value} {fm : Bool} {eX : Option Bool} {fk : Option Addr} {fu fA fh ft fj : Option Value}
  (bQ : K.lookup c10 = some (excClassObj fq fw c10 fL fz dz true fB fb fm eX fk fu fA fh ft fj "ValueError.__new__"))
  (bV : PySem.W.tailIn K [.type "ValueError", .type "Exception", .type "BaseException", .type "object"] dz = true)
  (bG : PySem.W.isFn K (.ref f52) = true)
  (bP : PySem.W.findIn K (.ref c10) "__setattr__" = some (some (.builtin "object.__setattr__")))
  (bL : PySem.W.keepIn K (.ref c10) = true)
  (bR : PySem.W.findIn K (.ref c10) "__class__" = some (some (.builtin "object.__class__")))
  (bC : PySem.W.findIn K (.ref c10) "__getattribute__" = some (some (.builtin "BaseException.__getattribute__")))
  (bI : PySem.W.findIn K (.ref c10) "__getattr__" = some none)
  (ai : PySem.W.findIn K (.ref c10) "number" = some none)
  (bN : PySem.W.specialIn K (.ref c8) "__getattribute__" = some (some (.builtin "type.__getattribute__")))
  (bJ : PySem.W.readsIn K c8 (.type "type") = true)
  (bB : PySem.W.findCls K (.ref c8) (.type "type") "__init__" = some (.val (.builtin "ValueError.__init__")))
  (cT : PySem.W.specialIn K (.builtin "object.__class__") "__get__" = some (some (.builtin "getset_descriptor.__get__")))
  (cZ : PySem.W.takesIn K (.builtin "object.__class__") = some true)
  (cX : PySem.W.plainGet K c0 Str.empty = true)
  (cK : PySem.W.hasDictIn K c0 = true)
  (cL : PySem.W.plainOver K c0 = true)
  (cU : PySem.W.findIn K (.ref c0) "__setattr__" = some (some (.builtin "object.__setattr__")))
  (af : PySem.W.findIn K (.ref c0) "by_number" = some none)
  (aR : PySem.W.plainGet K c2 Str.empty = true)
  (aS : PySem.W.hasDictIn K c2 = true)
  (aT : PySem.W.plainOver K c2 = true)
  (aU : PySem.W.findIn K (.ref c2) "__setattr__" = some (some (.builtin "object.__setattr__")))
  (cx : PySem.W.findIn K (.ref c2) "__class__" = some (some (.builtin "object.__class__")))
  (cr : PySem.W.mroIn K c2 (.type "object") = some true)
  (aE : PySem.W.findIn K (.ref c2) "day" = some none)
  (am : PySem.W.findIn K (.ref c2) "number" = some none)
  (az : PySem.W.findIn K (.ref c2) "ware" = some none)
  (aq : PySem.W.findIn K (.ref c2) "other" = some none)
  (av : PySem.W.findIn K (.ref c2) "share" = some none)
  (ar : PySem.W.findIn K (.ref c2) "whole" = some none)
  (ee : PySem.W.plainGet K c3 Str.empty = true)
  (d9 : PySem.W.hasDictIn K c3 = true)
  (d8 : PySem.W.plainOver K c3 = true)
  (ed : PySem.W.findIn K (.ref c3) "__setattr__" = some (some (.builtin "object.__setattr__")))
  (fg : PySem.W.findIn K (.ref c3) "__class__" = some (some (.builtin "object.__class__")))
  (eO : PySem.W.mroIn K c3 (.type "object") = some true)
  (cO : PySem.W.findIn K (.ref c3) "day" = some none)
  (aV : PySem.W.findIn K (.ref c3) "number" = some none)
  (cv : PySem.W.findIn K (.ref c3) "ware" = some none)
  (bb : PySem.W.findIn K (.ref c3) "pieces" = some none)
  (bU : PySem.W.findIn K (.ref c3) "price" = some none)
  (cJ : PySem.W.findIn K (.ref c3) "fee" = some none)
  (bY : PySem.W.findIn K (.ref c3) "cost" = some none)
  (dw : PySem.W.plainGet K c4 Str.empty = true)
  (dm : PySem.W.hasDictIn K c4 = true)
  (di : PySem.W.plainOver K c4 = true)
  (dq : PySem.W.findIn K (.ref c4) "__setattr__" = some (some (.builtin "object.__setattr__")))
  (eB : PySem.W.findIn K (.ref c4) "__class__" = some (some (.builtin "object.__class__")))
  (et : PySem.W.mroIn K c4 (.type "object") = some true)
  (b9 : PySem.W.findIn K (.ref c4) "day" = some none)
  (aQ : PySem.W.findIn K (.ref c4) "number" = some none)
  (bS : PySem.W.findIn K (.ref c4) "ware" = some none)
  (aK : PySem.W.findIn K (.ref c4) "pieces" = some none)
  (bg : PySem.W.findIn K (.ref c4) "price" = some none)
  (cE : PySem.W.findIn K (.ref c4) "fee" = some none)
  (bu : PySem.W.findIn K (.ref c4) "named" = some none)
  (au : PySem.W.findIn K (.ref c4) "proceeds" = some none)
  (de : PySem.W.plainGet K c5 Str.empty = true)
  (dt : PySem.W.hasDictIn K c5 = true)
  (dj : PySem.W.plainOver K c5 = true)
  (du : PySem.W.findIn K (.ref c5) "__setattr__" = some (some (.builtin "object.__setattr__")))
  (eD : PySem.W.findIn K (.ref c5) "__class__" = some (some (.builtin "object.__class__")))
  (eJ : PySem.W.mroIn K c5 (.type "object") = some true)
  (bX : PySem.W.findIn K (.ref c5) "day" = some none)
  (aI : PySem.W.findIn K (.ref c5) "number" = some none)
  (bE : PySem.W.findIn K (.ref c5) "ware" = some none)
  (aC : PySem.W.findIn K (.ref c5) "pieces" = some none)
  (bM : PySem.W.findIn K (.ref c5) "cost" = some none)
  (bw : PySem.W.findIn K (.ref c5) "since" = some none)
  (dg : PySem.W.plainGet K c6 Str.empty = true)
  (df : PySem.W.hasDictIn K c6 = true)
  (dh : PySem.W.plainOver K c6 = true)
  (dv : PySem.W.findIn K (.ref c6) "__setattr__" = some (some (.builtin "object.__setattr__")))
  (eg : PySem.W.findIn K (.ref c6) "__class__" = some (some (.builtin "object.__class__")))
  (eC : PySem.W.mroIn K c6 (.type "object") = some true)
  (cm : PySem.W.findIn K (.ref c6) "day" = some none)
  (aP : PySem.W.findIn K (.ref c6) "number" = some none)
  (bO : PySem.W.findIn K (.ref c6) "ware" = some none)
  (aJ : PySem.W.findIn K (.ref c6) "pieces" = some none)
  (ba : PySem.W.findIn K (.ref c6) "named" = some none)
  (cA : PySem.W.plainGet K c7 Str.empty = true)
  (cq : PySem.W.hasDictIn K c7 = true)
  (cy : PySem.W.plainOver K c7 = true)
  (cw : PySem.W.findIn K (.ref c7) "__setattr__" = some (some (.builtin "object.__setattr__")))
  (dB : PySem.W.findIn K (.ref c7) "__class__" = some (some (.builtin "object.__class__")))
  (dC : PySem.W.mroIn K c7 (.type "object") = some true)
  (bD : PySem.W.findIn K (.ref c7) "day" = some none)
  (ay : PySem.W.findIn K (.ref c7) "number" = some none)
  (bf : PySem.W.findIn K (.ref c7) "ware" = some none)
  (aZ : PySem.W.findIn K (.ref c7) "many" = some none)
  (cu : PySem.W.findIn K (.ref c7) "of" = some none)
  (bT : PySem.W.makesIn K c2 = true)
  (bK : PySem.W.isFn K (.ref f23) = true)
  (bH : PySem.W.keepIn K (.ref c2) = true)
  (el : PySem.W.makesIn K c3 = true)
  (eG : PySem.W.isFn K (.ref f25) = true)
  (eA : PySem.W.keepIn K (.ref c3) = true)
  (dD : PySem.W.makesIn K c4 = true)
  (dY : PySem.W.isFn K (.ref f28) = true)
  (dR : PySem.W.keepIn K (.ref c4) = true)
  (dN : PySem.W.makesIn K c5 = true)
  (dI : PySem.W.isFn K (.ref f29) = true)
  (dX : PySem.W.keepIn K (.ref c5) = true)
  (dJ : PySem.W.makesIn K c6 = true)
  (dE : PySem.W.isFn K (.ref f30) = true)
  (dW : PySem.W.keepIn K (.ref c6) = true)
  (cQ : PySem.W.makesIn K c7 = true)
  (cP : PySem.W.isFn K (.ref f31) = true)
  (db : PySem.W.keepIn K (.ref c7) = true)
  (bZ : PySem.W.makesIn K c0 = true)
  (cf : PySem.W.isFn K (.ref f13) = true)
  (cz : PySem.W.keepIn K (.ref c0) = true)
  (aW : PySem.W.isFn K (.ref f33) = true)
  (aH : PySem.W.isFn K (.ref f36) = true)
  (aO : PySem.W.isFn K (.ref f38) = true)
  (aM : PySem.W.isFn K (.ref f40) = true)
  (aw : PySem.W.isFn K (.ref f42) = true)
  (ak : PySem.W.isFn K (.ref f44) = true)
  (bj : PySem.W.isFn K (.ref f34) = true)
  (aD : PySem.W.isFn K (.ref f37) = true)
  (aN : PySem.W.isFn K (.ref f39) = true)
  (aL : PySem.W.isFn K (.ref f41) = true)
  (aA : PySem.W.isFn K (.ref f43) = true)
  (al : PySem.W.isFn K (.ref f45) = true)
  (aa : PySem.W.isFn K (.ref f53) = true)
  (ap : PySem.W.isFn K (.ref f51) = true)
  (aj : PySem.W.isFn K (.ref f54) = true)
  (ae : PySem.W.isFn K (.ref f55) = true)
  (ah : PySem.W.isFn K (.ref f47) = true)
  (ad : PySem.W.specialIn K (.ref c1) "__getattribute__" = some (some (.builtin "type.__getattribute__")))
  (ag : PySem.W.readsIn K c1 (.type "type") = true)
  (ac : PySem.W.findCls K (.ref c1) (.type "type") "__init__" = some (.val (.ref f22)))
  (eN : PySem.W.kitOne K (.ref c9) (.ref c8) = some true)
  (eT : PySem.W.kitOne K (.ref c10) (.ref c8) = some true)
  (eR : PySem.W.kitOne K (.ref c9) (.ref c9) = some true)
  (eV : PySem.W.kitOne K (.ref c9) (.ref c10) = some false)
  (eW : PySem.W.kitOne K (.ref c10) (.ref c9) = some false)
  (eU : PySem.W.kitOne K (.ref c10) (.ref c10) = some true)
  (eP : PySem.W.kitOne K (.ref c9) (.type "ValueError") = some true)
  (eK : PySem.W.kitOne K (.ref c10) (.type "ValueError") = some true)
  (eM : PySem.W.kitAny K (.ref c9) [.ref c11, .ref c12, .ref c13, .ref c14, .ref c15, .ref c16, .ref c17, .ref c18] = some false)
  (fc : PySem.W.kitAny K (.ref c10) [.ref c11, .ref c12, .ref c13, .ref c14, .ref c15, .ref c16, .ref c17, .ref c18] = some false)
  (dF : PySem.W.kitOne K (.ref c3) (.ref c4) = some false /\ PySem.W.kitOne K (.ref c3) (.ref c5) = some false /\ PySem.W.kitOne K (.ref c3) (.ref c6) = some false /\ PySem.W.kitOne K (.ref c3) (.ref c7) = some false /\ PySem.W.kitOne K (.ref c3) (.ref c2) = some false)
  (cM : PySem.W.kitOne K (.ref c4) (.ref c3) = some false /\ PySem.W.kitOne K (.ref c4) (.ref c5) = some false /\ PySem.W.kitOne K (.ref c4) (.ref c6) = some false /\ PySem.W.kitOne K (.ref c4) (.ref c7) = some false /\ PySem.W.kitOne K (.ref c4) (.ref c2) = some false)
  (cN : PySem.W.kitOne K (.ref c5) (.ref c3) = some false /\ PySem.W.kitOne K (.ref c5) (.ref c4) = some false /\ PySem.W.kitOne K (.ref c5) (.ref c6) = some false /\ PySem.W.kitOne K (.ref c5) (.ref c7) = some false /\ PySem.W.kitOne K (.ref c5) (.ref c2) = some false)
  (cS : PySem.W.kitOne K (.ref c6) (.ref c3) = some false /\ PySem.W.kitOne K (.ref c6) (.ref c4) = some false /\ PySem.W.kitOne K (.ref c6) (.ref c5) = some false /\ PySem.W.kitOne K (.ref c6) (.ref c7) = some false /\ PySem.W.kitOne K (.ref c6) (.ref c2) = some false)
  (b7 : PySem.W.kitOne K (.ref c7) (.ref c3) = some false /\ PySem.W.kitOne K (.ref c7) (.ref c4) = some false /\ PySem.W.kitOne K (.ref c7) (.ref c5) = some false /\ PySem.W.kitOne K (.ref c7) (.ref c6) = some false /\ PySem.W.kitOne K (.ref c7) (.ref c2) = some false)
  (bh : PySem.W.kitOne K (.ref c2) (.ref c3) = some false /\ PySem.W.kitOne K (.ref c2) (.ref c4) = some false /\ PySem.W.kitOne K (.ref c2) (.ref c5) = some false /\ PySem.W.kitOne K (.ref c2) (.ref c6) = some false /\ PySem.W.kitOne K (.ref c2) (.ref c7) = some false)
  : ∃ fd : FuncData, (∀ (s : Shared) (v : Value), BindsTo s fd ⟨[v], []⟩ [("_law_script", v)]) /\ ∀ base : Heap, K.In base -> base.Ns mainGlobals mg -> FnOk l.prog w K mg base CX0 12 fa fd ["_law_script"] (Wn K) := by
 have e := hfa.symm.trans (PySem.W.mg_of X G a64.1)
 cases e
 have T : Txt K mg ⟨f0, f1, f2, f3, f4, f5, f6, f7, f8, f9, f10, f11, f12, f13, f14, f15, f16, f17, f18, f19, f20, f21, f22, f23, f24, f25, f26, f27, f28, f29, f30, f31, f32, f33, f34, f35, f36, f37, f38, f39, f40, f41, f42, f43, f44, f45, f46, f47, f48, f49, f50, f51, f52, f53, f54, f55, f56, f57, f58, f59, f60, f61, f62, f63, fa, c0, c1, c2, c3, c4, c5, c6, c7, c8, c9, c10, c11, c12, c13, c14, c15, c16, c17, c18, bW, d7, cF, cR, cG, cI, ef, bo, cV⟩ ⟨_, _, _, _, _, _, _, _, _, _, _, _, _, _, _, _, _, _, _, _, _, _, _, _, _, _, _, _, _, _, _, _, _, _, _, _, _, _, _, _, _, _, _, _, _, _, _, _, _, _, _, _, _, _, _, _, _, _, _, _, _, _, _, _, _⟩ := ⟨PySem.W.mg_of X G a0.1, a0.2.2.2, Bb (st := Gh) a0.2.1 a0.2.2.1 a0.2.2.2, PySem.W.mg_of X G a1.1, a1.2.2.2, Bb (st := Ek) a1.2.1 a1.2.2.1 a1.2.2.2, PySem.W.mg_of X G a2.1, a2.2.2.2, Bb (st := Et) a2.2.1 a2.2.2.1 a2.2.2.2, PySem.W.mg_of X G a3.1, a3.2.2.2, Bb (st := Hw) a3.2.1 a3.2.2.1 a3.2.2.2, PySem.W.mg_of X G a4.1, a4.2.2.2, Bb (st := CZ) a4.2.1 a4.2.2.1 a4.2.2.2, PySem.W.mg_of X G a5.1, a5.2.2.2, Bb (st := Dz) a5.2.1 a5.2.2.1 a5.2.2.2, PySem.W.mg_of X G a6.1, a6.2.2.2, Bb (st := Ht) a6.2.1 a6.2.2.1 a6.2.2.2, PySem.W.mg_of X G a7.1, a7.2.2.2, Bb (st := Gp) a7.2.1 a7.2.2.1 a7.2.2.2, PySem.W.mg_of X G a8.1, a8.2.2.2, Bb (st := Fp) a8.2.1 a8.2.2.1 a8.2.2.2, PySem.W.mg_of X G a9.1, a9.2.2.2, Bb (st := Jo) a9.2.1 a9.2.2.1 a9.2.2.2, PySem.W.mg_of X G a10.1, a10.2.2.2, Bb (st := Ep) a10.2.1 a10.2.2.1 a10.2.2.2, PySem.W.mg_of X G a11.1, a11.2.2.2, Bb (st := Jm) a11.2.1 a11.2.2.1 a11.2.2.2, PySem.W.mg_of X G a12.1, a12.2.2.2, Bb (st := En) a12.2.1 a12.2.2.1 a12.2.2.2, Bb (st := CQ) a13.2.1 a13.2.2.1 a13.2.2.2, PySem.W.mg_of X G a14.1, a14.2.2.2, Bb (st := Fo) a14.2.1 a14.2.2.1 a14.2.2.2, PySem.W.mg_of X G a15.1, a15.2.2.2, Bb (st := Ei) a15.2.1 a15.2.2.1 a15.2.2.2, PySem.W.mg_of X G a16.1, Bb (st := Jk) a16.2.1 a16.2.2.1 a16.2.2.2, PySem.W.mg_of X G a17.1, a17.2.2.2, Bb (st := Jl) a17.2.1 a17.2.2.1 a17.2.2.2, PySem.W.mg_of X G a18.1, a18.2.2.2, Bb (st := CV) a18.2.1 a18.2.2.1 a18.2.2.2, PySem.W.mg_of X G a19.1, a19.2.2.2, Bb (st := Er) a19.2.1 a19.2.2.1 a19.2.2.2, PySem.W.mg_of X G a20.1, a20.2.2.2, Bb (st := Ku) a20.2.1 a20.2.2.1 a20.2.2.2, PySem.W.mg_of X G a21.1, a21.2.2.2, Bb (st := Gu) a21.2.1 a21.2.2.1 a21.2.2.2, Bb (st := Dk) a22.2.1 a22.2.2.1 a22.2.2.2, Bb (st := CG) a23.2.1 a23.2.2.1 a23.2.2.2, PySem.W.mg_of X G a24.1, a24.2.2.2, Bb (st := Fl) a24.2.1 a24.2.2.1 a24.2.2.2, Uu (st := Cr) (its := [.int 0 fP]) l25 d25 k25 fU rfl (.cons ⟨_, rfl⟩ .nil), PySem.W.mg_of X G a26.1, a26.2.2.2, Bb (st := Fv) a26.2.1 a26.2.2.1 a26.2.2.2, PySem.W.mg_of X G a27.1, a27.2.2.2, Bb (st := Gi) a27.2.1 a27.2.2.1 a27.2.2.2, Uu (st := Cg) (its := [.int 0 fO, .none]) l28 d28 k28 fX rfl (.cons ⟨_, rfl⟩ (.cons rfl .nil)), Bb (st := Dy) a29.2.1 a29.2.2.1 a29.2.2.2, Uu (st := Cd) (its := [.none]) l30 d30 k30 fV rfl (.cons rfl .nil), Bb (st := Dh) a31.2.1 a31.2.2.1 a31.2.2.2, PySem.W.mg_of X G a32.1, a32.2.2.2, Bb (st := Cy) a32.2.1 a32.2.2.1 a32.2.2.2, Bb (st := Jq) a33.2.1 a33.2.2.1 a33.2.2.2, Bb (st := Jh) a34.2.1 a34.2.2.1 a34.2.2.2, PySem.W.mg_of X G a35.1, a35.2.2.2, Bb (st := Gk) a35.2.1 a35.2.2.1 a35.2.2.2, Bb (st := Ia) a36.2.1 a36.2.2.1 a36.2.2.2, Bb (st := HW) a37.2.1 a37.2.2.1 a37.2.2.2, Bb (st := HY) a38.2.1 a38.2.2.1 a38.2.2.2, Bb (st := HJ) a39.2.1 a39.2.2.1 a39.2.2.2, Bb (st := Hr) a40.2.1 a40.2.2.1 a40.2.2.2, Bb (st := HB) a41.2.1 a41.2.2.1 a41.2.2.2, Bb (st := Gv) a42.2.1 a42.2.2.1 a42.2.2.2, Bb (st := Gq) a43.2.1 a43.2.2.1 a43.2.2.2, Bb (st := Em) a44.2.1 a44.2.2.1 a44.2.2.2, Bb (st := Eu) a45.2.1 a45.2.2.1 a45.2.2.2, PySem.W.mg_of X G a46.1, a46.2.2.2, Bb (st := DR) a46.2.1 a46.2.2.1 a46.2.2.2, Bb (st := Di) a47.2.1 a47.2.2.1 a47.2.2.2, PySem.W.mg_of X G a48.1, a48.2.2.2, Bb (st := Gn) a48.2.1 a48.2.2.1 a48.2.2.2, PySem.W.mg_of X G a49.1, a49.2.2.2, Bb (st := Cz) a49.2.1 a49.2.2.1 a49.2.2.2, Bb (st := Dj) a50.2.1 a50.2.2.1 a50.2.2.2, Bb (st := Ej) a51.2.1 a51.2.2.1 a51.2.2.2, Bb (st := Cp) a52.2.1 a52.2.2.1 a52.2.2.2, Bb (st := Bu) a53.2.1 a53.2.2.1 a53.2.2.2, Bb (st := DP) a54.2.1 a54.2.2.1 a54.2.2.2, Bb (st := Dd) a55.2.1 a55.2.2.1 a55.2.2.2, PySem.W.mg_of X G a56.1, a56.2.2.2, Bb (st := Eo) a56.2.1 a56.2.2.1 a56.2.2.2, PySem.W.mg_of X G a57.1, a57.2.2.2, Bb (st := Gj) a57.2.1 a57.2.2.1 a57.2.2.2, PySem.W.mg_of X G a58.1, a58.2.2.2, Bb (st := Gr) a58.2.1 a58.2.2.1 a58.2.2.2, PySem.W.mg_of X G a59.1, a59.2.2.2, Bb (st := HX) a59.2.1 a59.2.2.1 a59.2.2.2, PySem.W.mg_of X G a60.1, a60.2.2.2, Bb (st := CT) a60.2.1 a60.2.2.1 a60.2.2.2, PySem.W.mg_of X G a61.1, a61.2.2.2, Bb (st := Dl) a61.2.1 a61.2.2.1 a61.2.2.2, PySem.W.mg_of X G a62.1, a62.2.2.2, Bb (st := Fj) a62.2.1 a62.2.2.1 a62.2.2.2, PySem.W.mg_of X G a63.1, a63.2.2.2, Bb (st := Ib) a63.2.1 a63.2.2.1 a63.2.2.2, Bb (st := Vb) a64.2.1 a64.2.2.1 a64.2.2.2, PySem.W.mg_none_of X G en, PySem.W.mg_none_of X G fH, PySem.W.mg_none_of X G eL, PySem.W.mg_none_of X G dA, PySem.W.mg_none_of X G fE, PySem.W.mg_none_of X G fD, PySem.W.mg_none_of X G aY, PySem.W.mg_none_of X G fK, PySem.W.mg_none_of X G eZ, PySem.W.mg_none_of X G fC, PySem.W.mg_none_of X G fJ, PySem.W.mg_none_of X G e9, PySem.W.mg_none_of X G fF, PySem.W.mg_none_of X G em, PySem.W.mg_none_of X G be, PySem.W.mg_of X G dM, PySem.W.mg_of X G eI, PySem.W.mg_of X G cY, PySem.W.mg_of X G fG, PySem.W.mg_of X G fe, PySem.W.mg_of X G eQ, PySem.W.mg_of X G e8, PySem.W.mg_of X G eo, PySem.W.mg_of X G b8, PySem.W.mg_of X G eE, PySem.W.mg_of X G cg, PySem.W.mg_of X G eY, PySem.W.mg_of X G cH, PySem.W.mg_of X G eF, PySem.W.mg_of X G cj, PySem.W.mg_of X G dP, PySem.W.mg_of X G ek, PySem.W.mg_of X G bF, PySem.W.mg_of X G cW, PySem.W.mg_of X G ax, PySem.W.mg_of X G cC, PySem.W.mg_of X G aF, PySem.W.mg_of X G aX, PySem.W.mg_of X G aG, PySem.W.mg_of X G bz, PySem.W.mg_of X G cB, PySem.W.mg_of X G ao, PySem.W.mg_of X G bA, ⟨ci⟩, ⟨⟨_, _, _, _, _, _, _, _, _, _, _, _, _, _, _, dS, dL⟩, a50.1, dH, dO, dZ⟩, ⟨dG, dQ, dU⟩, aB, ⟨⟨_, _, _, _, _, _, _, _, _, _, _, _, _, _, _, bQ, bV⟩, a52.1, bG, bP, bL⟩, ⟨bR, bC, bI⟩, ai, ⟨bN, bJ, bB⟩, ⟨cX, cK, cL, cU⟩, af, ⟨aR, aS, aT, aU⟩, ⟨⟨aR, aS, aT, aU⟩, cx, cT, cZ, cr⟩, aE, am, az, aq, av, ar, ⟨ee, d9, d8, ed⟩, ⟨⟨ee, d9, d8, ed⟩, fg, cT, cZ, eO⟩, cO, aV, cv, bb, bU, cJ, bY, ⟨dw, dm, di, dq⟩, ⟨⟨dw, dm, di, dq⟩, eB, cT, cZ, et⟩, b9, aQ, bS, aK, bg, cE, bu, au, ⟨de, dt, dj, du⟩, ⟨⟨de, dt, dj, du⟩, eD, cT, cZ, eJ⟩, bX, aI, bE, aC, bM, bw, ⟨dg, df, dh, dv⟩, ⟨⟨dg, df, dh, dv⟩, eg, cT, cZ, eC⟩, cm, aP, bO, aJ, ba, ⟨cA, cq, cy, cw⟩, ⟨⟨cA, cq, cy, cw⟩, dB, cT, cZ, dC⟩, bD, ay, bf, aZ, cu, ⟨bT, a23.1, bK, bH⟩, ⟨el, a25, eG, eA⟩, ⟨dD, a28, dY, dR⟩, ⟨dN, a29.1, dI, dX⟩, ⟨dJ, a30, dE, dW⟩, ⟨cQ, a31.1, cP, db⟩, ⟨bZ, a13.1, cf, cz⟩, ⟨a33.1, aW, a33.2.2.2⟩, ⟨a36.1, aH, a36.2.2.2⟩, ⟨a38.1, aO, a38.2.2.2⟩, ⟨a40.1, aM, a40.2.2.2⟩, ⟨a42.1, aw, a42.2.2.2⟩, ⟨a44.1, ak, a44.2.2.2⟩, ⟨a34.1, bj, a34.2.2.2⟩, ⟨a37.1, aD, a37.2.2.2⟩, ⟨a39.1, aN, a39.2.2.2⟩, ⟨a41.1, aL, a41.2.2.2⟩, ⟨a43.1, aA, a43.2.2.2⟩, ⟨a45.1, al, a45.2.2.2⟩, ⟨a53.1, aa, a53.2.2.2⟩, ⟨a51.1, ap, a51.2.2.2⟩, ⟨a54.1, aj, a54.2.2.2⟩, ⟨a55.1, ae, a55.2.2.2⟩, ⟨a47.1, ah, a47.2.2.2⟩, ⟨ad, ag, ac⟩, eN, eT, eR, eV, eW, eU, eP, eK, eM, fc, dF, cM, cN, cS, b7, bh⟩
 exact ⟨_, fun s v => .of_eq rfl, fun base _ _ => acz T⟩
theorem walk {l : PySem.W.OpenLaw} {q : Program} {loose : List Str} {XP : (Str -> Option Value) -> Heap -> Prop} {YP : World -> Heap -> Prop} {d : DefRec} {K : Params -> Fg_} (hn : l.most = some 63) (hdf : d.params.defaults = [])
  (hY : ∀ (w : World) (h : Heap), YP w h -> (K w.params).In h)
  (F : ∀ (w : World) (mg : Str -> Option Value) (fa : Addr) (h : Heap), (K w.params).In h -> h.Ns mainGlobals mg -> mg d.name = some (.ref fa) ->
   ∃ fd : FuncData, (∀ (s : Shared) (u : Value), BindsTo s fd ⟨[u], []⟩ [("_law_script", u)]) /\ ∀ base : Heap, (K w.params).In base -> base.Ns mainGlobals mg -> FnOk l.prog w (K w.params) mg base CX0 12 fa fd ["_law_script"] (Wn (K w.params))) :
  PySem.W.WalkO q loose XP YP l.row.toRowW d [] (fun f vs => PySem.call f vs) :=
 L2.walk_of (n := 63) (k := 12) (x := "_law_script") (CX := fun _ => CX0) (sp := fun w => Wn (K w.params)) hn (by decide) hdf ⟨rfl, by decide, by decide⟩ hY F (fun _ _ a ns hl _ hS => ⟨a, ns, rfl, hS, hl, fun _ => rfl⟩) fun _ _ _ _ _ z => z
end My
namespace PySem.W.Fast
def tw10909630185015933982:=0
def tw2351167995095216378:=0
def tw13568840690180240235:=0
def tw12225181516104137424:=0
def tw15137215065885248277:=0
def tw2864513170587835819:=0
def tw15950545909776313281:=0
def tw15110959210473358556:=0
def tw13956634932670245333:=0
def tw9612358276611317746:=0
def tw11324772771779187510:=0
def tw10110009158494233784:=0
def tw13179621477975777431:=0
def tw10978211245858941235:=0
def tw5506566275823585331:=0
def tw17425432106201026100:=0
def tw10912419717894098219:=0
def tw17618713926000324275:=0
def tw17238822408816005864:=0
def tw8550553101381250768:=0
def tw3527042691365435937:=0
def tw10147772786477324826:=0
def tw12021780321985524486:=0
def tw3437402463327935027:=0
def tw9688281001612005294:=0
def tw7079149242265635585:=0
def tw7522309944404047441:=0
def tw13749289506503343140:=0
def tw16510042455097526609:=0
def tw2050410783239415927:=0
def tw2915563460506757994:=0
def tw7634223502573187167:=0
def tw3819896484199460737:=0
def tw10422291715446501593:=0
def tw12319678829340530620:=0
def tw15616343293433735969:=0
def tw17368484426758888141:=0
def tw9878151579062796779:=0
def tw8379386870147705759:=0
def tw13669549239823667253:=0
def tw1517290209617522737:=0
def tw15009039877052435526:=0
def tw14971885530022603655:=0
def tw6193660984690667144:=0
def tw993154320599817684:=0
def tw7372934200355272094:=0
def tw10372326412104800889:=0
def tw3965782408256957756:=0
def tw12350468898866599131:=0
def tw1192383370156262275:=0
def tw479637684819488192:=0
def tw2615816060267912243:=0
def tw10514593295640931296:=0
def tw12217898414098616789:=0
def tw17030796056739850182:=0
def tw13458602323126095013:=0
def tw4813752885122372230:=0
def tw12606783912853444022:=0
def tw185048803627218267:=0
def tw9057661661820427158:=0
def tw1843231886046885136:=0
def tw2004138649709869986:=0
def tw6743069460937689509:=0
def tw3818723387265519407:=0
def tw4007471986411997232:=0
def tw219008523674408938:=0
def tw4052701909448133353:=0
def tw17612114227707619832:=0
def tw11397946450493947896:=0
def tw1402946841147523860:=0
def tw13031985549701282969:=0
def tw1015441811075096945:=0
def tw18106028641752912565:=0
def tw9080868427832435188:=0
def tw2990476797172143599:=0
def tw10593328400001273708:=0
def tw9824637982702355861:=0
def tw14622682143290861903:=0
def tw10561605205218221581:=0
def tw6331672133179498933:=0
def tw14305341042504273323:=0
def tw16094018032531718795:=0
def tw7274119934265344280:=0
def tw12557523349686022047:=0
def tw4163730567416707381:=0
def tw7322057341223676887:=0
def tw9380639875841809845:=0
def tw12099471754197632441:=0
def tw5836988382600837357:=0
def tw2177688796213038961:=0
def tw7799048177782880319:=0
def tw2091447591263523808:=0
def tw6551064678671446869:=0
def tw10017901583150150245:=0
def tw10830971550162355125:=0
def tw1301328278035416098:=0
def tw14946412541584862405:=0
def tw2082511648681899740:=0
def tw14894151676815556053:=0
def tw18337042783307917328:=0
def tw14513270990194476074:=0
def tw11746549359914346856:=0
def tw477217631601567737:=0
def tw315556982506806547:=0
def tw8206528441424984890:=0
def tw14522470413147319678:=0
def tw4334970291167282043:=0
def tw10550709993726686374:=0
def tw13974553359647616698:=0
def tw228049394076867012:=0
def tw6057697532679872557:=0
def tw17587720870596262222:=0
def tw17406144366158838296:=0
def tw6733882901228032588:=0
def tw8749503995740211511:=0
def tw16271796691705513377:=0
def tw15578788500653843939:=0
def tw8816024045792231489:=0
def tw3085333782690531736:=0
def tw18035628571292233331:=0
def tw4177016430614204199:=0
def tw5626745244364537070:=0
def tw11451198658294870422:=0
def tw14805964296083337268:=0
def tw12757236202839213743:=0
def tw3335652656620053567:=0
def tw16499174518642164192:=0
def tw15988112106257812362:=0
def tw11151176183564901295:=0
def tw15195634692711860462:=0
def tw805366530142374162:=0
def tw5305205803908261252:=0
def tw13270035769082025532:=0
def tw1488744247977527425:=0
def tw4101991832722882253:=0
def tw3436950163662043357:=0
def tw6806046019730406465:=0
def tw7377048901200420936:=0
def tw6307182350515594135:=0
def tw18331773761446223921:=0
def tw9894793091820153471:=0
def tw7246652270207649751:=0
def tw4654349032020755262:=0
def tw4659104289777371551:=0
def tw405644593324803308:=0
def tw2156358993685113120:=0
def tw2378260414449763923:=0
def tw322004563674950393:=0
def tw16493818394875173681:=0
def tw17174185503416680398:=0
def tw12888998509675857980:=0
def tw5870762990627225086:=0
def tw4275087398060488315:=0
def tw9424854162009944333:=0
def tw9828545927878627076:=0
def tw12591837265512633914:=0
def tw5907485737812762032:=0
def tw14955414864924608009:=0
def tw15785853364060643941:=0
def tw13170456090863096496:=0
def tw4625484274262163981:=0
def tw8158053429389143042:=0
def tw7531765737932920398:=0
def tw4271279081124569860:=0
def tw8285431380143031891:=0
def tw10355366059975908392:=0
def tw9065333021550361113:=0
def tw8012444783167331326:=0
def tw11090258228039345875:=0
def tw14332353556186622475:=0
def tw9393995997687711022:=0
def tw11434445929093041075:=0
def tw5134397744543813379:=0
def tw11860024033778813387:=0
def tw14229117481736509665:=0
def tw254181637785419922:=0
def tw3448243972565618307:=0
def tw10013542613806532232:=0
def tw9571237834866897562:=0
def tw8904082760651347187:=0
def tw4935622264801147409:=0
def tw9739517958397736849:=0
def tw17459836379659937013:=0
def tw1155229396227824659:=0
def tw5473372482854950463:=0
def tw16146638044979213473:=0
def tw6973838362692794885:=0
def tw14237939505701202305:=0
def tw18082068824400406066:=0
def tw695551980117110073:=0
def tw4487002422522392031:=0
def tw12260312445923125086:=0
def tw12160336250296958060:=0
def tw8352157848458029047:=0
def tw13093281924576938428:=0
def tw12048308017120787266:=0
def tw16414350752738147665:=0
def tw6517592940612402054:=0
def tw6470228440111351374:=0
def tw17619325035168500032:=0
def tw16253168312046685182:=0
def tw5545642130152240831:=0
def tw13410935869178210586:=0
def tw13846416938877953375:=0
def tw5706627050456122485:=0
def tw16098990213132634437:=0
def tw3842140182002360775:=0
def tw16045546325584251029:=0
def tw6480511167536628076:=0
def tw9921268403110159519:=0
def tw2488368457510470357:=0
def tw5122314172633592563:=0
def tw776910073604820550:=0
def tw11659608742012502350:=0
def tw13233591031615025486:=0
def tw7081709617163700924:=0
def tw7229592264287552476:=0
def tw7994386764350089681:=0
def tw10465960271843134396:=0
def tw664334969884758572:=0
def tw16301525056325368736:=0
def tw16841943205906564146:=0
def tw15433606106768291050:=0
def tw12532314976057711145:=0
def tw14153559569921640959:=0
def tw5066267866524945491:=0
def tw3393858526800689615:=0
def tw3972949800205010475:=0
def tw872980616776422765:=0
def tw710935105347918878:=0
def tw1970652545486429677:=0
def tw10987065207040782454:=0
def tw1578880910129565883:=0
def tw419217763436510493:=0
def tw15460166668298045728:=0
def tw3847018332217205834:=0
def tw6823184768958428284:=0
def tw18340080023910719007:=0
def tw5607473676045714409:=0
def tw9918838678252545090:=0
def tw15233973362234063127:=0
def tw11829586260746640600:=0
def tw9335053692271316298:=0
def tw8510791065468656792:=0
def tw5705591359564276599:=0
def tw6669959405563295816:=0
def tw8369933799675892538:=0
def tw9179860556332936637:=0
def tw15898286292471386267:=0
def tw165998490511089772:=0
def tw17813703520725421022:=0
def tw15060555022507555708:=0
def tw15102871361682668803:=0
def tw9284626000561468834:=0
def tw8680389970353627954:=0
def tw4477636293735689317:=0
def tw15796925711294959444:=0
def tw2407123344566568380:=0
def tw6771719499640459580:=0
def tw10475847830703794926:=0
def tw11945363623922129807:=0
def tw11430090661542759871:=0
def tw17501427442383385040:=0
def tw14353884439509839558:=0
def tw6870751922787736434:=0
def tw9735018050787514748:=0
def tw3889770128921687640:=0
def tw14735889115373146628:=0
def tw12130240086026163352:=0
def tw14354666260423223217:=0
def tw2365447393169938583:=0
def tw15675983501540270654:=0
def tw17046569626145968254:=0
def tw15835874901609118620:=0
def tw1713511959389612447:=0
def tw8298315160160904119:=0
def tw5688041902677585857:=0
def tw1587007694692699865:=0
def tw3353560008766912432:=0
def tw10158372333660728808:=0
def tw10141770994147540160:=0
def tw3378344968250121908:=0
def tw5857102339099360191:=0
def tw2937321562889516426:=0
def tw10730200404127311784:=0
def tw4120545693510994760:=0
def tw13437040007258426026:=0
def tw12691430683195441968:=0
def tw3157271434269122403:=0
def tw15821943341966530181:=0
def tw1683911466461430208:=0
def tw17837157396826540452:=0
def tw8782178806218896794:=0
def tw9022987761984795090:=0
def tw18044904975969437069:=0
def tw6150154442794345243:=0
def tw14673862451924355498:=0
def tw18061997492823103283:=0
def tw14000821485358459876:=0
def tw416090065568032289:=0
def tw2083833090351169984:=0
def tw6516268629960243710:=0
def tw8854133284937159402:=0
def tw8622673313410015575:=0
def tw16313133676568148413:=0
def tw17022883070354643665:=0
def tw8297139607664697714:=0
def tw17212433882340748474:=0
def tw12575296437550847769:=0
def tw6592678123435880256:=0
def tw6007064948553373657:=0
def tw12629029077861909486:=0
def tw3641365959359948438:=0
def tw16812343256738384806:=0
end PySem.W.Fast
open PySem PySem.W PyProof.Rows
set_option maxRecDepth 100000 in
set_option maxHeartbeats 0 in
theorem PySem.Challenge.cw_lotledger_k70_entries_kept_holds : PySem.Challenge.rw_lotledger_k70_entries_kept.Holds := by
 w_on; o_law; k_head; (case hw => w_witness2)
 k_fill
 refine My.walk (l := PySem.Challenge.rw_lotledger_k70_entries_kept) rfl rfl (fun w h Y => PySem.W.kIn_of Y) ?F
 case F =>
  intro w mg fa h KX G hmg
  refine' My.all_mk KX G hmg ?dM ?eI ?cY ?fG ?fe ?eQ ?e8 ?eo ?b8 ?eE ?cg ?eY ?cH ?eF ?cj ?dP ?ek ?bF ?cW ?a0 ?a1 ?a2 ?a3 ?a4 ?a5 ?a6 ?a7 ?a8 ?a9 ?a10 ?a11 ?a12 ?a13 ?a14 ?a15 ?a16 ?a17 ?a18 ?a19 ?a20 ?a21 ?a22 ?a23 ?a24 ?a25 ?l25 ?d25 ?k25 ?fU ?a26 ?a27 ?a28 ?l28 ?d28 ?k28 ?fX ?a29 ?a30 ?l30 ?d30 ?k30 ?fV ?a31 ?a32 ?a33 ?a34 ?a35 ?a36 ?a37 ?a38 ?a39 ?a40 ?a41 ?a42 ?a43 ?a44 ?a45 ?a46 ?a47 ?a48 ?a49 ?a50 ?a51 ?a52 ?a53 ?a54 ?a55 ?a56 ?a57 ?a58 ?a59 ?a60 ?a61 ?a62 ?a63 ?a64 ?en ?fH ?eL ?dA ?fE ?fD ?aY ?fK ?eZ ?fC ?fJ ?e9 ?fF ?em ?be ?ax ?cC ?aF ?aX ?aG ?bz ?cB ?ao ?bA ?ci ?dS ?dL ?dH ?dO ?dZ ?dG ?dQ ?dU ?aB ?bQ ?bV ?bG ?bP ?bL ?bR ?bC ?bI ?ai ?bN ?bJ ?bB ?cT ?cZ ?cX ?cK ?cL ?cU ?af ?aR ?aS ?aT ?aU ?cx ?cr ?aE ?am ?az ?aq ?av ?ar ?ee ?d9 ?d8 ?ed ?fg ?eO ?cO ?aV ?cv ?bb ?bU ?cJ ?bY ?dw ?dm ?di ?dq ?eB ?et ?b9 ?aQ ?bS ?aK ?bg ?cE ?bu ?au ?de ?dt ?dj ?du ?eD ?eJ ?bX ?aI ?bE ?aC ?bM ?bw ?dg ?df ?dh ?dv ?eg ?eC ?cm ?aP ?bO ?aJ ?ba ?cA ?cq ?cy ?cw ?dB ?dC ?bD ?ay ?bf ?aZ ?cu ?bT ?bK ?bH ?el ?eG ?eA ?dD ?dY ?dR ?dN ?dI ?dX ?dJ ?dE ?dW ?cQ ?cP ?db ?bZ ?cf ?cz ?aW ?aH ?aO ?aM ?aw ?ak ?bj ?aD ?aN ?aL ?aA ?al ?aa ?ap ?aj ?ae ?ah ?ad ?ag ?ac ?eN ?eT ?eR ?eV ?eW ?eU ?eP ?eK ?eM ?fc ?dF ?cM ?cN ?cS ?b7 ?bh
  (case dM|eI|cY|fG|fe|eQ|e8|eo|b8|eE|cg|eY|cH|eF|cj|dP|ek|bF|cW => k_is)
  (case a0|a1|a2|a3|a4|a5|a6|a7|a8|a9|a10|a11|a12|a13|a14|a15|a16|a17|a18|a19|a20|a21|a22|a23|a24 => refine ⟨?_, ?_, ?_, ?_⟩ <;> k_is)
  (case a25|l25|d25|k25|fU => k_is)
  (case a26|a27 => refine ⟨?_, ?_, ?_, ?_⟩ <;> k_is)
  (case a28|l28|d28|k28|fX => k_is)
  (case a29 => refine ⟨?_, ?_, ?_, ?_⟩ <;> k_is)
  (case a30|l30|d30|k30|fV => k_is)
  (case a31|a32|a33|a34|a35|a36|a37|a38|a39|a40|a41|a42|a43|a44|a45|a46|a47|a48|a49|a50|a51|a52|a53|a54|a55|a56|a57|a58|a59|a60|a61|a62|a63|a64 => refine ⟨?_, ?_, ?_, ?_⟩ <;> k_is)
  (case en|fH|eL|dA|fE|fD|aY|fK|eZ|fC|fJ|e9|fF|em|be|ax|cC|aF|aX|aG|bz|cB|ao|bA => k_is)
  (case ci => k_exc)
  (case dS => k_is)
  (case dL => kernel_rfl)
  (case dH|dO|dZ|dG|dQ|dU|aB|bQ => k_is)
  (case bV => kernel_rfl)
  (case bG|bP|bL|bR|bC|bI|ai|bN|bJ|bB|cT|cZ|cX|cK|cL|cU|af|aR|aS|aT|aU|cx|cr|aE|am|az|aq|av|ar|ee|d9|d8|ed|fg|eO|cO|aV|cv|bb|bU|cJ|bY|dw|dm|di|dq|eB|et|b9|aQ|bS|aK|bg|cE|bu|au|de|dt|dj|du|eD|eJ|bX|aI|bE|aC|bM|bw|dg|df|dh|dv|eg|eC|cm|aP|bO|aJ|ba|cA|cq|cy|cw|dB|dC|bD|ay|bf|aZ|cu|bT|bK|bH|el|eG|eA|dD|dY|dR|dN|dI|dX|dJ|dE|dW|cQ|cP|db|bZ|cf|cz|aW|aH|aO|aM|aw|ak|bj|aD|aN|aL|aA|al|aa|ap|aj|ae|ah|ad|ag|ac => k_is)
  (case eN|eT|eR|eV|eW|eU|eP|eK|eM|fc => kit_is)
  (case dF|cM|cN|cS|b7|bh => refine ⟨?_, ?_, ?_, ?_, ?_⟩ <;> kit_is)
