import PyProof.Rows.All
import Wide.All
import OpenK.AllK
import Wide.FinOn
import Lean
import PyProof.EqAt
import PyProof.EqKinds
import PyProof.NeKinds
import PyProof.TupleCall
import PySem.Challenge.RW_lotledger_k11_no_entry
set_option Elab.async false
set_option linter.all false
set_option maxRecDepth 100000
set_option maxHeartbeats 4000000
abbrev Fg_ := PySem.W.Frag
namespace L2
open PySem PySem.Spec PyProof.Rows
abbrev Key := Sum Int Str
def keyIs : Key -> Value -> Bool
 | .inl k, v => Value.isInt k v
 | .inr x, v => Value.isStrOf x v
def keyH (w : World) : Key -> Int
 | .inl k => hashInt k
 | .inr x => hashStr w x
theorem keyIs_shape : ∀ {k : Key} {v : Value}, keyIs k v = true -> (∃ i t, k = Sum.inl i /\ v = Value.int i t) \/ (∃ x t, k = Sum.inr x /\ v = Value.str x t)
 | .inl i, v, h => by
  obtain ⟨t, e⟩ := Value.isInt_shape (k := i) (v := v) h
  exact .inl ⟨i, t, rfl, e⟩
 | .inr x, v, h => by
  obtain ⟨t, e⟩ := Value.isStrOf_shape (x := x) (v := v) h
  exact .inr ⟨x, t, rfl, e⟩
theorem keyIs_int (i : Int) (t : Tok) : keyIs (.inl i) (.int i t) = true := by simp [keyIs, Value.isInt]
theorem keyIs_str (x : Str) (t : Tok) : keyIs (.inr x) (.str x t) = true := by simp [keyIs, Value.isStrOf]
theorem key_ll (a b : Int) : decide ((Sum.inl a : Key) = Sum.inl b) = (a == b) := by
 by_cases e : a = b
 ·subst e; simp
 ·have h : ¬ (Sum.inl a : Key) = Sum.inl b := fun q => e (Sum.inl.inj q)
  rw [decide_eq_false h]
  exact (beq_eq_false_iff_ne.mpr e).symm
theorem key_rr (a b : Str) : decide ((Sum.inr a : Key) = Sum.inr b) = decide (a = b) := by
 by_cases e : a = b
 ·subst e; simp
 ·have h : ¬ (Sum.inr a : Key) = Sum.inr b := fun q => e (Sum.inr.inj q)
  rw [decide_eq_false h, decide_eq_false e]
theorem key_lr (a : Int) (b : Str) : decide ((Sum.inl a : Key) = Sum.inr b) = false := decide_eq_false (fun q => nomatch q)
theorem key_rl (a : Str) (b : Int) : decide ((Sum.inr a : Key) = Sum.inl b) = false := decide_eq_false (fun q => nomatch q)
def mixKind (prog : Program) (w : World) : PySem.KeyKind prog w Key where
 is := keyIs
 hash := keyH w
 inj := fun v a b ha hb => by
  rcases keyIs_shape ha with ⟨i, t, rfl, rfl⟩ | ⟨x, t, rfl, rfl⟩
  ·rcases keyIs_shape hb with ⟨j, u, rfl, e⟩ | ⟨y, u, rfl, e⟩
   ·injection e with e1 _; rw [e1]
   ·exact nomatch e
  ·rcases keyIs_shape hb with ⟨j, u, rfl, e⟩ | ⟨y, u, rfl, e⟩
   ·exact nomatch e
   ·injection e with e1 _; rw [e1]
 byValue := fun k v h => by
  rcases keyIs_shape h with ⟨i, t, rfl, rfl⟩ | ⟨x, t, rfl, rfl⟩ <;> rfl
 pyHash := fun hv h => by
  rcases keyIs_shape hv with ⟨i, t, rfl, rfl⟩ | ⟨x, t, rfl, rfl⟩
  ·exact wpAny_pyHash_int h
  ·exact wpAny_pyHash_str h
 eqBool := fun hu hv h => by
  rcases keyIs_shape hu with ⟨i, t, rfl, rfl⟩ | ⟨x, t, rfl, rfl⟩
  ·rcases keyIs_shape hv with ⟨j, u, rfl, rfl⟩ | ⟨y, u, rfl, rfl⟩
   ·rw [key_ll] at h; exact wpAny_eqBool_int h
   ·rw [key_lr] at h; exact SeqAt.EqAt.int_str i t y u _ _ _ _ h
  ·rcases keyIs_shape hv with ⟨j, u, rfl, rfl⟩ | ⟨y, u, rfl, rfl⟩
   ·rw [key_rl] at h; exact SeqAt.EqAt.str_int x t j u _ _ _ _ h
   ·rw [key_rr] at h; exact wpAny_eqBool_str h
 «strs» := fun k x t v h => by
  rcases keyIs_shape h with ⟨i, u, rfl, e⟩ | ⟨y, u, rfl, e⟩
  ·exact nomatch e
  ·injection e with e1 _
   subst e1
   cases v <;> rfl
theorem mixKind_int (prog : Program) (w : World) (i : Int) (t : Tok) : (mixKind prog w).is (.inl i) (.int i t) = true := keyIs_int i t
theorem mixKind_str (prog : Program) (w : World) (x : Str) (t : Tok) : (mixKind prog w).is (.inr x) (.str x t) = true := keyIs_str x t
end L2
namespace L2
open PySem PySem.Spec PyProof.Rows
inductive V where
 | non | bl (b : Bool) | int (i : Int) | str (x : Str) | byt (b : Array UInt8) | flt (b : UInt64) | ref (a : Addr) | ty (n : String)
 deriving DecidableEq
def RelV : V -> Value -> Prop
 | .non, u => u = Value.none
 | .bl b, u => u = Value.bool b
 | .int i, u => ∃ t, u = Value.int i t
 | .str x, u => ∃ t, u = Value.str x t
 | .byt b, u => ∃ t, u = Value.bytes b t
 | .flt b, u => ∃ t, u = Value.float b t
 | .ref a, u => u = Value.ref a
 | .ty n, u => u = Value.type n
abbrev Vals : List V -> List Value -> Prop := Paired RelV
theorem Vals.length {xs : List V} {us : List Value} (r : Vals xs us) : xs.length = us.length := Paired.length r
theorem Vals.get : ∀ {xs : List V} {us : List Value} {i : Nat} {x : V}, Vals xs us -> xs[i]? = some x -> ∃ u, us[i]? = some u /\ RelV x u
 | _, _, _, _, .nil, e => by simp at e
 | _, _, 0, _, .cons r _, e => by simp at e; subst e; exact ⟨_, rfl, r⟩
 | _, _, i + 1, x, .cons _ t, e => by
  obtain ⟨u, h1, h2⟩ := Vals.get (i := i) (x := x) t (by simpa using e)
  exact ⟨u, by simpa using h1, h2⟩
theorem Vals.append : ∀ {xs ys : List V} {us ws : List Value}, Vals xs us -> Vals ys ws -> Vals (xs ++ ys) (us ++ ws)
 | _, _, _, _, .nil, s => s
 | _, _, _, _, .cons r t, s => .cons r (Vals.append t s)
theorem Vals.take : ∀ {xs : List V} {us : List Value} (n : Nat), Vals xs us -> Vals (xs.take n) (us.take n)
 | _, _, 0, _ => .nil
 | _, _, _ + 1, .nil => .nil
 | _, _, n + 1, .cons r t => .cons r (Vals.take n t)
theorem Vals.drop : ∀ {xs : List V} {us : List Value} (n : Nat), Vals xs us -> Vals (xs.drop n) (us.drop n)
 | _, _, 0, r => r
 | _, _, _ + 1, .nil => .nil
 | _, _, n + 1, .cons _ t => Vals.drop n t
def RelO : Option V -> Option Value -> Prop
 | some v, some u => RelV v u
 | none, none => True
 | _, _ => False
def KV {κ : Type} : List (κ × V) -> List (κ × Value) -> Prop := Paired fun (p : κ × V) (q : κ × Value) => p.1 = q.1 /\ RelV p.2 q.2
def kV : Key -> V
 | .inl i => .int i
 | .inr x => .str x
inductive HO where
 | lst (xs : List V)
 | tup (xs : List V)
 | dK (kvs : List (Key × V)) | dT (kvs : List (List Key × V))
 | set (S : Int -> Bool) (n : Nat)
 | ins (C dx : Addr) (fs : List (Str × V))
 | own (x : Addr)
 | xd (fs : List (Str × V))
 | met (f x : Addr)
 | rng (lo hi : Int)
 | frz (o : Obj) (u : HO)
 | tbl (ps : Array Value)
 | ext (φ : Heap -> Prop)
abbrev Hp := Addr -> Option HO
def upd (H : Hp) (a : Addr) (o : HO) : Hp := fun b => if b = a then some o else H b
theorem upd_same {H : Hp} {a : Addr} {o : HO} : upd H a o a = some o := by unfold upd; rw [if_pos rfl]
theorem upd_ne {H : Hp} {a b : Addr} {o : HO} (h : b ≠ a) : upd H a o b = H b := by unfold upd; rw [if_neg h]
theorem ne_of {H : Hp} {a b : Addr} {o u : HO} (h : H a = some o) (h' : H b = some u) (d : o ≠ u) : a ≠ b := by
 intro e; subst e; rw [h] at h'; exact d (Option.some.inj h')
theorem ne_of_none {H : Hp} {a b : Addr} {o : HO} (h : H a = some o) (h' : H b = none) : a ≠ b := by
 intro e; subst e; rw [h] at h'; cases h'
section
variable (P : Program) (w : World)
def ObjOk (H : Hp) (h : Heap) (a : Addr) : HO -> Prop
 | .lst xs => xs.length <= sizeLine /\ ∃ (its : List Value) (n : Nat), Vals xs its /\ h.get? a = some { cls := .type "list", data := .seq its.toArray n }
 | .tup xs => xs.length <= sizeLine /\ ∃ its : List Value, Vals xs its /\ IsTup h a its.toArray
 | .dK kvs => kvs.length <= sizeLine /\ (a == sysModules) = false /\ ∃ vs, KV kvs vs /\ h.DictOf (mixKind P w) a vs
 | .dT kvs => kvs.length <= sizeLine /\ (a == sysModules) = false /\ ∃ xs : List (List Key × Addr × Value),
   Paired (fun (p : List Key × V) (q : List Key × Addr × Value) => p.1 = q.1 /\ H q.2.1 = some (.tup (p.1.map kV)) /\ RelV p.2 q.2.2) kvs xs /\
   ∃ o es ep, h.get? a = some o /\ o.ExactDict /\ o.data = .dict es ep /\ es.toList = xs.map (entryOfKey (tupleKind (mixKind P w))) /\ (xs.map (·.1)).Nodup
 | .set S n => h.SetOf (intKind P w) a S n
 | .ins C dx fs => H dx = some (.own a) /\ fs.length <= 1000 /\ dx ≠ a /\ h.get? a = some (PySem.W.instObj C dx) /\
   ∃ mA, h.Ns1 dx mA /\ (∀ f, RelO (fs.lookup f) (mA f)) /\ PySem.Within mA (fs.map (·.1))
 | .own _ => ∃ o, h.get? a = some o
 | .xd fs => ∃ mA, h.Ns1 a mA /\ ∀ f, RelO (fs.lookup f) (mA f)
 | .rng lo hi => ∃ t u v, h.get? a = some { cls := .type "range", data := .fields #[.int lo t, .int hi u, .int 1 v] }
 | .frz o u => h.get? a = some o /\ ObjOk H h a u
 | .tbl ps => h.get? a = some { cls := .none, data := .fields ps }
 | .met f x => h.get? a = some (PySem.W.methodObj (.ref f) (.ref x))
 | .ext φ => φ h /\ (∃ o, h.get? a = some o) /\ ∀ h1 h2 : Heap, φ h1 -> (∀ o, h1.get? a = some o -> h2.get? a = some o) -> φ h2
def HOk (H : Hp) (h : Heap) : Prop := ∀ a o, H a = some o -> ObjOk P w H h a o
end
section
variable {P : Program} {w : World} {H H' : Hp} {h h' : Heap} {a : Addr} {o : HO}
theorem ObjOk.lt (x : ObjOk P w H h a o) : a < h.objs.size := by
 cases o with
 | lst xs => obtain ⟨_, _, _, _, e⟩ := x; exact Heap.lt_size e
 | tup xs => obtain ⟨_, _, _, p⟩ := x; exact p.lt
 | dK kvs => obtain ⟨_, _, _, _, o, _, _, e, _⟩ := x; exact Heap.lt_size e
 | dT kvs => obtain ⟨_, _, _, _, o, _, _, e, _⟩ := x; exact Heap.lt_size e
 | set S n => obtain ⟨o, _, _, _, e, _⟩ := x; exact Heap.lt_size e
 | ins C dx fs => obtain ⟨_, _, _, e, _⟩ := x; exact Heap.lt_size e
 | own y => obtain ⟨_, e⟩ := x; exact Heap.lt_size e
 | xd fs => obtain ⟨_, ⟨_, _, _, e, _⟩, _⟩ := x; exact Heap.lt_size e
 | rng lo hi => obtain ⟨_, _, _, e⟩ := x; exact Heap.lt_size e
 | frz ob u => obtain ⟨e, _⟩ := x; exact Heap.lt_size e
 | tbl ps => exact Heap.lt_size (show h.get? a = some _ from x)
 | met f y => exact Heap.lt_size (show h.get? a = some _ from x)
 | ext φ => obtain ⟨_, ⟨_, e⟩, _⟩ := x; exact Heap.lt_size e
theorem Paired.mapP {α β : Type} {F G : α -> β -> Prop} : ∀ {l₁ : List α} {l₂ : List β}, Paired F l₁ l₂ -> (∀ a b, F a b -> G a b) -> Paired G l₁ l₂
 | _, _, .nil, _ => .nil
 | _, _, .cons r t, f => .cons (f _ _ r) (Paired.mapP t f)
theorem ObjOk.stay (x : ObjOk P w H h a o) (k : ∀ b u, (b = a \/ H b = some (.own a)) -> h.get? b = some u -> h'.get? b = some u)
  (ho : ∀ b, H b = some (.own a) -> H' b = some (.own a)) (ht : ∀ b xs, H b = some (.tup xs) -> H' b = some (.tup xs)) : ObjOk P w H' h' a o := by
 induction o with
 | lst xs => obtain ⟨z, its, n, r, e⟩ := x; exact ⟨z, its, n, r, k _ _ (.inl rfl) e⟩
 | tup xs => obtain ⟨z, its, r, ob, e, c⟩ := x; exact ⟨z, its, r, ob, k _ _ (.inl rfl) e, c⟩
 | dK kvs => obtain ⟨z, y, vs, r, ob, es, ep, e, c⟩ := x; exact ⟨z, y, vs, r, ob, es, ep, k _ _ (.inl rfl) e, c⟩
 | dT kvs =>
  obtain ⟨z, y, xs, r, ob, es, ep, e, c⟩ := x
  exact ⟨z, y, xs, Paired.mapP r fun p q z => ⟨z.1, ht _ _ z.2.1, z.2.2⟩, ob, es, ep, k _ _ (.inl rfl) e, c⟩
 | set S n => obtain ⟨ob, es, ep, t, e, c⟩ := x; exact ⟨ob, es, ep, t, k _ _ (.inl rfl) e, c⟩
 | ins C dx fs =>
  obtain ⟨d, z, ne, e, mA, ⟨od, es, ep, e2, c⟩, r⟩ := x
  exact ⟨ho _ d, z, ne, k _ _ (.inl rfl) e, mA, ⟨od, es, ep, k _ _ (.inr d) e2, c⟩, r⟩
 | own y => obtain ⟨ob, e⟩ := x; exact ⟨ob, k _ _ (.inl rfl) e⟩
 | xd fs => obtain ⟨mA, ⟨od, es, ep, e, c⟩, r⟩ := x; exact ⟨mA, ⟨od, es, ep, k _ _ (.inl rfl) e, c⟩, r⟩
 | rng lo hi => obtain ⟨t, u, v, e⟩ := x; exact ⟨t, u, v, k _ _ (.inl rfl) e⟩
 | frz ob u ih => obtain ⟨e, q⟩ := x; exact ⟨k _ _ (.inl rfl) e, ih q⟩
 | tbl ps =>
  have e : h.get? a = some { cls := .none, data := .fields ps } := x
  show h'.get? a = some { cls := .none, data := .fields ps }
  exact k a _ (.inl rfl) e
 | met f y =>
  have e : h.get? a = some (PySem.W.methodObj (.ref f) (.ref y)) := x
  show h'.get? a = some (PySem.W.methodObj (.ref f) (.ref y))
  exact k a _ (.inl rfl) e
 | ext φ => obtain ⟨p, ⟨o, e⟩, st⟩ := x; exact ⟨st _ _ p fun o q => k _ _ (.inl rfl) q, ⟨o, k _ _ (.inl rfl) e⟩, st⟩
theorem HOk.lt (x : HOk P w H h) (e : H a = some o) : a < h.objs.size := (x a o e).lt
theorem HOk.fresh (x : HOk P w H h) (e : h.objs.size <= a) : H a = none := by
 cases q : H a with
 | none => rfl
 | some u => exact absurd (Nat.lt_of_lt_of_le (x.lt q) e) (Nat.lt_irrefl _)
theorem HOk.kept (x : HOk P w H h) (k : ∀ b u, h.get? b = some u -> h'.get? b = some u) : HOk P w H h' := fun a o e =>
 (x a o e).stay (fun b u _ q => k b u q) (fun _ q => q) fun _ _ q => q
theorem HOk.laid (x : HOk P w H h) (k : ∀ b u, h.get? b = some u -> h'.get? b = some u) (hp : h.objs.size <= a) (new : ObjOk P w (upd H a o) h' a o) : HOk P w (upd H a o) h' := fun b u e => by
 have hn := x.fresh hp
 by_cases hb : b = a
 ·subst hb; rw [upd_same] at e; cases e; exact new
 ·rw [upd_ne hb] at e
  exact (x b u e).stay (fun c v _ q => k c v q) (fun c q => by rw [upd_ne (ne_of_none q hn)]; exact q) fun c xs q => by rw [upd_ne (ne_of_none q hn)]; exact q
end
def Rd (H : Hp) (a : Addr) (u : HO) : Prop := H a = some u \/ ∃ o, H a = some (.frz o u)
theorem Rd.of {H : Hp} {a : Addr} {u : HO} (h : H a = some u) : Rd H a u := .inl h
theorem Rd.ok {P : Program} {w : World} {H : Hp} {h : Heap} {a : Addr} {u : HO} (r : Rd H a u) (x : HOk P w H h) : ObjOk P w H h a u := by
 rcases r with r | ⟨o, r⟩
 ·exact x a u r
 ·obtain ⟨_, q⟩ := x a _ r
  exact q
def Mut : Option HO -> Prop
 | some (.lst _) => True
 | some (.dK _) => True
 | some (.dT _) => True
 | some (.set _ _) => True
 | some (.ins _ _ _) => True
 | some (.ext _) => True
 | _ => False
section
variable {P : Program} {w : World} {H : Hp} {h h' : Heap} {x e : Addr} {o' : HO}
theorem HOk.write (ok : HOk P w H h) (mu : Mut (H x)) (he : e = x \/ H e = some (.own x)) (k : ∀ b u, b ≠ e -> h.get? b = some u -> h'.get? b = some u) (heo : ∃ u, h'.get? e = some u)
  (new : ObjOk P w (upd H x o') h' x o') : HOk P w (upd H x o') h' := fun b u q => by
 have nown : ∀ c y, H c = some (.own y) -> c ≠ x := fun c y r z => by subst z; rw [r] at mu; exact mu
 have ntup : ∀ c xs, H c = some (.tup xs) -> c ≠ x := fun c xs r z => by subst z; rw [r] at mu; exact mu
 by_cases hb : b = x
 ·subst hb; rw [upd_same] at q; cases q; exact new
 ·rw [upd_ne hb] at q
  by_cases hbe : b = e
  ·have q' : H b = some (.own x) := by
    rcases he with z | z
    ·exact absurd (hbe.trans z) hb
    ·rw [hbe]; exact z
   rw [q] at q'; cases q'
   obtain ⟨v, hv⟩ := heo
   exact ⟨v, by rw [hbe]; exact hv⟩
  ·refine (ok b u q).stay (fun c v hc r => k c v ?_ r) (fun c r => by rw [upd_ne (nown c b r)]; exact r) fun c xs r => by rw [upd_ne (ntup c xs r)]; exact r
   rcases hc with rfl | hc
   ·exact hbe
   ·rintro rfl
    rcases he with z | z
    ·exact nown c b hc z
    ·rw [hc] at z; cases z; exact hb rfl
end
structure Un (fs ex : List Addr) (H H' : Hp) (h h' : Heap) : Prop where
 keep : ∀ b o, h.get? b = some o -> H b = none -> b ∉ fs -> b ∉ ex -> h'.get? b = some o
 slot : ∀ b o, h.get? b = some o -> H b = none -> b ∈ fs -> b ∉ ex -> ∃ sl, h'.get? b = some { o with slots := sl }
 free : ∀ b o, h.get? b = some o -> H b = none -> b ∉ ex -> H' b = none
 there : ∀ b o, h.get? b = some o -> b ∉ ex -> ∃ o', h'.get? b = some o'
 tups : ∀ b xs, H b = some (.tup xs) -> H' b = some (.tup xs)
 frzs : ∀ b o u, H b = some (.frz o u) -> H' b = some (.frz o u)
 tbls : ∀ b ps, H b = some (.tbl ps) -> ∃ more, H' b = some (.tbl (ps ++ more))
section
variable {fs fs' ex ex' : List Addr} {H H1 H2 : Hp} {h h1 h2 h' : Heap} {a x e : Addr} {o : HO}
theorem Un.any (u : Un fs ex H H1 h h1) {b : Addr} {ob : Obj} (q : h.get? b = some ob) (n : H b = none) (hx : b ∉ ex) : ∃ sl, h1.get? b = some { ob with slots := sl } := by
 by_cases hb : b ∈ fs
 ·exact u.slot b ob q n hb hx
 ·exact ⟨ob.slots, u.keep b ob q n hb hx⟩
theorem Un.trans (a : Un fs ex H H1 h h1) (b : Un fs ex H1 H2 h1 h2) : Un fs ex H H2 h h2 where
 keep := fun c ob q n hc hx => b.keep c ob (a.keep c ob q n hc hx) (a.free c ob q n hx) hc hx
 slot := fun c ob q n hc hx => by
  obtain ⟨sl, e1⟩ := a.slot c ob q n hc hx
  obtain ⟨sl', e2⟩ := b.slot c _ e1 (a.free c ob q n hx) hc hx
  exact ⟨sl', e2⟩
 free := fun c ob q n hx => by
  obtain ⟨o', e1⟩ := a.there c ob q hx
  exact b.free c o' e1 (a.free c ob q n hx) hx
 there := fun c ob q hx => by
  obtain ⟨o', e1⟩ := a.there c ob q hx
  exact b.there c o' e1 hx
 tups := fun c xs q => b.tups c xs (a.tups c xs q)
 frzs := fun c ob xs q => b.frzs c ob xs (a.frzs c ob xs q)
 tbls := fun c ps q => by
  obtain ⟨m1, e1⟩ := a.tbls c ps q
  obtain ⟨m2, e2⟩ := b.tbls c _ e1
  exact ⟨m1 ++ m2, by rw [e2, Array.append_assoc]⟩
theorem Un.kept (k : ∀ b u, h.get? b = some u -> h'.get? b = some u) : Un fs ex H H h h' :=
 ⟨fun b ob q _ _ _ => k b ob q, fun b ob q _ _ _ => ⟨ob.slots, k b ob q⟩, fun _ _ _ n _ => n, fun b ob q _ => ⟨ob, k b ob q⟩, fun _ _ q => q, fun _ _ _ q => q, fun _ ps q => ⟨#[], by rw [q]; simp⟩⟩
theorem Un.refl : Un fs ex H H h h := Un.kept fun _ _ q => q
theorem Un.laid (k : ∀ b u, h.get? b = some u -> h'.get? b = some u) (hp : h.objs.size <= a) (hn : H a = none) : Un fs ex H (upd H a o) h h' where
 keep := fun b u q _ _ _ => k b u q
 slot := fun b u q _ _ _ => ⟨u.slots, k b u q⟩
 free := fun b u q n _ => by rw [upd_ne (Nat.ne_of_lt (Nat.lt_of_lt_of_le (Heap.lt_size q) hp))]; exact n
 there := fun b u q _ => ⟨u, k b u q⟩
 tups := fun b xs q => by rw [upd_ne (ne_of_none q hn)]; exact q
 frzs := fun b u xs q => by rw [upd_ne (ne_of_none q hn)]; exact q
 tbls := fun b ps q => ⟨#[], by rw [upd_ne (ne_of_none q hn), q]; simp⟩
theorem Un.write (mu : Mut (H x)) (he : e = x \/ H e = some (.own x)) (k : ∀ b u, b ≠ e -> h.get? b = some u -> h'.get? b = some u) (heo : ∃ u, h'.get? e = some u) : Un fs ex H (upd H x o) h h' := by
 have hx : ∀ b, H b = none -> b ≠ x := fun b n z => by subst z; rw [n] at mu; exact mu
 have hb : ∀ b, H b = none -> b ≠ e := fun b n z => by
  subst z
  rcases he with r | r
  ·exact hx b n r
  ·rw [n] at r; cases r
 have hm : ∀ b u, H b = some u -> ¬ Mut (some u) -> b ≠ x := fun b u q nm z => by subst z; rw [q] at mu; exact nm mu
 refine ⟨fun b u q n _ _ => k b u (hb b n) q, fun b u q n _ _ => ⟨u.slots, k b u (hb b n) q⟩, fun b u q n _ => by rw [upd_ne (hx b n)]; exact n, fun b u q _ => ?_,
  fun b xs q => by rw [upd_ne (hm b _ q fun z => z)]; exact q, fun b u xs q => by rw [upd_ne (hm b _ q fun z => z)]; exact q, fun b ps q => ⟨#[], by rw [upd_ne (hm b _ q fun z => z), q]; simp⟩⟩
 by_cases hbe : b = e
 ·subst hbe; exact heo
 ·exact ⟨u, k b u hbe q⟩
end
def trk (h : Heap) (H : Hp) : List Addr := (List.range h.objs.size).filter fun a => (H a).isSome
def hidT (h : Heap) (H : Hp) : Heap := PySem.W.hideAll h (trk h H)
theorem hidT_size (h : Heap) (H : Hp) : (hidT h H).objs.size = h.objs.size := PySem.W.hideAll_size _ _
theorem hidT_get {h : Heap} {H : Hp} {b : Addr} {o : Obj} (e : h.get? b = some o) (n : H b = none) : (hidT h H).get? b = some o :=
 PySem.W.hideAll_get _ e fun hm => by
  have q : (H b).isSome = true := (List.mem_filter.mp hm).2
  rw [n] at q; simp at q
theorem of_hidT {h : Heap} {H : Hp} {b : Addr} {o : Obj} (e : (hidT h H).get? b = some o) : h.get? b = some o /\ H b = none := by
 have e' : h.get? b = some o := PySem.W.of_hideAll (trk h H) e
 refine ⟨e', ?_⟩
 cases q : H b with
 | none => rfl
 | some x =>
  have hm : b ∈ trk h H := List.mem_filter.mpr ⟨List.mem_range.mpr (Heap.lt_size e'), by simp [q]⟩
  have z : (hidT h H).get? b = none := PySem.W.hideAll_none (trk h H) hm
  rw [z] at e; cases e
def allNews (g h : Heap) (L : Addr) : List (Addr × Obj) := (List.range h.objs.size).filterMap fun a => if a = L \/ (g.get? a).isSome = true then none else (h.get? a).map fun o => (a, o)
def rest (g h : Heap) (L d : Addr) : List (Addr × Obj) := (allNews g h L).filter fun p => decide (p.1 ≠ d)
end L2
namespace L2
open PySem PySem.Spec PyProof.Rows
structure Mod (K : Fg_) (mg : Str -> Option Value) (base : Heap) : Prop where
 kin : K.In base
 glob : base.Ns mainGlobals mg
 blt : ∃ mb, base.Ns builtinsNs mb /\ ∀ x : Str, x ≠ "__name__" -> mb x = bootBuiltins x
 nolimit : base.NoLimit
structure Cx where
 prog : Program
 w : World
 K : Fg_
 mg : Str -> Option Value
 base : Heap
 A : Around
 N : List Str
 s₀ : Shared
 H₀ : Hp
 env : Env
 outer : List Env
 stack : List Env
 ex : List Addr
 fn : Str -> Bool
 calm : Bool
 pn : List (Addr × Obj)
 xe : Value -> Shared -> Prop
def frs (l : List Env) : List Addr := l.filterMap (·.frame)
abbrev Cx.fs (X : Cx) : List Addr := frs X.outer
def Vis (sc : Scope) (x : Str) : Prop := sc.names.lookup x = some .local \/ sc.names.lookup x = some .cell \/ sc.names.lookup x = some .free
def Loc (sc : Scope) (x : Str) : Prop := sc.names.lookup x = some .local \/ sc.names.lookup x = some .cell
def Look (env : Env) (h : Heap) (m : Str -> Option Value) (x : Str) (u : Value) : Prop :=
 (env.kindOf x = some .local /\ m x = some u) \/ ((env.kindOf x = some .cell \/ env.kindOf x = some .free) /\ ∃ c, env.cells.lookup x = some c /\ h.IsCell c (some u))
structure Cx.Ok (X : Cx) : Prop where
 mod : Mod X.K X.mg X.base
 kind : X.env.scope.kind = .function
 glob : X.env.globals = mainGlobals
 blt : X.env.builtins = builtinsNs
 above : X.s₀.heap.objs.size <= X.env.locals
 inj : ∀ x y c, X.env.cells.lookup x = some c -> X.env.cells.lookup y = some c -> x = y
 has : ∀ x, (X.env.kindOf x = some .cell \/ X.env.kindOf x = some .free) -> ∃ c, X.env.cells.lookup x = some c
 cab : ∀ x c, X.fn x = true -> X.env.cells.lookup x = some c -> X.s₀.heap.objs.size <= c
 hd : X.calm = true -> X.A.handled = none
 frames : X.A.frames = some X.stack
 stk : X.stack = X.outer \/ (X.stack = X.env :: X.outer /\ X.env.frame = some X.env.locals)
 exf : ∀ b ∈ X.ex, b ≠ X.env.locals /\ ∀ x c, X.env.cells.lookup x = some c -> c ≠ b
 bs : ∀ b o, X.base.get? b = some o -> X.s₀.heap.get? b = some o /\ X.H₀ b = none
 bsz : X.base.objs.size <= X.s₀.heap.objs.size
 noex : ∀ b o, X.base.get? b = some o -> b ∉ X.ex
 exfs : ∀ b ∈ X.ex, b ∉ X.fs
 funs : X.s₀.heap.FunFrames X.base X.outer
 frf : ∀ b ∈ X.fs, X.H₀ b = none
structure Inv (X : Cx) (pins : List (Addr × Obj)) (σ : List (Option V)) (H : Hp) (s : Shared) : Prop where
 ok : X.Ok
 os : s.os = X.s₀.os
 bare : AllBare s.gens
 base : Un X.fs X.ex X.H₀ H X.s₀.heap s.heap
 loc : ∃ m, s.heap.Ns X.env.locals m /\ ∀ (i : Nat) (x : Str) (v : V), X.N[i]? = some x -> σ[i]? = some (some v) -> Vis X.env.scope x -> ∃ u, RelV v u /\ Look X.env s.heap m x u
 cell : ∀ x c, X.env.cells.lookup x = some c -> ∃ v, s.heap.IsCell c v
 free : H X.env.locals = none
 freeC : ∀ x c, X.env.cells.lookup x = some c -> H c = none
 pin : ∀ p ∈ X.pn ++ pins, s.heap.get? p.1 = some p.2 /\ H p.1 = none /\ p.1 ≠ X.env.locals /\ p.1 ∉ X.fs /\ ∀ v, p.2.data ≠ .cell v
 hok : HOk X.prog X.w H s.heap
 len : σ.length = X.N.length
section
variable {X : Cx} {pins : List (Addr × Obj)} {σ : List (Option V)} {H H' : Hp} {s : Shared} {h' : Heap}
theorem Cx.Ok.nofr (ok : X.Ok) {b : Addr} {o : Obj} (e : X.base.get? b = some o) : b ∉ X.fs := fun hb => by
 have := (ok.funs.mem hb).1
 rw [e] at this; cases this
theorem Inv.bs (I : Inv X pins σ H s) : ∀ b o, X.base.get? b = some o -> s.heap.get? b = some o /\ H b = none := fun b o e =>
 ⟨I.base.keep b o (I.ok.bs b o e).1 (I.ok.bs b o e).2 (I.ok.nofr e) (I.ok.noex b o e), I.base.free b o (I.ok.bs b o e).1 (I.ok.bs b o e).2 (I.ok.noex b o e)⟩
theorem Inv.bk (I : Inv X pins σ H s) : ∀ b o, X.base.get? b = some o -> s.heap.get? b = some o := fun b o e => (I.bs b o e).1
theorem Inv.mod (I : Inv X pins σ H s) : Mod X.K X.mg X.base := I.ok.mod
theorem Inv.kIn (I : Inv X pins σ H s) : X.K.In s.heap := I.ok.mod.kin.keeps I.bk
theorem Inv.fr (I : Inv X pins σ H s) : ∃ m, Fr X.base X.env.locals s.heap m :=
 let ⟨m, hn, _⟩ := I.loc
 ⟨m, hn, I.bk, Nat.le_trans I.ok.bsz I.ok.above⟩
theorem Inv.lt (I : Inv X pins σ H s) : X.env.locals < s.heap.objs.size := let ⟨_, hn, _⟩ := I.loc; hn.lt
theorem Inv.sz (I : Inv X pins σ H s) : X.s₀.heap.objs.size <= s.heap.objs.size := Nat.le_trans I.ok.above (Nat.le_of_lt I.lt)
theorem Inv.nofs (I : Inv X pins σ H s) {a : Addr} (h : s.heap.objs.size <= a) : a ∉ X.fs := fun hb => by
 obtain ⟨_, o, ho, _⟩ := I.ok.funs.mem hb
 exact absurd (Nat.lt_of_lt_of_le (Heap.lt_size ho) (Nat.le_trans I.sz h)) (Nat.lt_irrefl _)
theorem Inv.cne (I : Inv X pins σ H s) : ∀ x c, X.env.cells.lookup x = some c -> c ≠ X.env.locals := fun x c e z => by
 obtain ⟨v, o, ho, hd⟩ := I.cell x c e
 obtain ⟨m, ⟨o', es, ep, ho', hd', _⟩, _⟩ := I.loc
 rw [z, ho'] at ho; cases ho; rw [hd'] at hd; cases hd
theorem Inv.funs (I : Inv X pins σ H s) : s.heap.FunFrames X.base X.outer := by
 have all : ∀ (l : List Env), (∀ b ∈ frs l, b ∈ X.fs) -> X.s₀.heap.FunFrames X.base l -> s.heap.FunFrames X.base l := by
  intro l
  induction l with
  | nil => intro _ _; trivial
  | cons env r ih =>
   intro hs hl
   obtain ⟨hk, ⟨L, o, hf, hn, ho, hd⟩, hr⟩ := hl
   have hL : L ∈ X.fs := hs L (by unfold frs; rw [List.filterMap_cons, hf]; exact List.mem_cons_self)
   obtain ⟨sl, e⟩ := I.base.slot L o ho (I.ok.frf L hL) hL fun z => I.ok.exfs L z hL
   exact ⟨hk, ⟨L, _, hf, hn, e, hd⟩, ih (fun b hb => hs b (by unfold frs; rw [List.filterMap_cons, hf]; exact List.mem_cons_of_mem _ hb)) hr⟩
 exact all X.outer (fun _ hb => hb) I.ok.funs
theorem Inv.stack (I : Inv X pins σ H s) : s.heap.FunFrames X.base X.stack := by
 rcases I.ok.stk with e | ⟨e, hf⟩
 ·rw [e]; exact I.funs
 ·rw [e]
  obtain ⟨m, hn, _⟩ := I.loc
  refine .cons (by rw [I.ok.kind]; decide) hf hn ?_ I.funs
  exact Heap.get?_none_of_le (Nat.le_trans I.ok.bsz I.ok.above)
theorem Inv.stkSub (I : Inv X pins σ H s) : ∀ b ∈ frs X.stack, b ∈ X.env.locals :: X.fs := fun b hb => by
 rcases I.ok.stk with e | ⟨e, hf⟩
 ·rw [e] at hb; exact List.mem_cons_of_mem _ hb
 ·rw [e] at hb
  unfold frs at hb
  rw [List.filterMap_cons, hf] at hb
  exact hb
theorem Inv.stkFree (I : Inv X pins σ H s) : ∀ b ∈ frs X.stack, H b = none := fun b hb => by
 rcases List.mem_cons.mp (I.stkSub b hb) with e | hb
 ·rw [e]; exact I.free
 ·obtain ⟨_, o, ho, _⟩ := I.ok.funs.mem hb
  exact I.base.free b o ho (I.ok.frf b hb) fun z => I.ok.exfs b z hb
theorem Inv.step {g' : Array GenState} {t' : Nat} {d' : Drawn} {ch : List Addr} (I : Inv X pins σ H s)
  (hch : ∀ b ∈ ch, (b ∈ X.ex \/ X.s₀.heap.objs.size <= b) /\ b ≠ X.env.locals /\ (∀ x c, X.env.cells.lookup x = some c -> c ≠ b) /\ ∀ p ∈ X.pn ++ pins, p.1 ≠ b)
  (keep : ∀ b o, b ≠ X.env.locals -> b ∉ X.fs -> b ∉ ch -> s.heap.get? b = some o -> H b = none -> h'.get? b = some o)
  (slot : ∀ b o, b ≠ X.env.locals -> b ∈ X.fs -> b ∉ ch -> s.heap.get? b = some o -> H b = none -> ∃ sl, h'.get? b = some { o with slots := sl }) (free : ∀ b o, b ∉ ch -> s.heap.get? b = some o -> H b = none -> H' b = none)
  (there : ∀ b o, b ∉ ch -> s.heap.get? b = some o -> ∃ o', h'.get? b = some o')
  (tups : ∀ b xs, H b = some (.tup xs) -> H' b = some (.tup xs)) (frzs : ∀ b o u, H b = some (.frz o u) -> H' b = some (.frz o u)) (tbls : ∀ b ps, H b = some (.tbl ps) -> ∃ more, H' b = some (.tbl (ps ++ more)))
  (ns : ∀ m, s.heap.Ns X.env.locals m -> h'.Ns X.env.locals m) (hok : HOk X.prog X.w H' h') (hg : AllBare g') :
  Inv X pins σ H' { s with heap := h', gens := g', drawn := d', toks := t' } := by
 have neL : ∀ b o, X.s₀.heap.get? b = some o -> b ≠ X.env.locals := fun b o e => Nat.ne_of_lt (Nat.lt_of_lt_of_le (Heap.lt_size e) I.ok.above)
 have neC : ∀ b o, X.s₀.heap.get? b = some o -> b ∉ X.ex -> b ∉ ch := fun b o e hx hb => by
  rcases (hch b hb).1 with z | z
  ·exact hx z
  ·exact absurd (Nat.lt_of_lt_of_le (Heap.lt_size e) z) (Nat.lt_irrefl _)
 have cellK : ∀ x c, X.env.cells.lookup x = some c -> ∀ v, s.heap.IsCell c v -> h'.IsCell c v := fun x c e v ⟨o, ho, hd⟩ => by
  have nch : c ∉ ch := fun z => (hch c z).2.2.1 x c e rfl
  by_cases hc : c ∈ X.fs
  ·obtain ⟨sl, q⟩ := slot c o (I.cne x c e) hc nch ho (I.freeC x c e)
   exact ⟨_, q, hd⟩
  ·exact ⟨o, keep c o (I.cne x c e) hc nch ho (I.freeC x c e), hd⟩
 refine ⟨I.ok, I.os, hg, ⟨fun b o e n hb hx => ?_, fun b o e n hb hx => ?_, fun b o e n hx => ?_, fun b o e hx => ?_, fun b xs e => tups b xs (I.base.tups b xs e), fun b o xs e => frzs b o xs (I.base.frzs b o xs e), fun b ps e => ?_⟩, ?_, fun x c e => ?_, ?_, fun x c e => ?_, fun p hp => ?_, hok, I.len⟩
 ·exact keep b o (neL b o e) hb (neC b o e hx) (I.base.keep b o e n hb hx) (I.base.free b o e n hx)
 ·obtain ⟨sl, e1⟩ := I.base.slot b o e n hb hx
  obtain ⟨sl', e2⟩ := slot b _ (neL b o e) hb (neC b o e hx) e1 (I.base.free b o e n hx)
  exact ⟨sl', e2⟩
 ·obtain ⟨o', e1⟩ := I.base.there b o e hx
  exact free b o' (neC b o e hx) e1 (I.base.free b o e n hx)
 ·obtain ⟨o', e1⟩ := I.base.there b o e hx
  exact there b o' (neC b o e hx) e1
 ·obtain ⟨m1, e1⟩ := I.base.tbls b ps e
  obtain ⟨m2, e2⟩ := tbls b _ e1
  exact ⟨m1 ++ m2, by rw [e2, Array.append_assoc]⟩
 ·obtain ⟨m, hn, hl⟩ := I.loc
  refine ⟨m, ns m hn, fun i x v e1 e2 e3 => ?_⟩
  obtain ⟨u, r, l⟩ := hl i x v e1 e2 e3
  refine ⟨u, r, ?_⟩
  rcases l with l | ⟨k, c, e, z⟩
  ·exact .inl l
  ·exact .inr ⟨k, c, e, cellK x c e _ z⟩
 ·obtain ⟨v, z⟩ := I.cell x c e
  exact ⟨v, cellK x c e v z⟩
 ·obtain ⟨m, ⟨o, _, _, ho, _⟩, _⟩ := I.loc
  exact free _ o (fun z => (hch _ z).2.1 rfl) ho I.free
 ·obtain ⟨v, o, ho, hd⟩ := I.cell x c e
  exact free c o (fun z => (hch c z).2.2.1 x c e rfl) ho (I.freeC x c e)
 ·obtain ⟨e, n, ne, nf, d⟩ := I.pin p hp
  have nch : p.1 ∉ ch := fun z => (hch p.1 z).2.2.2 p hp rfl
  exact ⟨keep p.1 p.2 ne nf nch e n, free p.1 p.2 nch e n, ne, nf, d⟩
theorem Inv.un {t' : Nat} (I : Inv X pins σ H s) (u : Un X.fs [] H H' s.heap h') (hok : HOk X.prog X.w H' h') : Inv X pins σ H' { s with heap := h', toks := t' } := by
 obtain ⟨m, ⟨o, es, ep, ho, r⟩, _⟩ := id I.loc
 obtain ⟨sl, hL⟩ := u.any ho I.free (by simp)
 exact I.step (g' := s.gens) (d' := s.drawn) (ch := []) (fun _ z => nomatch z) (fun b o _ hb _ e n => u.keep b o e n hb (by simp)) (fun b o _ hb _ e n => u.slot b o e n hb (by simp)) (fun b o _ e n => u.free b o e n (by simp)) (fun b o _ e => u.there b o e (by simp)) u.tups u.frzs u.tbls (fun m' hm => by
  obtain ⟨o', es', ep', ho', r'⟩ := hm
  rw [ho] at ho'; cases ho'
  exact ⟨_, es', ep', hL, r'⟩) hok I.bare
theorem Inv.call {g' : Array GenState} {t' : Nat} {d' : Drawn} {ch : List Addr} (I : Inv X pins σ H s) (u : Un (frs X.stack) ch H H' s.heap h') (hok : HOk X.prog X.w H' h') (hg : AllBare g')
  (hch : ∀ b ∈ ch, (b ∈ X.ex \/ X.s₀.heap.objs.size <= b) /\ b ≠ X.env.locals /\ (∀ x c, X.env.cells.lookup x = some c -> c ≠ b) /\ ∀ p ∈ X.pn ++ pins, p.1 ≠ b) :
  Inv X pins σ H' { s with heap := h', gens := g', drawn := d', toks := t' } := by
 obtain ⟨m, ⟨o, es, ep, ho, r⟩, _⟩ := id I.loc
 obtain ⟨sl, hL⟩ := u.any ho I.free fun z => (hch _ z).2.1 rfl
 exact I.step (ch := ch) hch (fun b o hL hb hc e n => u.keep b o e n (fun z => (List.mem_cons.mp (I.stkSub b z)).elim hL hb) hc) (fun b o _ _ hc e n => u.any e n hc) (fun b o hc e n => u.free b o e n hc) (fun b o hc e => u.there b o e hc) u.tups u.frzs u.tbls (fun m' hm => by
  obtain ⟨o', es', ep', ho', r'⟩ := hm
  rw [ho] at ho'; cases ho'
  exact ⟨_, es', ep', hL, r'⟩) hok hg
theorem Inv.turned {t' : Nat} {it : Addr} (I : Inv X pins σ H s) (k : ∀ b o, b ≠ it -> s.heap.get? b = some o -> h'.get? b = some o) (hn : H it = none) (hL : it ≠ X.env.locals)
  (h1 : it ∈ X.ex \/ X.s₀.heap.objs.size <= it) (h2 : ∀ x c, X.env.cells.lookup x = some c -> c ≠ it) (h3 : ∀ p ∈ X.pn ++ pins, p.1 ≠ it) : Inv X pins σ H { s with heap := h', toks := t' } := by
 have nit : ∀ b u, H b = some u -> b ≠ it := fun b u e z => by rw [z, hn] at e; cases e
 refine I.step (g' := s.gens) (d' := s.drawn) (ch := [it]) (fun b hb => ?_) (fun b o _ _ hc e _ => k b o (fun z => hc (by simp [z])) e) (fun b o _ _ hc e _ => ⟨o.slots, k b o (fun z => hc (by simp [z])) e⟩) (fun _ _ _ _ n => n)
  (fun b o hc e => ⟨o, k b o (fun z => hc (by simp [z])) e⟩) (fun _ _ e => e) (fun _ _ _ e => e) (fun b ps e => ⟨#[], by rw [e]; simp⟩) (fun m hm => ?_) (fun b u e => ?_) I.bare
 ·have e : b = it := by simpa using hb
  subst e
  exact ⟨h1, hL, h2, h3⟩
 ·obtain ⟨o, es, ep, ho, r⟩ := hm
  exact ⟨o, es, ep, k _ o (Ne.symm hL) ho, r⟩
 ·refine (I.hok b u e).stay (fun c v hc q => k c v ?_ q) (fun _ q => q) fun _ _ q => q
  rcases hc with z | z
  ·rw [z]; exact nit b u e
  ·exact nit c _ z
theorem Inv.tok (I : Inv X pins σ H s) (t : Nat) : Inv X pins σ H { s with toks := t } := I.un (h' := s.heap) (t' := t) Un.refl I.hok
theorem Inv.kept {t' : Nat} (I : Inv X pins σ H s) (k : ∀ b u, s.heap.get? b = some u -> h'.get? b = some u) : Inv X pins σ H { s with heap := h', toks := t' } := I.un (Un.kept k) (I.hok.kept k)
theorem Inv.laid {a : Addr} {o : HO} {t' : Nat} (I : Inv X pins σ H s) (k : ∀ b u, s.heap.get? b = some u -> h'.get? b = some u) (hp : s.heap.objs.size <= a) (new : ObjOk X.prog X.w (upd H a o) h' a o) :
  Inv X pins σ (upd H a o) { s with heap := h', toks := t' } := I.un (Un.laid k hp (I.hok.fresh hp)) (I.hok.laid k hp new)
theorem Inv.write {x e : Addr} {o : HO} {t' : Nat} (I : Inv X pins σ H s) (mu : Mut (H x)) (he : e = x \/ H e = some (.own x)) (k : ∀ b u, b ≠ e -> s.heap.get? b = some u -> h'.get? b = some u) (heo : ∃ u, h'.get? e = some u)
  (new : ObjOk X.prog X.w (upd H x o) h' x o) : Inv X pins σ (upd H x o) { s with heap := h', toks := t' } := I.un (Un.write mu he k heo) (I.hok.write mu he k heo new)
theorem Inv.pins_of {pins' : List (Addr × Obj)} (I : Inv X pins σ H s) (h : ∀ p ∈ pins', s.heap.get? p.1 = some p.2 /\ H p.1 = none /\ p.1 ≠ X.env.locals /\ p.1 ∉ X.fs /\ ∀ v, p.2.data ≠ .cell v) : Inv X pins' σ H s :=
 ⟨I.ok, I.os, I.bare, I.base, I.loc, I.cell, I.free, I.freeC, fun p hp => (List.mem_append.mp hp).elim (fun z => I.pin p (List.mem_append_left _ z)) (h p), I.hok, I.len⟩
theorem nodup_ix {N : List Str} (hN : N.Nodup) {i j : Nat} {x : Str} (a : N[i]? = some x) (b : N[j]? = some x) : i = j := by
 obtain ⟨h1, e1⟩ := List.getElem?_eq_some_iff.mp a
 obtain ⟨h2, e2⟩ := List.getElem?_eq_some_iff.mp b
 exact (List.getElem_inj hN).mp (e1.trans e2.symm)
theorem store_ok2 {M : Model} {A : Around} {E : Value -> Shared -> Prop} {i : Nat} {x : Str} {v : V} {u : Value} {Q : Unit -> Shared -> Prop} (I : Inv X pins σ H s) (hN : X.N.Nodup) (hi : X.N[i]? = some x) (hx : Loc X.env.scope x) (r : RelV v u)
  (h : ∀ s', Inv X pins (σ.set i (some v)) H s' -> (∃ a, Heap.SameBut a s.heap s'.heap /\ (a = X.env.locals \/ X.env.cells.lookup x = some a)) -> Q () s') (hf : X.fn x = true \/ X.env.scope.names.lookup x = some .local := by first | exact .inl rfl | exact .inr rfl | assumption) : wpAny M A (storeName X.env x u) Q E s := by
 obtain ⟨m, hn, hl⟩ := id I.loc
 have hcls : (X.env.scope.kind == .class || (X.env.scope.kind == .module && X.env.locals != X.env.globals)) = false := by rw [I.ok.kind]; rfl
 have hiσ : i < σ.length := by rw [I.len]; exact (List.getElem?_eq_some_iff.mp hi).1
 have cne := I.cne
 have tracked : ∀ {a : Addr} {h' : Heap}, (∃ o, s.heap.get? a = some o /\ H a = none) -> Heap.SameBut a s.heap h' -> HOk X.prog X.w H h' := fun {a h'} ha hs b ob e => by
  obtain ⟨_, _, hfree⟩ := ha
  refine (I.hok b ob e).stay (fun c w' hc q => (hs.2 c ?_).trans q) (fun _ q => q) fun _ _ q => q
  rintro rfl
  rcases hc with rfl | hc
  ·rw [hfree] at e; cases e
  ·rw [hfree] at hc; cases hc
 rcases hx with hk | hk
 ·refine wpAny_storeName_local hk hn (fun h' hn' hs => ?_) hcls
  obtain ⟨oL, _, _, hoL, _⟩ := id hn
  refine h _ ⟨I.ok, I.os, I.bare, ⟨fun b o e n hb hx => ?_, fun b o e n hb hx => ?_, I.base.free, fun b o e hx => ?_, I.base.tups, I.base.frzs, I.base.tbls⟩, ⟨_, hn', fun j y v' e1 e2 e3 => ?_⟩, fun y c e => ?_, I.free, I.freeC, fun p hp => ?_, tracked ⟨oL, hoL, I.free⟩ hs, by simpa using I.len⟩ ⟨_, hs, .inl rfl⟩
  ·exact (hs.2 b (Nat.ne_of_lt (Nat.lt_of_lt_of_le (Heap.lt_size e) I.ok.above))).trans (I.base.keep b o e n hb hx)
  ·obtain ⟨sl, e1⟩ := I.base.slot b o e n hb hx
   exact ⟨sl, (hs.2 b (Nat.ne_of_lt (Nat.lt_of_lt_of_le (Heap.lt_size e) I.ok.above))).trans e1⟩
  ·obtain ⟨o', e1⟩ := I.base.there b o e hx
   exact ⟨o', (hs.2 b (Nat.ne_of_lt (Nat.lt_of_lt_of_le (Heap.lt_size e) I.ok.above))).trans e1⟩
  ·by_cases hj : j = i
   ·subst hj
    rw [hi] at e1; cases e1
    rw [List.getElem?_set_self hiσ] at e2
    cases e2
    exact ⟨u, r, .inl ⟨hk, by simp⟩⟩
   ·rw [List.getElem?_set_ne (Ne.symm hj)] at e2
    obtain ⟨u', r', q⟩ := hl j y v' e1 e2 e3
    refine ⟨u', r', ?_⟩
    rcases q with ⟨k, e⟩ | ⟨k, c, e, z⟩
    ·refine .inl ⟨k, ?_⟩
     have : y ≠ x := fun e => hj (nodup_ix hN e1 (e ▸ hi))
     simp [this, e]
    ·exact .inr ⟨k, c, e, z.sameBut hs (cne y c e)⟩
  ·obtain ⟨w', z⟩ := I.cell y c e
   exact ⟨w', z.sameBut hs (cne y c e)⟩
  ·obtain ⟨e, n, ne, nf, d⟩ := I.pin p hp
   exact ⟨(hs.2 p.1 ne).trans e, n, ne, nf, d⟩
 ·have hfn : X.fn x = true := by
   rcases hf with z | z
   ·exact z
   ·rw [z] at hk; cases hk
  obtain ⟨c, hc⟩ := I.ok.has x (.inl hk)
  obtain ⟨w', z⟩ := I.cell x c hc
  refine wpAny_storeName_cell I.ok.kind hk hc z (fun h' hc' hs => ?_)
  obtain ⟨oc, hoc, hocd⟩ := id z
  refine h { s with heap := h' } ⟨I.ok, I.os, I.bare, ⟨fun b o e n hb hx => ?_, fun b o e n hb hx => ?_, I.base.free, fun b o e hx => ?_, I.base.tups, I.base.frzs, I.base.tbls⟩, ⟨m, hn.sameBut hs (Ne.symm (cne x c hc)), fun j y v' e1 e2 e3 => ?_⟩, fun y c' e => ?_, I.free, I.freeC, fun p hp => ?_, tracked ⟨oc, hoc, I.freeC x c hc⟩ hs, by simpa using I.len⟩ ⟨c, hs, .inr hc⟩
  ·exact (hs.2 b (Nat.ne_of_lt (Nat.lt_of_lt_of_le (Heap.lt_size e) (I.ok.cab x c hfn hc)))).trans (I.base.keep b o e n hb hx)
  ·obtain ⟨sl, e1⟩ := I.base.slot b o e n hb hx
   exact ⟨sl, (hs.2 b (Nat.ne_of_lt (Nat.lt_of_lt_of_le (Heap.lt_size e) (I.ok.cab x c hfn hc)))).trans e1⟩
  ·obtain ⟨o', e1⟩ := I.base.there b o e hx
   exact ⟨o', (hs.2 b (Nat.ne_of_lt (Nat.lt_of_lt_of_le (Heap.lt_size e) (I.ok.cab x c hfn hc)))).trans e1⟩
  ·by_cases hj : j = i
   ·subst hj
    rw [hi] at e1; cases e1
    rw [List.getElem?_set_self hiσ] at e2
    cases e2
    exact ⟨u, r, .inr ⟨.inl hk, c, hc, hc'⟩⟩
   ·rw [List.getElem?_set_ne (Ne.symm hj)] at e2
    obtain ⟨u', r', q⟩ := hl j y v' e1 e2 e3
    refine ⟨u', r', ?_⟩
    rcases q with q | ⟨k, c', e, z'⟩
    ·exact .inl q
    ·refine .inr ⟨k, c', e, z'.sameBut hs ?_⟩
     rintro rfl
     exact hj (nodup_ix hN e1 (I.ok.inj _ _ _ e hc ▸ hi))
  ·by_cases hcc : c' = c
   ·subst hcc; exact ⟨_, hc'⟩
   ·obtain ⟨w2, z2⟩ := I.cell y c' e
    exact ⟨w2, z2.sameBut hs hcc⟩
  ·obtain ⟨e, n, ne, nf, d⟩ := I.pin p hp
   refine ⟨(hs.2 p.1 ?_).trans e, n, ne, nf, d⟩
   intro q
   rw [q, hoc] at e
   have q' : oc = p.2 := Option.some.inj e
   exact d w' (by rw [<- q']; exact hocd)
theorem store_ok {M : Model} {A : Around} {E : Value -> Shared -> Prop} {i : Nat} {x : Str} {v : V} {u : Value} {Q : Unit -> Shared -> Prop} (I : Inv X pins σ H s) (hN : X.N.Nodup) (hi : X.N[i]? = some x) (hx : Loc X.env.scope x) (r : RelV v u)
  (h : ∀ s', Inv X pins (σ.set i (some v)) H s' -> Q () s') (hf : X.fn x = true \/ X.env.scope.names.lookup x = some .local := by first | exact .inl rfl | exact .inr rfl | assumption) : wpAny M A (storeName X.env x u) Q E s :=
 store_ok2 I hN hi hx r (fun s' I' _ => h s' I') hf
theorem Inv.call' {s' : Shared} {ch : List Addr} (I : Inv X pins σ H s) (ho : s'.os = s.os) (u : Un (frs X.stack) ch H H' s.heap s'.heap) (hok : HOk X.prog X.w H' s'.heap) (hg : AllBare s'.gens)
  (hch : ∀ b ∈ ch, (b ∈ X.ex \/ X.s₀.heap.objs.size <= b) /\ b ≠ X.env.locals /\ (∀ x c, X.env.cells.lookup x = some c -> c ≠ b) /\ ∀ p ∈ X.pn ++ pins, p.1 ≠ b) : Inv X pins σ H' s' := by
 obtain ⟨h', g', d', t', o'⟩ := s'
 have e : o' = s.os := ho
 subst e
 exact I.call (g' := g') (t' := t') (d' := d') u hok hg hch
end
abbrev XK := Value -> Option Addr -> Hp -> Prop
abbrev St := List (Option V)
abbrev VK := V -> Hp -> Prop
abbrev TE := St -> Hp -> VK -> Prop
abbrev TT := St -> Hp -> (Bool -> Hp -> Prop) -> Prop
abbrev TA := St -> Hp -> (List V -> Hp -> Prop) -> Prop
structure Ends where
 nx : St -> Hp -> Prop
 rt : VK
 bk : St -> Hp -> Prop := fun _ _ => False
 ct : St -> Hp -> Prop := fun _ _ => False
abbrev TS := Ends -> St -> Hp -> Prop
def EP (X : Cx) (pins : List (Addr × Obj)) (σ : St) (Q : VK) (u : Value) (s' : Shared) : Prop := ∃ v H', Inv X pins σ H' s' /\ RelV v u /\ Q v H'
def TP (X : Cx) (pins : List (Addr × Obj)) (σ : St) (Q : Bool -> Hp -> Prop) (b : Bool) (s' : Shared) : Prop := ∃ H', Inv X pins σ H' s' /\ Q b H'
def AP (X : Cx) (pins : List (Addr × Obj)) (σ : St) (Q : List V -> Hp -> Prop) (us : List Value) (s' : Shared) : Prop := ∃ vs H', Inv X pins σ H' s' /\ Vals vs us /\ Q vs H'
def SP (X : Cx) (pins : List (Addr × Obj)) (D : Ends) (f : Flow) (s' : Shared) : Prop :=
 match f with
 | .next => ∃ σ' H', Inv X pins σ' H' s' /\ D.nx σ' H'
 | .brk => ∃ σ' H', Inv X pins σ' H' s' /\ D.bk σ' H'
 | .cont => ∃ σ' H', Inv X pins σ' H' s' /\ D.ct σ' H'
 | .ret u => ∃ v σ' H', Inv X pins σ' H' s' /\ RelV v u /\ D.rt v H'
def PE (X : Cx) (e : Expr) (t : TE) : Prop :=
 ∀ (pins : List (Addr × Obj)) (s : Shared) (σ : St) (H : Hp) (Q : VK), Inv X pins σ H s -> t σ H Q -> wpAny (model X.prog X.w) X.A (eval e X.env) (EP X pins σ Q) X.xe s
def PT (X : Cx) (e : Expr) (t : TT) : Prop :=
 ∀ (pins : List (Addr × Obj)) (s : Shared) (σ : St) (H : Hp) (Q : Bool -> Hp -> Prop), Inv X pins σ H s -> t σ H Q -> wpAny (model X.prog X.w) X.A (isTrue e X.env (eval e X.env)) (TP X pins σ Q) X.xe s
def PW (X : Cx) (e : Expr) (t : TT) : Prop :=
 ∀ (whole : Sem Value) (pins : List (Addr × Obj)) (s : Shared) (σ : St) (H : Hp) (Q : Bool -> Hp -> Prop), Inv X pins σ H s -> t σ H Q -> wpAny (model X.prog X.w) X.A (isTrue e X.env whole) (TP X pins σ Q) X.xe s
theorem PW.pt {X : Cx} {e : Expr} {t : TT} (h : PW X e t) : PT X e t := h _
def PA (X : Cx) (es : List Expr) (t : TA) : Prop :=
 ∀ (pos : Pos) (pins : List (Addr × Obj)) (s : Shared) (σ : St) (H : Hp) (Q : List V -> Hp -> Prop), Inv X pins σ H s -> t σ H Q -> wpAny (model X.prog X.w) X.A (spliced (backTo pos (starEach es X.env))) (AP X pins σ Q) X.xe s
def PS (X : Cx) (st : Stmt) (t : TS) : Prop :=
 ∀ (pins : List (Addr × Obj)) (s : Shared) (σ : St) (H : Hp) (D : Ends), Inv X pins σ H s -> t D σ H -> wpAny (model X.prog X.w) X.A (exec st X.env) (SP X pins D) X.xe s
def PSs (X : Cx) (st : List Stmt) (t : TS) : Prop :=
 ∀ (pins : List (Addr × Obj)) (s : Shared) (σ : St) (H : Hp) (D : Ends), Inv X pins σ H s -> t D σ H -> wpAny (model X.prog X.w) X.A (execs st X.env) (SP X pins D) X.xe s
theorem thn {α : Type} {t : Sem α} {Q Q' : α -> Shared -> Prop} {M : Model} {A : Around} {E : Value -> Shared -> Prop} {s : Shared} (h : wpAny M A t Q E s) (hQ : ∀ a s, Q a s -> Q' a s) : wpAny M A t Q' E s := wpAny_mono h hQ fun _ _ x => x
end L2
namespace L2
open PySem PySem.Spec PyProof.Rows
section
variable {X : Cx}
def tVar (i : Nat) : TE := fun σ H Q => ∃ v, σ[i]? = some (some v) /\ Q v H
def tC (v : V) : TE := fun _ H Q => Q v H
theorem pe_var {i : Nat} {x : Str} {pos : Pos} (hN : X.N[i]? = some x) (hv : Vis X.env.scope x) (hd : (x == ("__debug__" : Str)) = false := by decide) (hcd : (x == ("__classdict__" : Str)) = false := by decide) : PE X (.Name x pos) (tVar i) := by
 intro pins s σ H Q I h
 obtain ⟨v, e, h⟩ := h
 obtain ⟨m, hn, hl⟩ := I.loc
 obtain ⟨u, r, l⟩ := hl i x v hN e hv
 have fin : EP X pins σ Q u s := ⟨v, H, I, r, h⟩
 rcases l with ⟨hk, hm⟩ | ⟨hk, c, hc, hcell⟩
 ·exact wpAny_Name (wpAny_loadName_local I.ok.kind hk hn hm fin) hd
 ·rcases hk with hk | hk
  ·exact wpAny_Name (wpAny_loadName_cell I.ok.kind hk hc hcell fin) hd
  ·exact wpAny_Name (wpAny_loadName_free I.ok.kind hk hc hcell fin hcd) hd
theorem pe_int {i j pos} : PE X (.Constant (.int i) j pos) (tC (.int i)) := fun _ _ _ H _ I h => wpAny_Constant_int ⟨.int i, H, I.tok _, ⟨_, rfl⟩, h⟩
theorem pe_bl {b j pos} : PE X (.Constant (.bool b) j pos) (tC (.bl b)) := fun _ _ _ H _ I h => Constant_bool ⟨.bl b, H, I, rfl, h⟩
theorem pe_non {j pos} : PE X (.Constant .none j pos) (tC .non) := fun _ _ _ H _ I h => Constant_none ⟨.non, H, I, rfl, h⟩
theorem pe_str {x j pos} : PE X (.Constant (.str x) j pos) (tC (.str x)) := fun _ _ _ H _ I h => Calls.Constant_str ⟨.str x, H, I.tok _, ⟨_, rfl⟩, h⟩
def Gl (X : Cx) (x : Str) : Prop := X.env.kindOf x = some .globalImplicit
theorem ld_glob {E : Value -> Shared -> Prop} {pins : List (Addr × Obj)} {s : Shared} {σ : St} {H : Hp} {x : Str} {u : Value} {pos : Pos} {Q : Value -> Shared -> Prop} (I : Inv X pins σ H s) (hg : Gl X x) (hm : X.mg x = some u) (h : Q u s)
  (hd : (x == ("__debug__" : Str)) = false := by decide) : wpAny (model X.prog X.w) X.A (eval (.Name x pos) X.env) Q E s :=
 Calls.Name_function_global I.ok.kind hg (Calls.loadGlobal_global (by rw [I.ok.glob]; exact I.mod.glob.keeps I.bk) hm h) hd
theorem ld_blt {E : Value -> Shared -> Prop} {pins : List (Addr × Obj)} {s : Shared} {σ : St} {H : Hp} {x : Str} {u : Value} {pos : Pos} {Q : Value -> Shared -> Prop} (I : Inv X pins σ H s) (hg : Gl X x) (hm : X.mg x = none) (hv : bootBuiltins x = some u) (h : Q u s)
  (hn : x ≠ "__name__" := by decide) (hd : (x == ("__debug__" : Str)) = false := by decide) : wpAny (model X.prog X.w) X.A (eval (.Name x pos) X.env) Q E s := by
 obtain ⟨mb, h1, h2⟩ := I.mod.blt
 exact Calls.Name_function_global I.ok.kind hg (Calls.loadGlobal_builtin (by rw [I.ok.glob]; exact I.mod.glob.keeps I.bk) hm (by rw [I.ok.blt]; exact h1.keeps I.bk) ((h2 x hn).trans hv) h) hd
theorem pe_glob {x : Str} {v : V} {u : Value} {pos : Pos} (hg : Gl X x) (hm : X.mg x = some u) (r : RelV v u) (hd : (x == ("__debug__" : Str)) = false := by decide) : PE X (.Name x pos) (tC v) :=
 fun _ _ _ H _ I h => ld_glob I hg hm ⟨v, H, I, r, h⟩ hd
theorem pe_bltn {x : Str} {v : V} {u : Value} {pos : Pos} (hg : Gl X x) (hm : X.mg x = none) (hv : bootBuiltins x = some u) (r : RelV v u) (hn : x ≠ "__name__" := by decide) (hd : (x == ("__debug__" : Str)) = false := by decide) : PE X (.Name x pos) (tC v) :=
 fun _ _ _ H _ I h => ld_blt I hg hm hv ⟨v, H, I, r, h⟩ hn hd
variable {a b : Expr} {ta tb : TE} {pos : Pos}
def tB (t : TE) : TT := fun σ H Q => t σ H fun x H1 => ∃ c, x = .bl c /\ Q c H1
theorem pt_val {e : Expr} {t : TE} (h : PE X e t) (he : ∀ whole, isTrue e X.env whole = (do let v <- whole; standAt e.pos; holding [v] (truthy v)) := by intro _; rfl) : PT X e (tB t) := by
 intro pins s σ H Q I hw
 refine isTrue_plain (thn (h pins s σ H _ I hw) fun v s1 ⟨x, H1, I1, r1, q1⟩ => ?_) (he _)
 obtain ⟨d, rfl, q⟩ := q1
 cases r1
 exact wpAny_truthy_bool ⟨H1, I1, q⟩
variable {tA tB' : TT} {rest : List Expr}
def tOr (t u : TT) : TT := fun σ H Q => t σ H fun c H1 => if c = true then Q true H1 else u σ H1 Q
def tNot (t : TT) : TT := fun σ H Q => t σ H fun c H1 => Q (!c) H1
theorem pw_or1 (ha : PT X a tA) : PW X (.BoolOp .Or [a] pos) tA := by
 intro wh pins s σ H Q I h
 refine isTrue_or (thn (ha pins s σ H Q I h) fun c s1 e => ?_)
 cases c with
 | false => exact isTrue_or_nil e
 | true => exact e
theorem pw_or (ha : PT X a tA) (hb : PW X (.BoolOp .Or (b :: rest) pos) tB') : PW X (.BoolOp .Or (a :: b :: rest) pos) (tOr tA tB') := by
 intro wh pins s σ H Q I h
 refine isTrue_or (thn (ha pins s σ H _ I h) fun c s1 ⟨H1, I1, q1⟩ => ?_)
 cases c with
 | true => exact ⟨H1, I1, q1⟩
 | false => exact hb wh pins s1 σ H1 Q I1 q1
theorem pt_not (ha : PT X a tA) : PT X (.UnaryOp .Not a pos) (tNot tA) := by
 intro pins s σ H Q I h
 exact isTrue_not (ha pins s σ H (fun c H1 => Q (!c) H1) I h)
def tAndV (ta tb : TE) : TE := fun σ H Q => ta σ H fun x H1 => ∃ c, x = .bl c /\ if c = true then tb σ H1 Q else Q (.bl false) H1
def tNotV (ta : TE) : TE := fun σ H Q => ta σ H fun x H1 => ∃ c, x = .bl c /\ Q (.bl (!c)) H1
theorem pe_one {op} {t : TE} (h : PE X a t) : PE X (.BoolOp op [a] pos) t := fun pins s σ H Q I hw => BoolOp_one (h pins s σ H Q I hw)
theorem pe_and (ha : PE X a ta) (hb : PE X (.BoolOp .And (b :: rest) pos) tb) : PE X (.BoolOp .And (a :: b :: rest) pos) (tAndV ta tb) := by
 intro pins s σ H Q I h
 refine BoolOp_and (thn (ha pins s σ H _ I h) fun v s1 ⟨x, H1, I1, r1, q1⟩ => ?_)
 obtain ⟨c, rfl, q1⟩ := q1
 cases r1
 refine wpAny_truthy_bool ?_
 cases c with
 | true => exact hb pins s1 σ H1 Q I1 q1
 | false => exact ⟨.bl false, H1, I1, rfl, q1⟩
theorem pe_not (ha : PE X a ta) : PE X (.UnaryOp .Not a pos) (tNotV ta) := by
 intro pins s σ H Q I h
 refine UnaryOp_ (thn (ha pins s σ H _ I h) fun v s1 ⟨x, H1, I1, r1, q1⟩ => ?_)
 obtain ⟨c, rfl, q1⟩ := q1
 cases r1
 exact not_of (wpAny_truthy_bool ⟨.bl (!c), H1, I1, rfl, q1⟩)
def tIf (t : TT) (ta tb : TE) : TE := fun σ H Q => t σ H fun c H1 => if c = true then ta σ H1 Q else tb σ H1 Q
theorem pe_ifExp {c : Expr} (hc : PT X c tA) (ha : PE X a ta) (hb : PE X b tb) : PE X (.IfExp c a b pos) (tIf tA ta tb) := by
 intro pins s σ H Q I h
 refine wpAny_IfExp (thn (hc pins s σ H _ I h) fun d s1 ⟨H1, I1, q1⟩ => ?_)
 cases d with
 | true => exact ha pins s1 σ H1 Q I1 q1
 | false => exact hb pins s1 σ H1 Q I1 q1
end
end L2
namespace L2
open PySem PySem.Spec PyProof.Rows
def SqL (K : Fg_) (H : Hp) (a : Addr) (xs : List V) : Prop :=
 Rd H a (.lst xs) \/
  ∃ (o : Obj) (its : Array Value) (n : Nat), K.lookup a = some o /\ o.cls = .type "list" /\ o.dict = none /\ o.data = .seq its n /\ its.size <= sizeLine /\ Vals xs its.toList
def SqT (K : Fg_) (H : Hp) (a : Addr) (xs : List V) : Prop :=
 Rd H a (.tup xs) \/
  ∃ (o : Obj) (its : Array Value) (n : Nat), K.lookup a = some o /\ o.cls = .type "tuple" /\ o.data = .seq its n /\ its.size <= sizeLine /\ Vals xs its.toList
def absV : Value -> Option V
 | .none => some .non
 | .bool b => some (.bl b)
 | .int i _ => some (.int i)
 | .str x _ => some (.str x)
 | .bytes b _ => some (.byt b)
 | .float b _ => some (.flt b)
 | .ref a => some (.ref a)
 | .type n => some (.ty n)
 | _ => none
theorem RelV.abs {x : V} {u : Value} (r : RelV x u) : absV u = some x := by
 cases x with
 | non => cases r; rfl
 | bl _ => cases r; rfl
 | int _ => obtain ⟨t, rfl⟩ := r; rfl
 | str _ => obtain ⟨t, rfl⟩ := r; rfl
 | byt _ => obtain ⟨t, rfl⟩ := r; rfl
 | flt _ => obtain ⟨t, rfl⟩ := r; rfl
 | ref _ => cases r; rfl
 | ty _ => cases r; rfl
theorem RelV.inj {x y : V} {u : Value} (r : RelV x u) (q : RelV y u) : x = y := Option.some.inj (r.abs.symm.trans q.abs)
theorem Vals.inj : ∀ {xs ys : List V} {us : List Value}, Vals xs us -> Vals ys us -> xs = ys
 | _, _, _, .nil, .nil => rfl
 | _, _, _, .cons r t, .cons r' t' => by rw [r.inj r', Vals.inj t t']
section
variable {X : Cx} {pins : List (Addr × Obj)} {σ : St} {H : Hp} {s : Shared} {a : Addr} {xs ys : List V}
theorem SqL.of {K : Fg_} (h : H a = some (.lst xs)) : SqL K H a xs := .inl (.inl h)
theorem SqT.of {K : Fg_} (h : H a = some (.tup xs)) : SqT K H a xs := .inl (.inl h)
theorem Inv.list (I : Inv X pins σ H s) (h : SqL X.K H a xs) : ∃ its : List Value, Vals xs its /\ PlainL s.heap a its.toArray /\ xs.length <= sizeLine := by
 rcases h with h | ⟨o, its, n, hk, hc, hd, hs, hz, r⟩
 ·obtain ⟨z, its, n, r, e⟩ := h.ok I.hok
  exact ⟨its, r, ⟨_, n, e, rfl, rfl, rfl⟩, z⟩
 ·refine ⟨its.toList, r, ⟨o, n, I.kIn a o hk, hc, hd, by simpa using hs⟩, ?_⟩
  have e := r.length
  simp only [Array.length_toList] at e
  omega
theorem Inv.tuple (I : Inv X pins σ H s) (h : SqT X.K H a xs) : ∃ its : List Value, Vals xs its /\ IsTup s.heap a its.toArray /\ xs.length <= sizeLine := by
 rcases h with h | ⟨o, its, n, hk, hc, hs, hz, r⟩
 ·obtain ⟨z, its, r, p⟩ := h.ok I.hok
  exact ⟨its, r, p, z⟩
 ·refine ⟨its.toList, r, ⟨o, I.kIn a o hk, hc, n, by simpa using hs⟩, ?_⟩
  have e := r.length
  simp only [Array.length_toList] at e
  omega
theorem Inv.list_inj (I : Inv X pins σ H s) (h : SqL X.K H a xs) (h' : SqL X.K H a ys) : xs = ys := by
 obtain ⟨its, r, ⟨o, n, e, _, _, d⟩, _⟩ := I.list h
 obtain ⟨its', r', ⟨o', n', e', _, _, d'⟩, _⟩ := I.list h'
 rw [e] at e'; cases e'
 rw [d] at d'
 injection d' with d1 _
 have : its = its' := by simpa using congrArg Array.toList d1
 subst this
 exact r.inj r'
theorem Inv.tuple_inj (I : Inv X pins σ H s) (h : SqT X.K H a xs) (h' : SqT X.K H a ys) : xs = ys := by
 obtain ⟨its, r, ⟨o, e, _, n, d⟩, _⟩ := I.tuple h
 obtain ⟨its', r', ⟨o', e', _, n', d'⟩, _⟩ := I.tuple h'
 rw [e] at e'; cases e'
 rw [d] at d'
 injection d' with d1 _
 have : its = its' := by simpa using congrArg Array.toList d1
 subst this
 exact r.inj r'
end
abbrev Cx.wish (X : Cx) (E : Value -> Shared -> Prop) : Cx := { X with xe := E }
abbrev Cx.nox (X : Cx) : Cx := X.wish fun _ _ => False
theorem Cx.Ok.wish {X : Cx} (ok : X.Ok) (E : Value -> Shared -> Prop) : (X.wish E).Ok :=
 ⟨ok.mod, ok.kind, ok.glob, ok.blt, ok.above, ok.inj, ok.has, ok.cab, ok.hd, ok.frames, ok.stk, ok.exf, ok.bs, ok.bsz, ok.noex, ok.exfs, ok.funs, ok.frf⟩
theorem Cx.Ok.unwish {X : Cx} {E : Value -> Shared -> Prop} (ok : (X.wish E).Ok) : X.Ok :=
 ⟨ok.mod, ok.kind, ok.glob, ok.blt, ok.above, ok.inj, ok.has, ok.cab, ok.hd, ok.frames, ok.stk, ok.exf, ok.bs, ok.bsz, ok.noex, ok.exfs, ok.funs, ok.frf⟩
section
variable {X : Cx} {pins : List (Addr × Obj)} {σ : St} {H : Hp} {s : Shared} {E : Value -> Shared -> Prop}
theorem Inv.wish (I : Inv X pins σ H s) (E : Value -> Shared -> Prop) : Inv (X.wish E) pins σ H s := ⟨I.ok.wish E, I.os, I.bare, I.base, I.loc, I.cell, I.free, I.freeC, I.pin, I.hok, I.len⟩
theorem Inv.unwish (I : Inv (X.wish E) pins σ H s) : Inv X pins σ H s := ⟨I.ok.unwish, I.os, I.bare, I.base, I.loc, I.cell, I.free, I.freeC, I.pin, I.hok, I.len⟩
theorem SP.unwish {D : Ends} {f : Flow} {s' : Shared} (h : SP (X.wish E) pins D f s') : SP X pins D f s' := by
 cases f with
 | next => obtain ⟨σ', H', I, q⟩ := h; exact ⟨σ', H', I.unwish, q⟩
 | brk => obtain ⟨σ', H', I, q⟩ := h; exact ⟨σ', H', I.unwish, q⟩
 | cont => obtain ⟨σ', H', I, q⟩ := h; exact ⟨σ', H', I.unwish, q⟩
 | ret u => obtain ⟨v, σ', H', I, r, q⟩ := h; exact ⟨v, σ', H', I.unwish, r, q⟩
theorem PSs.nox {st : List Stmt} {t : TS} (h : PSs X.nox st t) : PSs X st t := fun pins s σ H D I hw =>
 wpAny_mono (h pins s σ H D (I.wish _) hw) (fun _ _ q => q.unwish) fun _ _ z => False.elim z
end
section
variable {X : Cx} {st : Stmt} {rest : List Stmt} {t u : TS} {e : Expr} {te : TE} {pos : Pos}
def tNext : TS := fun D σ H => D.nx σ H
def tSeq (t u : TS) : TS := fun D σ H => t { D with nx := u D } σ H
theorem pss_nil : PSs X [] tNext := fun _ _ σ H _ I h => wpAny_execs_nil ⟨σ, H, I, h⟩
theorem pss_cons (h1 : PS X st t) (h2 : PSs X rest u) : PSs X (st :: rest) (tSeq t u) := by
 intro pins s σ H D I h
 refine wpAny_execs_cons (thn (h1 pins s σ H { D with nx := u D } I h) fun f s1 q => ?_)
 cases f with
 | next =>
  obtain ⟨σ', H', I', q⟩ := q
  exact h2 pins s1 σ' H' D I' q
 | ret v => exact q
 | brk => exact q
 | cont => exact q
theorem pss_one (h1 : PS X st t) : PSs X [st] t := by
 intro pins s σ H D I h
 refine wpAny_execs_cons (thn (h1 pins s σ H D I h) fun f s1 q => ?_)
 cases f with
 | next => exact wpAny_execs_nil q
 | ret v => exact q
 | brk => exact q
 | cont => exact q
theorem Inv.quiet {pins : List (Addr × Obj)} {σ : St} {H : Hp} {s : Shared} (I : Inv X pins σ H s) : interactive X.env = false := by simp [interactive, I.ok.kind]
def tDrop (te : TE) : TS := fun D σ H => te σ H fun _ H1 => D.nx σ H1
theorem ps_expr (he : PE X e te) (hs : swapsWith e none pos.line X.env = pure false := by rfl) : PS X (.Expr e pos) (tDrop te) := by
 intro pins s σ H D I h
 exact wpAny_Expr_any (thn (he pins s σ H _ I h) fun v s1 ⟨x, H1, I1, r1, q1⟩ => ⟨σ, H1, I1, q1⟩) I.quiet hs
def tRet (te : TE) : TS := fun D σ H => te σ H D.rt
theorem ps_ret (he : PE X e te) : PS X (.Return (some e) pos) (tRet te) := by
 intro pins s σ H D I h
 exact wpAny_Return_some (thn (he pins s σ H _ I h) fun v s1 ⟨x, H1, I1, r1, q1⟩ => ⟨x, σ, H1, I1, r1, q1⟩)
def tRetN : TS := fun D _ H => D.rt .non H
theorem ps_retN : PS X (.Return none pos) tRetN := fun _ _ σ H _ I h => wpAny_Return_none ⟨.non, σ, H, I, rfl, h⟩
def tIfS (c : TT) (t u : TS) : TS := fun D σ H => c σ H fun b H1 => if b = true then t D σ H1 else u D σ H1
theorem ps_if {c : Expr} {a b : List Stmt} {tc : TT} (hc : PT X c tc) (ha : PSs X a t) (hb : PSs X b u) : PS X (.If c a b pos) (tIfS tc t u) := by
 intro pins s σ H D I h
 refine wpAny_If (thn (hc pins s σ H _ I h) fun d s1 ⟨H1, I1, q1⟩ => ?_)
 cases d with
 | true => exact ha pins s1 σ H1 D I1 q1
 | false => exact hb pins s1 σ H1 D I1 q1
end
abbrev TG := V -> St -> Hp -> (St -> Hp -> Prop) -> Prop
abbrev TGs := List V -> St -> Hp -> (St -> Hp -> Prop) -> Prop
def PG (X : Cx) (target : Expr) (t : TG) : Prop :=
 ∀ (pins : List (Addr × Obj)) (s : Shared) (σ : St) (H : Hp) (v : V) (u : Value) (Q : St -> Hp -> Prop), Inv X pins σ H s -> RelV v u -> t v σ H Q ->
  wpAny (model X.prog X.w) X.A (assign target X.env u) (fun _ s' => ∃ σ' H', Inv X pins σ' H' s' /\ Q σ' H') X.xe s
def PGs (X : Cx) (ts : List Expr) (t : TGs) : Prop :=
 ∀ (pins : List (Addr × Obj)) (s : Shared) (σ : St) (H : Hp) (vs : List V) (us : List Value) (Q : St -> Hp -> Prop), Inv X pins σ H s -> Vals vs us -> t vs σ H Q ->
  wpAny (model X.prog X.w) X.A (assignInOrder ((assignEach ts X.env).map (·.2)) us) (fun _ s' => ∃ σ' H', Inv X pins σ' H' s' /\ Q σ' H') X.xe s
section
variable {X : Cx} {pos : Pos}
def gName (i : Nat) : TG := fun v σ H Q => Q (σ.set i (some v)) H
theorem pg_name {i : Nat} {x : Str} (hN : X.N.Nodup) (hi : X.N[i]? = some x) (hx : Loc X.env.scope x) (hf : X.fn x = true \/ X.env.scope.names.lookup x = some .local := by first | exact .inl rfl | exact .inr rfl | assumption) : PG X (.Name x pos) (gName i) := by
 intro pins s σ H v u Q I r h
 exact wpAny_assign_Name (store_ok I hN hi hx r (fun s' I' => ⟨_, H, I', h⟩) hf)
def gNil : TGs := fun vs σ H Q => vs = [] /\ Q σ H
def gCons (t : TG) (u : TGs) : TGs := fun vs σ H Q => ∃ v r, vs = v :: r /\ t v σ H fun σ' H' => u r σ' H' Q
theorem pgs_nil : PGs X [] gNil := by
 intro pins s σ H vs us Q I r h
 obtain ⟨e, h⟩ := h
 subst e
 cases r
 exact assignInOrder_nil ⟨σ, H, I, h⟩
theorem pgs_cons {e : Expr} {es : List Expr} {t : TG} {u : TGs} (h1 : PG X e t) (h2 : PGs X es u)
  (hs : (assignEach (e :: es) X.env).map (·.2) = assign e X.env :: (assignEach es X.env).map (·.2) := by rfl) : PGs X (e :: es) (gCons t u) := by
 intro pins s σ H vs us Q I r h
 obtain ⟨v, vr, e1, h⟩ := h
 subst e1
 cases r with
 | cons r rr =>
  rw [hs]
  refine assignInOrder_cons (thn (h1 pins s σ H _ _ _ I r h) fun _ s1 ⟨σ1, H1, I1, q1⟩ => ?_)
  exact h2 pins s1 σ1 H1 _ _ Q I1 rr q1
def gTup (K : Fg_) (n : Nat) (t : TGs) : TG := fun v σ H Q => ∃ a xs, v = .ref a /\ SqT K H a xs /\ xs.length = n /\ t xs σ H Q
theorem pg_tup {es : List Expr} {k : Nat} {t : TGs} {n : Nat} (hc : X.calm = true) (h : PGs X es t)
  (hn : (assignEach es X.env).length = n := by rfl) (hst : (assignEach es X.env).findIdx? (·.1) = none := by rfl) : PG X (.Tuple es k pos) (gTup X.K n t) := by
 intro pins s σ H v u Q I r hw
 obtain ⟨a, xs, e1, hq, hl, hw⟩ := hw
 subst e1
 cases r
 obtain ⟨its, rv, ht, hz⟩ := I.tuple hq
 refine assign_Tuple_tuple (I.ok.hd hc) ht (by simp [hn, <- hl, rv.length]) hst fun h' hx => ?_
 have I1 : Inv X pins σ H { s with heap := h' } := I.kept (t' := s.toks) fun b o e => hx b o (Nat.ne_of_lt (Heap.lt_size e)) e
 exact h pins _ σ H xs _ Q I1 (by simpa using rv) hw
def tAsg (te : TE) (g : TG) : TS := fun D σ H => te σ H fun x H1 => g x σ H1 D.nx
theorem ps_asg {tg e : Expr} {te : TE} {g : TG} (he : PE X e te) (hg : PG X tg g) (hs : swapsWithSole [tg] e pos.line X.env = pure false := by rfl) (hw : swappedStores [tg] e X.env = pure none := by rfl)
  (h1 : (assignEach [tg] X.env).map (·.2) = [assign tg X.env] := by rfl) : PS X (.Assign [tg] e pos) (tAsg te g) := by
 intro pins s σ H D I h
 refine wpAny_Assign_stores (thn (he pins s σ H _ I h) fun v s1 ⟨x, H1, I1, r1, q1⟩ => ?_) hs hw
 rw [h1]
 exact thn (hg pins s1 σ H1 x v _ I1 r1 q1) fun _ s2 q => q
theorem ps_set {i : Nat} {x : Str} {e : Expr} {te : TE} {pos' : Pos} (hN : X.N.Nodup) (hi : X.N[i]? = some x) (hx : Loc X.env.scope x) (he : PE X e te) (hs : swapsWith e (some (.Name x pos')) pos.line X.env = pure false := by rfl) (hf : X.fn x = true \/ X.env.scope.names.lookup x = some .local := by first | exact .inl rfl | exact .inr rfl | assumption) :
  PS X (.Assign [.Name x pos'] e pos) (tAsg te (gName i)) := by
 intro pins s σ H D I h
 refine wpAny_Assign_Name (thn (he pins s σ H _ I h) fun v s1 ⟨y, H1, I1, r1, q1⟩ => ?_) hs
 exact store_ok I1 hN hi hx r1 (fun s2 I2 => ⟨_, H1, I2, q1⟩) hf
end
structure It where
 go : Nat -> Hp -> Prop
 yld : Nat -> Hp -> V -> Hp -> Prop
 stop : Nat -> Hp -> Prop
def FpOk (X : Cx) (pins : List (Addr × Obj)) (H : Hp) (b : Addr) : Prop :=
 H b = none /\ b ≠ X.env.locals /\ b ∉ X.fs /\ (b ∈ X.ex \/ X.s₀.heap.objs.size <= b) /\ (∀ x c, X.env.cells.lookup x = some c -> c ≠ b) /\ ∀ p ∈ X.pn ++ pins, p.1 ≠ b
theorem Inv.fpOk {X : Cx} {pins : List (Addr × Obj)} {σ : St} {H H' : Hp} {s : Shared} {b : Addr} (I : Inv X pins σ H s) (hb : s.heap.objs.size <= b) (hn : H' b = none) : FpOk X pins H' b := by
 refine ⟨hn, Nat.ne_of_gt (Nat.lt_of_lt_of_le I.lt hb), I.nofs hb, .inr (Nat.le_trans I.sz hb), fun x c e z => ?_, fun p hp z => ?_⟩
 ·obtain ⟨v, q⟩ := I.cell x c e
  exact absurd (Nat.lt_of_lt_of_le q.lt (by rw [z]; exact hb)) (Nat.lt_irrefl _)
 ·exact absurd (Nat.lt_of_lt_of_le (Heap.lt_size (I.pin p hp).1) (by rw [z]; exact hb)) (Nat.lt_irrefl _)
structure Turn (P : Program) (w : World) (K : Fg_) (tg : Expr) (J : It) (fp : List Addr) (it : Addr) (tn : Nat -> Heap -> Prop) : Prop where
 mem : it ∈ fp
 obj : ∀ i h, tn i h -> ∀ b ∈ fp, ∃ o, h.get? b = some o /\ ∀ v, o.data ≠ .cell v
 keep : ∀ i h h', tn i h -> (∀ b ∈ fp, ∀ o, h.get? b = some o -> h'.get? b = some o) -> tn i h'
 item : ∀ (X : Cx), X.prog = P -> X.w = w -> X.K = K -> X.calm = true -> ∀ (i : Nat) (pins : List (Addr × Obj)) (s : Shared) (σ : St) (H : Hp) (E : Value -> Shared -> Prop), Inv X pins σ H s -> (∀ b ∈ fp, FpOk X pins H b) -> tn i s.heap -> J.go i H ->
  wpAny (model P w) X.A (pyNext (.ref it)) (fun r s1 => ∃ u, r = some u /\
   wpAny (model P w) X.A (letOwnedTupleGo tg (.ref it) u) (fun _ s2 => ∃ x H', Inv X pins σ H' s2 /\ RelV x u /\ J.yld i H x H' /\ tn (i + 1) s2.heap /\ ∀ b ∈ fp, H' b = none) E s1) E s
 done : ∀ (X : Cx), X.prog = P -> X.w = w -> X.K = K -> X.calm = true -> ∀ (i : Nat) (pins : List (Addr × Obj)) (s : Shared) (σ : St) (H : Hp) (E : Value -> Shared -> Prop), Inv X pins σ H s -> (∀ b ∈ fp, FpOk X pins H b) -> tn i s.heap -> J.stop i H ->
  wpAny (model P w) X.A (pyNext (.ref it)) (fun r s1 => r = none /\ Inv X pins σ H s1) E s
 self : ∀ (A : Around) (i : Nat) (s : Shared) (Q : Value -> Shared -> Prop) (E : Value -> Shared -> Prop), tn i s.heap -> Q (.ref it) s -> wpAny (model P w) A (pyIter (.ref it)) Q E s
abbrev TI := St -> Hp -> (It -> Hp -> Prop) -> Prop
def PIE (X : Cx) (pins : List (Addr × Obj)) (σ : St) (tg : Expr) (R : It -> Hp -> Prop) (itv : Value) (s2 : Shared) : Prop :=
 ∃ (it : Addr) (fp : List Addr) (tn : Nat -> Heap -> Prop) (J : It) (H' : Hp), itv = .ref it /\ Inv X pins σ H' s2 /\ Turn X.prog X.w X.K tg J fp it tn /\ tn 0 s2.heap /\ (∀ b ∈ fp, FpOk X pins H' b) /\ R J H'
def PI (X : Cx) (tg iter : Expr) (wi : TI) : Prop :=
 ∀ (pins : List (Addr × Obj)) (s : Shared) (σ : St) (H : Hp) (R : It -> Hp -> Prop), Inv X pins σ H s -> wi σ H R ->
  wpAny (model X.prog X.w) X.A (eval iter X.env) (fun v s1 => wpAny (model X.prog X.w) X.A (pyIter v) (PIE X pins σ tg R) X.xe s1) X.xe s
theorem go_of {M : Model} {A : Around} {E : Value -> Shared -> Prop} {s : Shared} {tg : Expr} {it : Addr} {u : Value} {o : Obj} {n : String} {vs : Array Value} {Q : Unit -> Shared -> Prop} (ho : s.heap.get? it = some o) (hc : o.cls = .type n) (hd : o.data = .fields vs)
  (hn : ["enumerate", "zip", "dict_itemiterator", "dict_reverseitemiterator", "odict_iterator", "itertools.zip_longest", "itertools.pairwise"].contains n = false) (hQ : Q () s) : wpAny M A (letOwnedTupleGo tg (.ref it) u) Q E s := by
 unfold letOwnedTupleGo
 cases tg <;> first
  | exact wpAny_pure hQ
  | (cases u <;> first
    | exact wpAny_pure hQ
    | (refine wpAny_bind (wpAny_load ho ?_)
       rw [hc, hd]
       show wpAny M A (if (["enumerate", "zip", "dict_itemiterator", "dict_reverseitemiterator", "odict_iterator", "itertools.zip_longest", "itertools.pairwise"].contains n && vs[0]? == some (rawInt _)) = true then _ else _) Q E s
       rw [if_neg (by intro h; rw [hn, Bool.false_and] at h; cases h)]
       exact wpAny_pure hQ))
def Itl (K : Fg_) (a : Addr) : It :=
 ⟨fun i H => ∃ xs x, SqL K H a xs /\ xs[i]? = some x, fun i H x H' => H' = H /\ ∀ xs, SqL K H a xs -> xs[i]? = some x, fun i H => ∃ xs, SqL K H a xs /\ xs.length <= i⟩
theorem turn_list {P : Program} {w : World} {K : Fg_} {tg : Expr} (a it : Addr) : Turn P w K tg (Itl K a) [it] it (fun i h => h.IsListIter it a i) where
 mem := by simp
 obj := fun i h st b hb => by
  have e : b = it := by simpa using hb
  subst e
  obtain ⟨o, e, c, d⟩ := st
  exact ⟨o, e, fun v z => by rw [d] at z; cases z⟩
 keep := fun i h h' st k => st.at fun o e => k it (by simp) o e
 item := by
  intro X hP hw hK hc i pins s σ H E I hf st hg
  subst hP hw hK
  obtain ⟨xs, x, hq, hx⟩ := hg
  obtain ⟨its, rv, p, hz⟩ := I.list hq
  obtain ⟨u, hu, ru⟩ := rv.get hx
  obtain ⟨f0, f1, f2, f3, f4, f5⟩ := hf it (by simp)
  refine wpAny_pyNext_list_item st p.isList (x := u) (by simpa using hu) fun h' st' sb => ?_
  have I1 : Inv X pins σ H { s with heap := h' } := I.turned (t' := s.toks) (fun b o hb e => (sb.2 b hb).trans e) f0 f1 f3 f4 f5
  obtain ⟨o, e, c, d⟩ := id st'
  exact ⟨u, rfl, go_of (s := { s with heap := h' }) e c d (by decide) ⟨x, H, I1, ru, ⟨rfl, fun ys hy => by rw [I.list_inj hy hq]; exact hx⟩, st', fun b hb => (hf b hb).1⟩⟩
 done := by
  intro X hP hw hK hc i pins s σ H E I hf st hg
  subst hP hw hK
  obtain ⟨xs, hq, hx⟩ := hg
  obtain ⟨its, rv, p, hz⟩ := I.list hq
  obtain ⟨f0, f1, f2, f3, f4, f5⟩ := hf it (by simp)
  have hl := rv.length
  exact wpAny_pyNext_list_end (I.ok.hd hc) st p.isList (by simp; omega) fun h' eb => ⟨rfl, I.turned (t' := s.toks) (fun b o hb e => eb b o hb e) f0 f1 f3 f4 f5⟩
 self := fun _ _ _ _ _ st h => wpAny_pyIter_listiter st h
end L2
namespace L2
open PySem PySem.Spec PyProof.Rows
section
variable {X : Cx} {tg : Expr}
def iList (K : Fg_) (tl : TE) : TI := fun σ H R => tl σ H fun x H1 => ∃ a, x = .ref a /\ (∃ xs, SqL K H1 a xs) /\ R (Itl K a) H1
theorem pi_list {l : Expr} {tl : TE} (hl : PE X l tl) : PI X tg l (iList X.K tl) := by
 intro pins s σ H R I h
 refine thn (hl pins s σ H _ I h) fun v s1 ⟨x, H1, I1, r1, q1⟩ => ?_
 obtain ⟨a, e, ⟨xs, hq⟩, q⟩ := q1
 subst e
 cases r1
 obtain ⟨its, rv, p, hz⟩ := I1.list hq
 refine wpAny_pyIter_list p.isList ?_
 refine ⟨s1.heap.objs.size, [s1.heap.objs.size], _, _, H1, rfl, I1.kept (t' := s1.toks) fun b o e => Heap.get?_push_of_some _ e, turn_list a _, ⟨_, Heap.get?_push_size _ rfl, rfl, rfl⟩, fun b hb => ?_, q⟩
 have e : b = s1.heap.objs.size := by simpa using hb
 subst e
 exact I1.fpOk (Nat.le_refl _) (I1.hok.fresh (Nat.le_refl _))
def tFor (wi : TI) (g : TG) (tb : TS) : TS := fun D σ H => wi σ H fun J H1 => ∃ W : Nat -> Nat -> St -> Hp -> Prop, (∃ m, W 0 m σ H1) /\ ∀ i m σ H, W i m σ H ->
 (J.stop i H /\ D.nx σ H) \/ (J.go i H /\ ∃ N : St -> Hp -> Prop, (∀ σ' H', N σ' H' -> ∃ m', m' < m /\ W (i + 1) m' σ' H') /\ ∀ x H', J.yld i H x H' -> g x σ H' fun σ2 H2 => tb { D with nx := N, ct := N, bk := D.nx } σ2 H2)
def pinsAt (fp : List Addr) (h : Heap) : List (Addr × Obj) := fp.filterMap fun b => (h.get? b).map fun o => (b, o)
theorem mem_pinsAt {fp : List Addr} {h : Heap} {b : Addr} {o : Obj} (hb : b ∈ fp) (e : h.get? b = some o) : (b, o) ∈ pinsAt fp h := List.mem_filterMap.mpr ⟨b, hb, by rw [e]; rfl⟩
theorem of_pinsAt {fp : List Addr} {h : Heap} {p : Addr × Obj} (hp : p ∈ pinsAt fp h) : p.1 ∈ fp /\ h.get? p.1 = some p.2 := by
 obtain ⟨b, hb, e⟩ := List.mem_filterMap.mp hp
 cases q : h.get? b with
 | none => rw [q] at e; cases e
 | some o =>
  rw [q] at e
  have e' : (b, o) = p := Option.some.inj e
  subst e'
  exact ⟨hb, q⟩
theorem Inv.pinned {pins : List (Addr × Obj)} {σ : St} {H : Hp} {s : Shared} {fp : List Addr} (I : Inv X pins σ H s) (hf : ∀ b ∈ fp, FpOk X pins H b) (ho : ∀ b ∈ fp, ∃ o, s.heap.get? b = some o /\ ∀ v, o.data ≠ .cell v) : Inv X (pins ++ pinsAt fp s.heap) σ H s :=
 I.pins_of fun p hp => (List.mem_append.mp hp).elim (fun z => I.pin p (List.mem_append_right _ z)) fun z => by
  obtain ⟨hb, e⟩ := of_pinsAt z
  obtain ⟨f0, f1, f2, _⟩ := hf p.1 hb
  obtain ⟨o, e', d⟩ := ho p.1 hb
  rw [e] at e'; cases e'
  exact ⟨e, f0, f1, f2, d⟩
theorem Inv.unpinned {pins pl : List (Addr × Obj)} {σ : St} {H : Hp} {s : Shared} (I : Inv X (pins ++ pl) σ H s) : Inv X pins σ H s := I.pins_of fun p hp => I.pin p (List.mem_append_right _ (List.mem_append_left _ hp))
theorem ps_for {iter : Expr} {body : List Stmt} {wi : TI} {g : TG} {tb : TS} {pos : Pos} (hp : PassesOwn (model X.prog X.w) X.A X.env X.xe) (hc : X.calm = true) (hi : PI X tg iter wi) (hg : PG X tg g) (hb : PSs X body tb)
  (hs : ∀ x, foldedSetIterable iter X.env x = pure x := by intro _; rfl) : PS X (.For tg iter body [] pos) (tFor wi g tb) := by
 intro pins s σ H D I h
 refine wpAny_For (thn (hi pins s σ H _ I h) fun v s1 h1 => thn h1 fun itv s2 h2 => ?_) hs
 obtain ⟨it, fp, tn, J, H2, e, I2, T, st2, f2, W, ⟨m0, w0⟩, turn⟩ := h2
 subst e
 have stat : ∀ {H' : Hp}, (∀ b ∈ fp, H' b = none) -> ∀ b ∈ fp, FpOk X pins H' b := fun hn b hb => ⟨hn b hb, (f2 b hb).2⟩
 refine codeAny_forLoop_any (fun n s' => ∃ i σ' H', Inv X pins σ' H' s' /\ tn i s'.heap /\ (∀ b ∈ fp, H' b = none) /\ W i n σ' H') ?_ m0 ⟨0, σ, H2, I2, st2, fun b hb => (f2 b hb).1, w0⟩
 rintro n s3 ⟨i, σ3, H3, I3, st3, fr3, w3⟩
 rcases turn i n σ3 H3 w3 with ⟨stop, qn⟩ | ⟨go, N, hN, step⟩
 ·refine wpAny_passesOwn hp (thn (T.done X rfl rfl rfl hc i pins s3 σ3 H3 X.xe I3 (stat fr3) st3 stop) fun r s4 ⟨hr, I4⟩ => ?_)
  subst hr
  exact wpAny_execs_nil ⟨σ3, H3, I4, qn⟩
 ·refine wpAny_passesOwn hp (thn (T.item X rfl rfl rfl hc i pins s3 σ3 H3 X.xe I3 (stat fr3) st3 go) fun r s4 ⟨u, hr, h4⟩ => ?_)
  subst hr
  refine wpAny_passesOwn hp (thn h4 fun _ s5 ⟨x, H5, I5, r5, y5, st5, fr5⟩ => ?_)
  have I5' := I5.pinned (stat fr5) (T.obj _ _ st5)
  refine wpAny_passesOwn hp (thn (hg _ s5 σ3 H5 x u _ I5' r5 (step x H5 y5)) fun _ s6 ⟨σ6, H6, I6, q6⟩ => ?_)
  refine wpAny_passesOwn hp (thn (hb _ s6 σ6 H6 _ I6 q6) fun f s7 q7 => ?_)
  have again : ∀ {σ7 : St} {H7 : Hp}, Inv X (pins ++ pinsAt fp s5.heap) σ7 H7 s7 -> N σ7 H7 -> ∃ m, m < n /\ ∃ i σ' H', Inv X pins σ' H' s7 /\ tn i s7.heap /\ (∀ b ∈ fp, H' b = none) /\ W i m σ' H' := fun {σ7 H7} I7 n7 => by
   obtain ⟨m', hm, w7⟩ := hN σ7 H7 n7
   refine ⟨m', hm, i + 1, σ7, H7, I7.unpinned, T.keep _ _ _ st5 fun b hb o e => (I7.pin (b, o) (List.mem_append_right _ (List.mem_append_right _ (mem_pinsAt hb e)))).1, fun b hb => ?_, w7⟩
   obtain ⟨o, e, d⟩ := T.obj _ _ st5 b hb
   exact (I7.pin (b, o) (List.mem_append_right _ (List.mem_append_right _ (mem_pinsAt hb e)))).2.1
  cases f with
  | next => obtain ⟨σ7, H7, I7, n7⟩ := q7; exact again I7 n7
  | cont => obtain ⟨σ7, H7, I7, n7⟩ := q7; exact again I7 n7
  | brk => obtain ⟨σ7, H7, I7, q7⟩ := q7; exact ⟨σ7, H7, I7.unpinned, q7⟩
  | ret v => obtain ⟨x7, σ7, H7, I7, r7, q7⟩ := q7; exact ⟨x7, σ7, H7, I7.unpinned, r7, q7⟩
end
theorem for_list {K : Fg_} {a : Addr} {xs : List V} {g : TG} {tb : TS} {D : Ends} {σ : St} {H : Hp} (Pv : Nat -> St -> Hp -> Prop) (h0 : Pv 0 σ H) (hl : ∀ i σ H, i <= xs.length -> Pv i σ H -> SqL K H a xs)
  (hs : ∀ i x σ H, xs[i]? = some x -> Pv i σ H -> g x σ H fun σ2 H2 => tb { D with nx := Pv (i + 1), ct := Pv (i + 1), bk := D.nx } σ2 H2) (hd : ∀ σ H, Pv xs.length σ H -> D.nx σ H) :
  ∃ W : Nat -> Nat -> St -> Hp -> Prop, (∃ m, W 0 m σ H) /\ ∀ i m σ H, W i m σ H ->
   ((Itl K a).stop i H /\ D.nx σ H) \/ ((Itl K a).go i H /\ ∃ N : St -> Hp -> Prop, (∀ σ' H', N σ' H' -> ∃ m', m' < m /\ W (i + 1) m' σ' H') /\ ∀ x H', (Itl K a).yld i H x H' -> g x σ H' fun σ2 H2 => tb { D with nx := N, ct := N, bk := D.nx } σ2 H2) := by
 refine ⟨fun i m σ H => m = xs.length - i /\ i <= xs.length /\ Pv i σ H, ⟨xs.length, by simp, Nat.zero_le _, h0⟩, ?_⟩
 rintro i m σ H ⟨rfl, hi, p⟩
 have q := hl i σ H hi p
 by_cases hlt : i < xs.length
 ·refine .inr ⟨⟨xs, xs[i], q, by simp [hlt]⟩, Pv (i + 1), fun σ' H' p' => ⟨xs.length - (i + 1), by omega, rfl, hlt, p'⟩, fun x H' y => ?_⟩
  obtain ⟨e, y⟩ := y
  subst e
  exact hs i x σ _ (y xs q) p
 ·have e : i = xs.length := by omega
  subst e
  exact .inl ⟨⟨xs, q, Nat.le_refl _⟩, hd σ H p⟩
end L2
namespace L2
open PySem PySem.Spec PyProof.Rows
abbrev R2 := V -> V -> Hp -> VK -> Prop
def OpR (X : Cx) (f : Value -> Value -> Sem Value) (r : R2) : Prop :=
 ∀ (pins : List (Addr × Obj)) (s : Shared) (σ : St) (H : Hp) (x y : V) (v u : Value) (Q : VK), Inv X pins σ H s -> RelV x v -> RelV y u -> r x y H Q ->
  wpAny (model X.prog X.w) X.A (f v u) (EP X pins σ Q) X.xe s
def UnR (X : Cx) (f : Value -> Sem Value) (r : V -> Hp -> VK -> Prop) : Prop :=
 ∀ (pins : List (Addr × Obj)) (s : Shared) (σ : St) (H : Hp) (x : V) (v : Value) (Q : VK), Inv X pins σ H s -> RelV x v -> r x H Q ->
  wpAny (model X.prog X.w) X.A (f v) (EP X pins σ Q) X.xe s
def CallR (X : Cx) (f : Value) (r : List V -> Hp -> VK -> Prop) : Prop :=
 ∀ (pins : List (Addr × Obj)) (s : Shared) (σ : St) (H : Hp) (xs : List V) (us : List Value) (Q : VK), Inv X pins σ H s -> Vals xs us -> r xs H Q ->
  wpAny (model X.prog X.w) X.A (call f us) (EP X pins σ Q) X.xe s
def tOp (r : R2) (ta tb : TE) : TE := fun σ H Q => ta σ H fun x H1 => tb σ H1 fun y H2 => r x y H2 Q
def tUn (r : V -> Hp -> VK -> Prop) (ta : TE) : TE := fun σ H Q => ta σ H fun x H1 => r x H1 Q
def rI (C : Int -> Int -> Prop) (g : Int -> Int -> V) : R2 := fun x y H Q => ∃ i j, x = .int i /\ y = .int j /\ C i j /\ Q (g i j) H
def rI0 (g : Int -> Int -> V) : R2 := fun x y H Q => ∃ i j, x = .int i /\ y = .int j /\ Q (g i j) H
def rU (g : Int -> V) : V -> Hp -> VK -> Prop := fun x H Q => ∃ i, x = .int i /\ Q (g i) H
section
variable {X : Cx} {a b c : Expr} {ta tb tc : TE} {pos : Pos}
theorem binT (ha : PE X a ta) (hb : PE X b tb) {pins : List (Addr × Obj)} {s : Shared} {σ : St} {H : Hp} {R : V -> V -> Hp -> Prop} (I : Inv X pins σ H s)
  (h : ta σ H fun x H1 => tb σ H1 fun y H2 => R x y H2) {Q : Value -> Shared -> Prop} {f : Value -> Value -> Sem Value}
  (hf : ∀ v u s2 x y H2, Inv X pins σ H2 s2 -> RelV x v -> RelV y u -> R x y H2 -> wpAny (model X.prog X.w) X.A (f v u) Q X.xe s2) :
  wpAny (model X.prog X.w) X.A (eval a X.env) (fun v s₁ => wpAny (model X.prog X.w) X.A (eval b X.env) (fun u s₂ => wpAny (model X.prog X.w) X.A (f v u) Q X.xe s₂) X.xe s₁) X.xe s := by
 refine thn (ha pins s σ H _ I h) fun v s1 ⟨x, H1, I1, r1, q1⟩ => ?_
 refine thn (hb pins s1 σ H1 _ I1 q1) fun u s2 ⟨y, H2, I2, r2, q2⟩ => ?_
 exact hf v u s2 x y H2 I2 r1 r2 q2
theorem pe_op {op : Operator} {r : R2} (ho : OpR X (binaryOp op) r) (ha : PE X a ta) (hb : PE X b tb) : PE X (.BinOp a op b pos) (tOp r ta tb) := by
 intro pins s σ H Q I h
 exact wpAny_BinOp (binT ha hb I h fun v u s2 x y H2 I2 rx ry q => ho pins s2 σ H2 x y v u Q I2 rx ry q)
theorem pe_un {op : UnaryOp} {r : V -> Hp -> VK -> Prop} (ho : UnR X (unaryOp op) r) (ha : PE X a ta) : PE X (.UnaryOp op a pos) (tUn r ta) := by
 intro pins s σ H Q I h
 exact UnaryOp_ (thn (ha pins s σ H _ I h) fun v s1 ⟨x, H1, I1, r1, q1⟩ => ho pins s1 σ H1 x v Q I1 r1 q1)
theorem opI {f : Value -> Value -> Sem Value} {C : Int -> Int -> Prop} {g : Int -> Int -> Int}
  (rule : ∀ (i j : Int) (t u : Tok) (s : Shared) (Q : Value -> Shared -> Prop) (E : Value -> Shared -> Prop), C i j -> Q (.int (g i j) s.toks) { s with toks := s.toks + 1 } -> wpAny (model X.prog X.w) X.A (f (.int i t) (.int j u)) Q E s) :
  OpR X f (rI C fun i j => .int (g i j)) := by
 intro pins s σ H x y v u Q I rx ry h
 obtain ⟨i, j, rfl, rfl, hc, q⟩ := h
 obtain ⟨t, rfl⟩ := rx
 obtain ⟨t', rfl⟩ := ry
 exact rule i j t t' s _ _ hc ⟨.int (g i j), H, I.tok _, ⟨_, rfl⟩, q⟩
theorem opI0 {f : Value -> Value -> Sem Value} {g : Int -> Int -> Int}
  (rule : ∀ (i j : Int) (t u : Tok) (s : Shared) (Q : Value -> Shared -> Prop) (E : Value -> Shared -> Prop), Q (.int (g i j) s.toks) { s with toks := s.toks + 1 } -> wpAny (model X.prog X.w) X.A (f (.int i t) (.int j u)) Q E s) :
  OpR X f (rI0 fun i j => .int (g i j)) := by
 intro pins s σ H x y v u Q I rx ry h
 obtain ⟨i, j, rfl, rfl, q⟩ := h
 obtain ⟨t, rfl⟩ := rx
 obtain ⟨t', rfl⟩ := ry
 exact rule i j t t' s _ _ ⟨.int (g i j), H, I.tok _, ⟨_, rfl⟩, q⟩
theorem opB0 {f : Value -> Value -> Sem Value} {g : Int -> Int -> Bool}
  (rule : ∀ (i j : Int) (t u : Tok) (s : Shared) (Q : Value -> Shared -> Prop) (E : Value -> Shared -> Prop), Q (.bool (g i j)) s -> wpAny (model X.prog X.w) X.A (f (.int i t) (.int j u)) Q E s) :
  OpR X f (rI0 fun i j => .bl (g i j)) := by
 intro pins s σ H x y v u Q I rx ry h
 obtain ⟨i, j, rfl, rfl, q⟩ := h
 obtain ⟨t, rfl⟩ := rx
 obtain ⟨t', rfl⟩ := ry
 exact rule i j t t' s _ _ ⟨.bl (g i j), H, I, rfl, q⟩
def CPow (i j : Int) : Prop := 0 <= j /\ j <= 1000000 /\ i.natAbs < 2 ^ 64
def CMul (i j : Int) : Prop := (-(2 ^ 64) < i /\ i < 2 ^ 64) \/ (-(2 ^ 64) < j /\ j < 2 ^ 64)
theorem CMul.ok {i j : Int} (h : CMul i j) : IntMulOk i j := by
 rcases h with ⟨h1, h2⟩ | ⟨h1, h2⟩
 ·exact .of_left (intBits_le_64 h1 h2)
 ·exact .of_right (intBits_le_64 h1 h2)
theorem op_add : OpR X (binaryOp .Add) (rI0 fun i j => .int (i + j)) := opI0 fun _ _ _ _ _ _ _ q => add_int q
theorem op_sub : OpR X (binaryOp .Sub) (rI0 fun i j => .int (i - j)) := opI0 fun _ _ _ _ _ _ _ q => sub_int q
theorem op_mod : OpR X (binaryOp .Mod) (rI (fun _ j => 0 < j) fun i j => .int (i % j)) := opI fun i j _ _ _ _ _ hc q => by
 have h1 : (0 : Int) < j := hc
 exact mod_int' (by omega) (by rw [Int.fmod_eq_emod_of_nonneg i (by omega)]; exact q)
theorem op_pow : OpR X (binaryOp .Pow) (rI CPow fun i j => .int (i ^ j.toNat)) := opI fun _ _ _ _ _ _ _ hc q => pow_int_small hc.1 hc.2.1 hc.2.2 q
theorem unI {f : Value -> Sem Value} {g : Int -> Int}
  (rule : ∀ (i : Int) (t : Tok) (s : Shared) (Q : Value -> Shared -> Prop) (E : Value -> Shared -> Prop), Q (.int (g i) s.toks) { s with toks := s.toks + 1 } -> wpAny (model X.prog X.w) X.A (f (.int i t)) Q E s) :
  UnR X f (rU fun i => .int (g i)) := by
 intro pins s σ H x v Q I rx h
 obtain ⟨i, rfl, q⟩ := h
 obtain ⟨t, rfl⟩ := rx
 exact rule i t s _ _ ⟨.int (g i), H, I.tok _, ⟨_, rfl⟩, q⟩
theorem un_neg : UnR X (unaryOp .USub) (rU fun i => .int (-i)) := unI fun _ _ _ _ _ q => neg_int q
end
def scal : V -> V -> Bool
 | .non, .non => true | .non, .int _ => true | .int _, .non => true | .non, .bl _ => true | .bl _, .non => true | .non, .str _ => true | .str _, .non => true
 | .int _, .int _ => true | .bl _, .bl _ => true | .str _, .str _ => true | .byt _, .byt _ => true
 | .int _, .str _ => true | .str _, .int _ => true | .bl _, .str _ => true | .str _, .bl _ => true
 | _, _ => false
def rEq : R2 := fun x y H Q => scal x y = true /\ Q (.bl (decide (x = y))) H
def rNe : R2 := fun x y H Q => scal x y = true /\ Q (.bl (!decide (x = y))) H
theorem dec_int {i j : Int} : decide (V.int i = V.int j) = (i == j) := by
 rw [Bool.eq_iff_iff]
 simp
theorem dec_bl {i j : Bool} : decide (V.bl i = V.bl j) = (i == j) := by
 rw [Bool.eq_iff_iff]
 simp
theorem dec_str {i j : Str} : decide (V.str i = V.str j) = (i == j) := by
 rw [Bool.eq_iff_iff]
 simp
theorem dec_byt {i j : Array UInt8} : decide (V.byt i = V.byt j) = (i.toList == j.toList) := by
 rw [Bool.eq_iff_iff]
 cases i
 cases j
 simp
section
variable {X : Cx} {a b c : Expr} {ta tb tc : TE} {pos : Pos}
theorem fin_bl {pins : List (Addr × Obj)} {σ : St} {H : Hp} {s : Shared} {Q : VK} {k k' : Bool} (I : Inv X pins σ H s) (q : Q (.bl k) H) (e : k = k') : EP X pins σ Q (.bool k') s := by
 subst e
 exact ⟨.bl k, H, I, rfl, q⟩
theorem op_eq : OpR X (compareOp .Eq) rEq := by
 intro pins s σ H x y v u Q I rx ry h
 obtain ⟨hs, q⟩ := h
 cases x with
 | non =>
  cases rx
  cases y with
  | non => cases ry; exact PySem.EqNone.eq_none_none (fin_bl I q (by simp))
  | bl j => cases ry; exact PySem.EqNone.eq_none_bool (fin_bl I q (by simp))
  | int j => obtain ⟨t', rfl⟩ := ry; exact PySem.EqNone.eq_none_int (fin_bl I q (by simp))
  | str j => obtain ⟨t', rfl⟩ := ry; exact PySem.EqNone.eq_none_str (fin_bl I q (by simp))
  | _ => exact absurd (show false = true from hs) Bool.false_ne_true
 | bl i =>
  cases rx
  cases y with
  | non => cases ry; exact PySem.EqNone.eq_bool_none (fin_bl I q (by simp))
  | bl j => cases ry; exact eq_bool (fin_bl I q dec_bl)
  | str j => obtain ⟨t', rfl⟩ := ry; exact PySem.EqMixed.eq_bool_str (fin_bl I q (by simp))
  | _ => exact absurd (show false = true from hs) Bool.false_ne_true
 | int i =>
  obtain ⟨t, rfl⟩ := rx
  cases y with
  | non => cases ry; exact PySem.EqNone.eq_int_none (fin_bl I q (by simp))
  | int j => obtain ⟨t', rfl⟩ := ry; exact eq_int (fin_bl I q dec_int)
  | str j => obtain ⟨t', rfl⟩ := ry; exact PySem.EqMixed.eq_int_str (fin_bl I q (by simp))
  | _ => exact absurd (show false = true from hs) Bool.false_ne_true
 | str i =>
  obtain ⟨t, rfl⟩ := rx
  cases y with
  | non => cases ry; exact PySem.EqNone.eq_str_none (fin_bl I q (by simp))
  | bl j => cases ry; exact PySem.EqMixed.eq_str_bool (fin_bl I q (by simp))
  | int j => obtain ⟨t', rfl⟩ := ry; exact PySem.EqMixed.eq_str_int (fin_bl I q (by simp))
  | str j => obtain ⟨t', rfl⟩ := ry; exact eq_str (fin_bl I q dec_str)
  | _ => exact absurd (show false = true from hs) Bool.false_ne_true
 | byt i =>
  obtain ⟨t, rfl⟩ := rx
  cases y with
  | byt j => obtain ⟨t', rfl⟩ := ry; exact PySem.W.eq_bytes (fin_bl I q dec_byt)
  | _ => exact absurd (show false = true from hs) Bool.false_ne_true
 | _ => cases y <;> exact absurd (show false = true from hs) Bool.false_ne_true
theorem op_ne : OpR X (compareOp .NotEq) rNe := by
 intro pins s σ H x y v u Q I rx ry h
 obtain ⟨hs, q⟩ := h
 cases x with
 | non =>
  cases rx
  cases y with
  | non => cases ry; exact PySem.EqNone.ne_none_none (fin_bl I q (by simp))
  | bl j => cases ry; exact PySem.EqNone.ne_none_bool (fin_bl I q (by simp))
  | int j => obtain ⟨t', rfl⟩ := ry; exact PySem.EqNone.ne_none_int (fin_bl I q (by simp))
  | str j => obtain ⟨t', rfl⟩ := ry; exact PySem.EqNone.ne_none_str (fin_bl I q (by simp))
  | _ => exact absurd (show false = true from hs) Bool.false_ne_true
 | bl i =>
  cases rx
  cases y with
  | non => cases ry; exact PySem.EqNone.ne_bool_none (fin_bl I q (by simp))
  | bl j => cases ry; exact ne_bool (fin_bl I q (congrArg not dec_bl))
  | str j => obtain ⟨t', rfl⟩ := ry; exact PySem.EqMixed.ne_bool_str (fin_bl I q (by simp))
  | _ => exact absurd (show false = true from hs) Bool.false_ne_true
 | int i =>
  obtain ⟨t, rfl⟩ := rx
  cases y with
  | non => cases ry; exact PySem.EqNone.ne_int_none (fin_bl I q (by simp))
  | int j => obtain ⟨t', rfl⟩ := ry; exact ne_int (fin_bl I q (congrArg not dec_int))
  | str j => obtain ⟨t', rfl⟩ := ry; exact PySem.EqMixed.ne_int_str (fin_bl I q (by simp))
  | _ => exact absurd (show false = true from hs) Bool.false_ne_true
 | str i =>
  obtain ⟨t, rfl⟩ := rx
  cases y with
  | non => cases ry; exact PySem.EqNone.ne_str_none (fin_bl I q (by simp))
  | bl j => cases ry; exact PySem.EqMixed.ne_str_bool (fin_bl I q (by simp))
  | int j => obtain ⟨t', rfl⟩ := ry; exact PySem.EqMixed.ne_str_int (fin_bl I q (by simp))
  | str j => obtain ⟨t', rfl⟩ := ry; exact ne_str (fin_bl I q (congrArg not dec_str))
  | _ => exact absurd (show false = true from hs) Bool.false_ne_true
 | byt i =>
  obtain ⟨t, rfl⟩ := rx
  cases y with
  | byt j => obtain ⟨t', rfl⟩ := ry; exact PySem.W.ne_bytes (fin_bl I q (congrArg not dec_byt))
  | _ => exact absurd (show false = true from hs) Bool.false_ne_true
 | _ => cases y <;> exact absurd (show false = true from hs) Bool.false_ne_true
theorem op_lt : OpR X (compareOp .Lt) (rI0 fun i j => .bl (decide (i < j))) := opB0 fun _ _ _ _ _ _ _ q => lt_int q
theorem op_gt : OpR X (compareOp .Gt) (rI0 fun i j => .bl (decide (j < i))) := opB0 fun _ _ _ _ _ _ _ q => gt_int q
theorem op_isN : OpR X (compareOp .Is) (fun x y H Q => y = .non /\ Q (.bl (decide (x = .non))) H) := by
 intro pins s σ H x y v u Q I rx ry h
 obtain ⟨rfl, q⟩ := h
 cases ry
 refine is_none_gen (fin_bl I q ?_)
 cases x <;> first
  | (cases rx; rfl)
  | (obtain ⟨t, rfl⟩ := rx; rfl)
theorem op_notN : OpR X (compareOp .IsNot) (fun x y H Q => y = .non /\ Q (.bl (!decide (x = .non))) H) := by
 intro pins s σ H x y v u Q I rx ry h
 obtain ⟨rfl, q⟩ := h
 cases ry
 refine isnot_none_gen (fin_bl I q ?_)
 cases x <;> first
  | (cases rx; rfl)
  | (obtain ⟨t, rfl⟩ := rx; rfl)
theorem nomark (b : Expr) {op : CmpOp} (h : op ≠ .In := by decide) (h2 : op ≠ .NotIn := by decide) : behindInMarks op b = false := by
 have e1 : (op == CmpOp.In) = false := by cases op <;> first | rfl | exact absurd rfl h
 have e2 : (op == CmpOp.NotIn) = false := by cases op <;> first | rfl | exact absurd rfl h2
 cases b <;> simp [behindInMarks, e1, e2]
theorem pe_cmpR {op : CmpOp} {r : R2} (ho : OpR X (compareOp op) r) (ha : PE X a ta) (hb : PE X b tb) (hm : behindInMarks op b = false) : PE X (.Compare a [op] [b] pos) (tOp r ta tb) := by
 intro pins s σ H Q I h
 exact wpAny_Compare1 (binT ha hb I h fun v u s2 x y H2 I2 rx ry q => ho pins s2 σ H2 x y v u Q I2 rx ry q) hm
def tTest (t : TE) : TT := fun σ H Q => t σ H fun x H' => ∃ k, x = .bl k /\ Q k H'
theorem pt_cmpR {op : CmpOp} {r : R2} (ho : OpR X (compareOp op) r) (ha : PE X a ta) (hb : PE X b tb) (hm : behindInMarks op b = false) : PT X (.Compare a [op] [b] pos) (tTest (tOp r ta tb)) := by
 intro pins s σ H Q I h
 refine wpAny_isTrue_Compare1 (thn (ha pins s σ H _ I h) fun v s1 ⟨x, H1, I1, r1, q1⟩ => thn (hb pins s1 σ H1 _ I1 q1) fun u s2 ⟨y, H2, I2, r2, q2⟩ =>
  thn (ho pins s2 σ H2 x y v u _ I2 r1 r2 q2) fun c s3 ⟨z, H3, I3, r3, k, e, q3⟩ => ?_) hm
 subst e
 cases r3
 exact wpAny_truthy_bool ⟨H3, I3, q3⟩
def tChain (r r' : R2) (ta tb tc : TE) : TE := fun σ H Q => ta σ H fun x H1 => tb σ H1 fun y H2 => r x y H2 fun z H3 => ∃ k, z = .bl k /\
 (if k = true then tc σ H3 fun w' H4 => r' y w' H4 Q else Q (.bl false) H3)
theorem pe_chain {op op' : CmpOp} {r r' : R2} (ho : OpR X (compareOp op) r) (ho' : OpR X (compareOp op') r') (ha : PE X a ta) (hb : PE X b tb) (hc : PE X c tc)
  (hm : lastMarks [op, op'] [b, c] = false := by with_unfolding_all rfl) : PE X (.Compare a [op, op'] [b, c] pos) (tChain r r' ta tb tc) := by
 intro pins s σ H Q I h
 refine Compare_chain (thn (ha pins s σ H _ I h) fun v s1 ⟨x, H1, I1, r1, q1⟩ => chain_link (thn (hb pins s1 σ H1 _ I1 q1) fun u s2 ⟨y, H2, I2, r2, q2⟩ =>
  thn (ho pins s2 σ H2 x y v u _ I2 r1 r2 q2) fun d s3 ⟨z, H3, I3, r3, k, e, q3⟩ => ?_)) hm
 subst e
 cases r3
 refine wpAny_truthy_bool ?_
 cases k with
 | false => exact ite_ff ⟨.bl false, H3, I3, rfl, q3⟩
 | true => exact ite_tt (chain_last (thn (hc pins s3 σ H3 _ I3 q3) fun w' s4 ⟨z', H4, I4, r4, q4⟩ => ho' pins s4 σ H4 y z' u w' Q I4 r2 r4 q4))
theorem line63 : (sizeLine : Nat) < 2 ^ 63 := by rw [sizeLine_eq]; decide
theorem vals1 {x : V} {us : List Value} (r : Vals [x] us) : ∃ u, us = [u] /\ RelV x u := by
 cases r with
 | cons r1 r2 => cases r2; exact ⟨_, rfl, r1⟩
theorem vals2 {x y : V} {us : List Value} (r : Vals [x, y] us) : ∃ u w', us = [u, w'] /\ RelV x u /\ RelV y w' := by
 cases r with
 | cons r1 r2 =>
  cases r2 with
  | cons r3 r4 => cases r4; exact ⟨_, _, rfl, r1, r3⟩
theorem call_max2 (hc : X.calm = true) : CallR X (.builtin "max") (fun xs H Q => ∃ i j, xs = [.int i, .int j] /\ Q (.int (if j > i then j else i)) H) := by
 intro pins s σ H xs us Q I r h
 obtain ⟨i, j, rfl, q⟩ := h
 obtain ⟨u, w', rfl, ⟨t, rfl⟩, ⟨t', rfl⟩⟩ := vals2 r
 refine max_two_ints (I.ok.hd hc) fun h' tk k => ⟨_, H, I.kept k, ?_, q⟩
 by_cases hj : j > i
 ·rw [if_pos hj, if_pos hj]; exact ⟨_, rfl⟩
 ·rw [if_neg hj, if_neg hj]; exact ⟨_, rfl⟩
end
end L2
namespace L2
open PySem PySem.Spec PyProof.Rows
structure ObjM (h : Heap) (x dx C : Addr) (mA : Str -> Option Value) : Prop where
 obj : h.get? x = some (PySem.W.instObj C dx)
 ns : h.Ns1 dx mA
 ne : dx ≠ x
theorem lookIn_ns {h : Heap} {dx : Addr} {mA : Str -> Option Value} (n : h.Ns1 dx mA) : ∃ od, h.get? dx = some od /\ ∀ name, PySem.W.lookIn name od = some (mA name) := by
 obtain ⟨o, es, ep, ho, hd, hk, _, hm⟩ := n
 refine ⟨o, ho, fun name => ?_⟩
 have e := hm name
 unfold nsFind findBy at e
 rw [<- Array.find?_toList] at e
 unfold PySem.W.lookIn
 rw [hd]
 dsimp only
 split
 ·rename_i y q
  rw [q] at e
  exact congrArg some e
 ·rename_i q
  rw [q] at e
  have a : es.toList.any (·.refKey) = false := by
   rw [List.any_eq_false]
   intro y hy
   obtain ⟨z, t, hkey⟩ := hk y (Array.mem_toList_iff.mp hy)
   simp [DictEntry.refKey, hkey]
  have a' : ¬ es.toList.any (·.refKey) = true := by rw [a]; exact Bool.false_ne_true
  rw [if_neg a']
  exact congrArg some e
theorem ObjM.look {h : Heap} {x dx C : Addr} {mA : Str -> Option Value} (I : ObjM h x dx C mA) : ∃ od, PySem.W.InstAt h x (PySem.W.instObj C dx) C (some od) /\ ∀ name, PySem.W.lookIn name od = some (mA name) :=
 let ⟨od, ho, hl⟩ := lookIn_ns I.ns
 ⟨od, ⟨I.obj, rfl, rfl, ho⟩, hl⟩
section
variable {prog : Program} {w : World} {A : Around} {E : Value -> Shared -> Prop} {s : Shared} {K : Fg_} {x dx C f : Addr} {mA : Str -> Option Value} {name : Str} {v : Value}
theorem get_map {expr : Bool} {Q : Value -> Shared -> Prop} (X : K.In s.heap) (I : ObjM s.heap x dx C mA) (hg : PySem.W.plainGet K C name = true) (hh : PySem.W.hasDictIn K C = true)
  (ha : PySem.W.findIn K (.ref C) name = some none) (hv : mA name = some v) (hv' : PySem.W.handedIn v = true) (h : Q v { s with toks := s.toks + 1 }) :
  wpAny (model prog w) A (getAttr (.ref x) name expr) Q E s := by
 obtain ⟨od, J, hl⟩ := I.look
 exact PySem.W.get_value X J (PySem.W.plainGet_of hg).1 (PySem.W.findObj_own hh ha rfl (by rw [hl, hv])) hv' h
theorem get_meth {pl : Sem Bool} {Q : Value × List Value -> Shared -> Prop} (X : K.In s.heap) (I : ObjM s.heap x dx C mA) (hg : PySem.W.plainGet K C name = true)
  (hf : PySem.W.findIn K (.ref C) name = some (some (.ref f))) (ht : PySem.W.isFn K (.ref f) = true) (hv : mA name = none) (h : Q (.ref f, [.ref x]) s) :
  wpAny (model prog w) A (getMethod (.ref x) name pl) Q E s := by
 obtain ⟨od, J, hl⟩ := I.look
 exact PySem.W.method_fn X J (PySem.W.plainGet_of hg).1 (PySem.W.plainGet_of hg).2 hf (beq_iff_eq.mp ht) (by show (PySem.W.lookIn name od).map (·.isSome) = some false; rw [hl, hv]; rfl) h
theorem set_map {ns : List Str} {Q : Unit -> Shared -> Prop} (X : K.In s.heap) (I : ObjM s.heap x dx C mA)
  (hs : PySem.W.findIn K (.ref C) "__setattr__" = some (some (.builtin "object.__setattr__"))) (hp : PySem.W.plainOver K C = true) (ht : PySem.W.takerIn K C name = some none) (hh : PySem.W.hasDictIn K C = true)
  (hw : PySem.Within mA ns) (hsz : ns.length <= sizeLine)
  (h : ∀ h', ObjM h' x dx C (fun y => if y = name then some v else mA y) -> Heap.SameBut dx s.heap h' -> Q () { s with heap := h', toks := s.toks + 2 }) :
  wpAny (model prog w) A (setAttr (.ref x) name v) Q E s := by
 obtain ⟨od, J, hl⟩ := I.look
 refine PySem.W.set_plain X J hs (PySem.W.osa_open (s := { s with toks := s.toks + 1 }) (r := none) X J hp ht fun b => ?_)
 obtain ⟨cd, hc, hd'⟩ := PySem.W.any_some hh
 have hx : s.heap.get? x = some ⟨.ref C, some dx, .plain, #[]⟩ := I.obj
 refine wpAny_bind (wpAny_pure (wpAny_bind (wpAny_bind (wpAny_loadPart hx (wpAny_bind (PySem.W.Looks.here (s := { s with toks := s.toks + 1 }) (PySem.W.looks_clsIn X hc) ?_))))))
 rw [hd']
 refine wpAny_pure (a := some dx) (wpAny_bind (wpAny_pure (wpAny_bind ?_)))
 refine wpAny_nsSet1 (s := { s with toks := s.toks + 1 }) I.ns fun h' hn2 hs2 => ?_
 obtain ⟨oD, esD, epD, hoD, hdD, hcD⟩ := hn2.count (PySem.Within.cons name v hw)
 refine wpAny_bind (wpAny_lookBehind hoD (by rw [hdD]; exact pastItsLine_dict (Nat.le_trans hcD (by rw [List.length_cons]; omega))) ?_)
 exact wpAny_pure (h _ ⟨(hs2.2 _ (Ne.symm I.ne)).trans I.obj, hn2, I.ne⟩ hs2)
theorem make_map {R : Result -> Shared -> Prop} {vs : List Value} {kw : List (Str × Value)} (X : K.In s.heap) (hm : PySem.W.makesIn K C = true)
  (hi : PySem.W.findIn K (.ref C) "__init__" = some (some (.ref f))) (hf : PySem.W.typeIn K (.ref f) = some (.type "function"))
  (h : codeAny (model prog w) (A.under (.builtin "type.__call__" ⟨.ref C :: vs, kw⟩)) (.call (.ref f) ⟨.ref (s.heap.objs.size + 1) :: vs, kw⟩) (PySem.W.InitBack (s.heap.objs.size + 1) R)
   { s with heap := (s.heap.push PySem.W.emptyDict).push (PySem.W.instObj C s.heap.objs.size) }) :
  codeAny (model prog w) A (.call (.ref C) ⟨vs, kw⟩) R s := by
 obtain ⟨hh, g, d, t, os⟩ := s
 exact PySem.W.make_core (PySem.W.makes_of X hm) (PySem.W.looks_findIn X hi) (fun self => PySem.W.bind_fn X self hf) (.inl rfl) h
end
def putF (f : Str) (v : V) : List (Str × V) -> List (Str × V)
 | [] => [(f, v)]
 | (g, x) :: r => if g = f then (g, v) :: r else (g, x) :: putF f v r
theorem lookup_putF (f g : Str) (v : V) : ∀ fs : List (Str × V), (putF f v fs).lookup g = if g = f then some v else fs.lookup g
 | [] => by
  show List.lookup g [(f, v)] = _
  by_cases h : g = f
  ·have hb : (g == f) = true := beq_iff_eq.mpr h
   simp only [List.lookup, hb, if_pos h]
  ·have hb : (g == f) = false := beq_eq_false_iff_ne.mpr h
   simp only [List.lookup, hb, if_neg h]
 | (k, x) :: r => by
  have ih := lookup_putF f g v r
  rw [show putF f v ((k, x) :: r) = (if k = f then (k, v) :: r else (k, x) :: putF f v r) from rfl]
  by_cases hk : k = f
  ·rw [if_pos hk]
   by_cases h : g = k
   ·have hb : (g == k) = true := beq_iff_eq.mpr h
    simp only [List.lookup, hb, if_pos (h.trans hk)]
   ·have hb : (g == k) = false := beq_eq_false_iff_ne.mpr h
    simp only [List.lookup, hb, if_neg (fun e : g = f => h (e.trans hk.symm))]
  ·rw [if_neg hk]
   by_cases h : g = k
   ·have hb : (g == k) = true := beq_iff_eq.mpr h
    simp only [List.lookup, hb, if_neg (fun e : g = f => hk (h.symm.trans e))]
   ·have hb : (g == k) = false := beq_eq_false_iff_ne.mpr h
    simp only [List.lookup, hb]
    exact ih
theorem keys_putF (f : Str) (v : V) : ∀ fs : List (Str × V), f ∈ (putF f v fs).map (·.1) /\ ∀ g, g ∈ fs.map (·.1) -> g ∈ (putF f v fs).map (·.1)
 | [] => ⟨by simp [putF], fun g h => by simp at h⟩
 | (k, x) :: r => by
  obtain ⟨i1, i2⟩ := keys_putF f v r
  rw [show putF f v ((k, x) :: r) = (if k = f then (k, v) :: r else (k, x) :: putF f v r) from rfl]
  by_cases hk : k = f
  ·rw [if_pos hk]
   subst hk
   exact ⟨by simp, fun g h => by simpa using h⟩
  ·rw [if_neg hk]
   refine ⟨?_, fun g h => ?_⟩
   ·rw [List.map_cons]
    exact List.mem_cons_of_mem _ i1
   ·rw [List.map_cons] at h ⊢
    rcases List.mem_cons.mp h with e | e
    ·exact List.mem_cons.mpr (.inl e)
    ·exact List.mem_cons_of_mem _ (i2 g e)
theorem length_putF (f : Str) (v : V) : ∀ fs : List (Str × V), (putF f v fs).length <= fs.length + 1
 | [] => by simp [putF]
 | (k, x) :: r => by
  have ih := length_putF f v r
  rw [show putF f v ((k, x) :: r) = (if k = f then (k, v) :: r else (k, x) :: putF f v r) from rfl]
  by_cases hk : k = f
  ·rw [if_pos hk, List.length_cons, List.length_cons]; omega
  ·rw [if_neg hk, List.length_cons, List.length_cons]; omega
theorem RelO.some_of {v : V} {o : Option Value} (r : RelO (some v) o) : ∃ u, o = some u /\ RelV v u := by
 cases o with
 | none => exact (show False from r).elim
 | some u => exact ⟨u, rfl, r⟩
theorem RelO.none_of {o : Option Value} (r : RelO none o) : o = none := by
 cases o with
 | none => rfl
 | some u => exact (show False from r).elim
theorem handed_of {v : V} {u : Value} (r : RelV v u) : PySem.W.handedIn u = true := by
 cases v with
 | non => cases (show u = Value.none from r); rfl
 | bl b => cases (show u = Value.bool b from r); rfl
 | int i => obtain ⟨t, e⟩ := (show ∃ t, u = Value.int i t from r); cases e; rfl
 | str x => obtain ⟨t, e⟩ := (show ∃ t, u = Value.str x t from r); cases e; rfl
 | byt b => obtain ⟨t, e⟩ := (show ∃ t, u = Value.bytes b t from r); cases e; rfl
 | flt b => obtain ⟨t, e⟩ := (show ∃ t, u = Value.float b t from r); cases e; rfl
 | ref a => cases (show u = Value.ref a from r); rfl
 | ty n => cases (show u = Value.type n from r); rfl
section
variable {P : Program} {w : World} {H H' : Hp} {h h' : Heap} {a C dx : Addr} {fs fs' : List (Str × V)}
theorem ins_get (hok : HOk P w H h) (e : H a = some (.ins C dx fs)) : ∃ mA, ObjM h a dx C mA /\ (∀ f, RelO (fs.lookup f) (mA f)) /\ PySem.Within mA (fs.map (·.1)) /\ fs.length <= 1000 /\ H dx = some (.own a) := by
 obtain ⟨d, z, ne, ob, mA, n, r, q⟩ := (show ObjOk P w H h a (.ins C dx fs) from hok a _ e)
 exact ⟨mA, ⟨ob, n, ne⟩, r, q, z, d⟩
end
structure Cls (K : Fg_) (C : Addr) : Prop where
 pg : PySem.W.plainGet K C Str.empty = true
 hd : PySem.W.hasDictIn K C = true
 po : PySem.W.plainOver K C = true
 sa : PySem.W.findIn K (.ref C) "__setattr__" = some (some (.builtin "object.__setattr__"))
theorem Cls.get {K : Fg_} {C : Addr} (c : Cls K C) (f : Str) : PySem.W.plainGet K C f = true := c.pg
def NoAttr (K : Fg_) (C : Addr) (f : Str) : Prop := PySem.W.findIn K (.ref C) f = some none
theorem NoAttr.taker {K : Fg_} {C : Addr} {f : Str} (n : NoAttr K C f) : PySem.W.takerIn K C f = some none := by
 unfold PySem.W.takerIn
 rw [show PySem.W.findIn K (.ref C) f = some none from n]
 rfl
structure Con (K : Fg_) (C : Addr) (f : Str) (v : V) (u : Value) : Prop where
 at_ : PySem.W.findIn K (.ref C) f = some (some u)
 rel : RelV v u
 get : PySem.W.specialIn K u "__get__" = some none
 cp : PySem.W.copiedNames.contains f = false
structure Meth (K : Fg_) (C : Addr) (m : Str) (f : Addr) : Prop where
 at_ : PySem.W.findIn K (.ref C) m = some (some (.ref f))
 fn : PySem.W.isFn K (.ref f) = true
 kp : PySem.W.keepIn K (.ref f) = true
section
variable {X : Cx} {pins : List (Addr × Obj)} {σ : St} {H : Hp} {s : Shared} {a C dx : Addr} {fs : List (Str × V)} {f : Str} {v : V} {A : Around} {E : Value -> Shared -> Prop}
theorem getattr_ok {b : Bool} {Q : Value -> Shared -> Prop} (I : Inv X pins σ H s) (e : H a = some (.ins C dx fs)) (c : Cls X.K C) (n : NoAttr X.K C f) (l : fs.lookup f = some v)
  (h : ∀ u s', Inv X pins σ H s' -> RelV v u -> Q u s') : wpAny (model X.prog X.w) A (getAttr (.ref a) f b) Q E s := by
 obtain ⟨mA, O, r, _, _, _⟩ := ins_get I.hok e
 obtain ⟨u, hu, ru⟩ := RelO.some_of (v := v) (o := mA f) (by rw [<- l]; exact r f)
 exact get_map I.kIn O (c.get f) c.hd n hu (handed_of ru) (h u _ (I.tok _) ru)
theorem getmeth_ok {m : Str} {g : Addr} {pl : Sem Bool} {Q : Value × List Value -> Shared -> Prop} (I : Inv X pins σ H s) (e : H a = some (.ins C dx fs)) (c : Cls X.K C) (k : Meth X.K C m g) (l : fs.lookup m = none)
  (h : Q (.ref g, [.ref a]) s) : wpAny (model X.prog X.w) A (getMethod (.ref a) m pl) Q E s := by
 obtain ⟨mA, O, r, _, _, _⟩ := ins_get I.hok e
 have hn : mA m = none := RelO.none_of (by rw [<- l]; exact r m)
 exact get_meth I.kIn O (c.get m) k.at_ k.fn hn h
theorem setattr_ok {y : V} {u : Value} {Q : Unit -> Shared -> Prop} (I : Inv X pins σ H s) (e : H a = some (.ins C dx fs)) (c : Cls X.K C) (n : NoAttr X.K C f) (hl : fs.length < 1000) (ry : RelV y u)
  (h : ∀ s', Inv X pins σ (upd H a (.ins C dx (putF f y fs))) s' -> Q () s') : wpAny (model X.prog X.w) A (setAttr (.ref a) f u) Q E s := by
 obtain ⟨mA, O, r, wi, _, ho⟩ := ins_get I.hok e
 have hz : (fs.map (·.1)).length <= sizeLine := by rw [List.length_map, sizeLine_eq]; omega
 refine set_map I.kIn O c.sa c.po n.taker c.hd wi hz fun h' O' sb => h _ ?_
 have hd : ∃ o, h'.get? dx = some o := let ⟨o, _, _, e', _⟩ := O'.ns; ⟨o, e'⟩
 refine I.write (x := a) (e := dx) (by rw [e]; exact True.intro) (.inr ho) (fun b q hb z => (sb.2 b hb).trans z) hd ?_
 refine ⟨by rw [upd_ne O.ne]; exact ho, ?_, O.ne, O'.obj, _, O'.ns, fun g => ?_, fun g hg => ?_⟩
 ·have := length_putF f y fs; omega
 ·show RelO ((putF f y fs).lookup g) (if g = f then some u else mA g)
  rw [lookup_putF]
  by_cases q : g = f
  ·rw [if_pos q, if_pos q]; exact ry
  ·rw [if_neg q, if_neg q]; exact r g
 ·by_cases q : g = f
  ·rw [q]; exact (keys_putF f y fs).1
  ·refine (keys_putF f y fs).2 g (wi g fun z => hg ?_)
   show (if g = f then some u else mA g) = none
   rw [if_neg q]; exact z
theorem Inv.made (I : Inv X pins σ H s) : Inv X pins σ (upd (upd H s.heap.objs.size (.own (s.heap.objs.size + 1))) (s.heap.objs.size + 1) (.ins C s.heap.objs.size []))
  { s with heap := (s.heap.push PySem.W.emptyDict).push (PySem.W.instObj C s.heap.objs.size) } := by
 have e1 : (s.heap.push PySem.W.emptyDict).get? s.heap.objs.size = some PySem.W.emptyDict := Heap.get?_push_size s.heap rfl
 have e2 : ((s.heap.push PySem.W.emptyDict).push (PySem.W.instObj C s.heap.objs.size)).get? (s.heap.objs.size + 1) = some (PySem.W.instObj C s.heap.objs.size) := by
  have := Heap.get?_push_size (s.heap.push PySem.W.emptyDict) (o := PySem.W.instObj C s.heap.objs.size) rfl
  rwa [Heap.size_push] at this
 have e3 : (s.heap.push PySem.W.emptyDict).Ns s.heap.objs.size (fun _ => none) := ⟨PySem.W.emptyDict, #[], _, e1, rfl, (fun e he => absurd he (by simp)), fun _ => rfl⟩
 have I1 := I.laid (a := s.heap.objs.size) (o := .own (s.heap.objs.size + 1)) (h' := s.heap.push PySem.W.emptyDict) (t' := s.toks) (fun b u q => Heap.get?_push_of_some _ q) (Nat.le_refl _) ⟨_, e1⟩
 refine I1.laid (a := s.heap.objs.size + 1) (o := .ins C s.heap.objs.size []) (t' := s.toks) (fun b u q => Heap.get?_push_of_some _ q) (Nat.le_of_eq (Heap.size_push _ _)) ?_
 have ne : s.heap.objs.size ≠ s.heap.objs.size + 1 := Nat.ne_of_lt (Nat.lt_succ_self _)
 refine ⟨by rw [upd_ne ne, upd_same], Nat.zero_le _, ne, e2, fun _ => none, (Heap.Ns1.of_empty e3).at fun o q => Heap.get?_push_of_some _ q, fun _ => True.intro, fun y hy => absurd rfl hy⟩
theorem attr_of {prog : Program} {w : World} {env : Env} {e : Expr} {f : Str} {pos : Pos} {s : Shared} {Q : Value -> Shared -> Prop} (hb : attributeBase e f env (eval e env) = eval e env)
  (h : wpAny (model prog w) A (eval e env) (fun o s₁ => wpAny (model prog w) A (getAttr o f true) Q E s₁) E s) : wpAny (model prog w) A (eval (.Attribute e f pos) env) Q E s :=
 Attribute_any_ h (by rw [arm_eval_Attribute, hb])
end
def tFld (K : Fg_) (ta : TE) (f : Str) : TE := fun σ H Q => ta σ H fun x H1 => ∃ a C dx fs v, x = .ref a /\ H1 a = some (.ins C dx fs) /\ Cls K C /\ NoAttr K C f /\ fs.lookup f = some v /\ Q v H1
def sFld (K : Fg_) (ta tv : TE) (f : Str) : TS := fun D σ H => tv σ H fun y H1 => ta σ H1 fun x H2 => ∃ a C dx fs, x = .ref a /\ H2 a = some (.ins C dx fs) /\ Cls K C /\ NoAttr K C f /\ fs.length < 1000 /\
 D.nx σ (upd H2 a (.ins C dx (putF f y fs)))
section
variable {X : Cx} {o e value : Expr} {f : Str} {pos pos' tpos : Pos} {ta tv : TE}
theorem pe_fld (he : PE X e ta) (hb : attributeBase e f X.env (eval e X.env) = eval e X.env) : PE X (.Attribute e f pos) (tFld X.K ta f) := by
 intro pins s σ H Q I h
 refine attr_of hb (thn (he pins s σ H _ I h) fun u s1 ⟨x, H1, I1, rx, a, C, dx, fs, v, ex, ea, c, n, l, q⟩ => ?_)
 subst ex
 obtain rfl : u = Value.ref a := rx
 exact getattr_ok I1 ea c n l fun u' s2 I2 ru => ⟨v, H1, I2, ru, q⟩
theorem ps_fld (ha : PE X o ta) (hv : PE X value tv) (hs : swapsWith value (some (.Attribute o f pos')) pos.line X.env = pure false) : PS X (.Assign [.Attribute o f pos'] value pos) (sFld X.K ta tv f) := by
 intro pins s σ H D I h
 refine plainObj_wpAny_Assign_Attribute (thn (hv pins s σ H _ I h) fun u s1 ⟨y, H1, I1, ry, q⟩ => thn (ha pins s1 σ H1 _ I1 q) fun ov s2 ⟨x, H2, I2, rx, a, C, dx, fs, ex, ea, c, n, l, q2⟩ => ?_) hs
 subst ex
 obtain rfl : ov = Value.ref a := rx
 exact setattr_ok I2 ea c n l ry fun s3 I3 => ⟨σ, _, I3, q2⟩
end
section
variable {X : Cx} {pins : List (Addr × Obj)} {σ : St} {H : Hp} {s : Shared} {A : Around} {E : Value -> Shared -> Prop} {Q : Value -> Shared -> Prop} {c : Value} {b : Bool}
inductive TyOf (K : Fg_) (H : Hp) : V -> Value -> Prop where
 | non : TyOf K H .non (.type "NoneType")
 | bl (x : Bool) : TyOf K H (.bl x) (.type "bool")
 | int (i : Int) : TyOf K H (.int i) (.type "int")
 | str (x : Str) : TyOf K H (.str x) (.type "str")
 | flt (x : UInt64) : TyOf K H (.flt x) (.type "float")
 | lst {a : Addr} {xs : List V} (e : H a = some (.lst xs)) : TyOf K H (.ref a) (.type "list")
 | frz {a : Addr} {o : Obj} {xs : List V} (e : H a = some (.frz o (.lst xs))) : TyOf K H (.ref a) (.type "list")
 | tup {a : Addr} {xs : List V} (e : H a = some (.tup xs)) : TyOf K H (.ref a) (.type "tuple")
 | dK {a : Addr} {kvs : List (Key × V)} (e : H a = some (.dK kvs)) : TyOf K H (.ref a) (.type "dict")
 | dT {a : Addr} {kvs : List (List Key × V)} (e : H a = some (.dT kvs)) : TyOf K H (.ref a) (.type "dict")
 | ins {a C dx : Addr} {fs : List (Str × V)} (e : H a = some (.ins C dx fs)) (cl : Cls K C) (ha : PySem.W.findIn K (.ref C) "__class__" = some (some (.builtin "object.__class__")))
   (hn : PySem.W.specialIn K (.builtin "object.__class__") "__get__" = some (some (.builtin "getset_descriptor.__get__"))) (htk : PySem.W.takesIn K (.builtin "object.__class__") = some true)
   (hm : PySem.W.mroIn K C (.type "object") = some true) : TyOf K H (.ref a) (.ref C)
theorem isinst_ok {x : V} {u t : Value} (I : Inv X pins σ H s) (rx : RelV x u) (ty : TyOf X.K H x t) (e : PySem.W.kitOne X.K t c = some b) (h : ∀ tk, Q (.bool b) { s with toks := tk }) :
  wpAny (model X.prog X.w) A (call (.builtin "isinstance") [u, c]) Q E s := by
 cases ty with
 | non => cases (show u = Value.none from rx); exact PySem.W.kia_one PySem.W.kitx_none I.kIn True.intro e (fun z => nomatch z) h
 | bl y => cases (show u = Value.bool y from rx); exact PySem.W.kia_one PySem.W.kitx_bool I.kIn True.intro e (fun z => nomatch z) h
 | int i => obtain ⟨t, q⟩ := (show ∃ t, u = Value.int i t from rx); cases q; exact PySem.W.kia_one PySem.W.kitx_int I.kIn True.intro e (fun z => nomatch z) h
 | str y => obtain ⟨t, q⟩ := (show ∃ t, u = Value.str y t from rx); cases q; exact PySem.W.kia_one PySem.W.kitx_str I.kIn True.intro e (fun z => nomatch z) h
 | flt y => obtain ⟨t, q⟩ := (show ∃ t, u = Value.float y t from rx); cases q; exact PySem.W.kia_one PySem.W.kitx_float I.kIn True.intro e (fun z => nomatch z) h
 | @lst a xs ea =>
  cases (show u = Value.ref a from rx)
  obtain ⟨_, _, n, _, h1⟩ := (show ObjOk X.prog X.w H s.heap a (.lst xs) from I.hok a _ ea)
  exact PySem.W.kia_one PySem.W.kitx_list I.kIn ⟨_, h1, rfl⟩ e (fun z => nomatch z) h
 | @frz a ob xs ea =>
  cases (show u = Value.ref a from rx)
  obtain ⟨_, _, _, n, _, h1⟩ := (show ObjOk X.prog X.w H s.heap a (.frz ob (.lst xs)) from I.hok a _ ea)
  exact PySem.W.kia_one PySem.W.kitx_list I.kIn ⟨_, h1, rfl⟩ e (fun z => nomatch z) h
 | @tup a xs ea =>
  cases (show u = Value.ref a from rx)
  obtain ⟨_, _, _, p⟩ := (show ObjOk X.prog X.w H s.heap a (.tup xs) from I.hok a _ ea)
  obtain ⟨o, h1, h2, _⟩ := p
  exact PySem.W.kia_one PySem.W.kitx_tuple I.kIn ⟨o, h1, h2⟩ e (fun z => nomatch z) h
 | @dK a kvs ea =>
  cases (show u = Value.ref a from rx)
  obtain ⟨_, _, vs, _, p⟩ := (show ObjOk X.prog X.w H s.heap a (.dK kvs) from I.hok a _ ea)
  obtain ⟨o, es, ep, h1, h2, _⟩ := p
  exact PySem.W.kia_one PySem.W.kitx_dict I.kIn ⟨o, h1, h2.1⟩ e (fun z => nomatch z) h
 | @dT a kvs ea =>
  cases (show u = Value.ref a from rx)
  obtain ⟨_, _, xs, _, o, es, ep, h1, h2, _⟩ := (show ObjOk X.prog X.w H s.heap a (.dT kvs) from I.hok a _ ea)
  exact PySem.W.kia_one PySem.W.kitx_dict I.kIn ⟨o, h1, h2.1⟩ e (fun z => nomatch z) h
 | @ins a C dx fs ea cl ha hn htk hm =>
  cases (show u = Value.ref a from rx)
  obtain ⟨mA, O, _⟩ := ins_get I.hok ea
  obtain ⟨od, J, _⟩ := O.look
  exact PySem.W.kia_one (PySem.W.kitx_own (cl.get _) cl.hd ha hn htk hm) I.kIn J e (fun z => nomatch z) h
end
end L2
namespace L2
open PySem PySem.Spec PyProof.Rows
structure Room (k : Nat) (A : Around) : Prop where
 hd : A.handled = none
 dp : A.depth + 3 * k + 5 < recursionLimit
 un : A.units + 16 * k + 200 < cLine
theorem Room.mono {j k : Nat} {A : Around} (r : Room k A) (h : j <= k) : Room j A := ⟨r.hd, by have := r.dp; omega, by have := r.un; omega⟩
theorem Room.deeper {k : Nat} {A : Around} (r : Room (k + 1) A) (env : Env) : Room k (A.deeper env) :=
 ⟨r.hd, by have := r.dp; show A.depth + 1 + 3 * k + 5 < _; omega, by have := r.un; show A.units + 3 + 16 * k + 200 < _; omega⟩
theorem make_depth {A : Around} {C : Addr} {us : List Value} {kw : List (Str × Value)} : (A.under (.builtin "type.__call__" ⟨.ref C :: us, kw⟩)).depth = A.depth + 1 := by
 first | rfl | simp [Around.under, Code.weight, Code.isCreation, Code.isGuard, Code.isCaller, Code.frames, Code.isFrame, guardIds]
theorem make_units {A : Around} {C : Addr} {us : List Value} {kw : List (Str × Value)} : (A.under (.builtin "type.__call__" ⟨.ref C :: us, kw⟩)).units = A.units + 1 := by
 first | rfl | simp [Around.under, Code.cUnits, Code.frames, Code.isFrame]
theorem Room.make {k : Nat} {A : Around} (r : Room (k + 1) A) (C : Addr) (us : List Value) (kw : List (Str × Value)) : Room k (A.under (.builtin "type.__call__" ⟨.ref C :: us, kw⟩)) :=
 ⟨r.hd, by have := r.dp; rw [make_depth]; omega, by have := r.un; rw [make_units]; omega⟩
theorem Room.depth {k : Nat} {A : Around} (r : Room k A) : A.depth < recursionLimit := by have := r.dp; omega
theorem Room.units {k : Nat} {A : Around} (r : Room k A) : A.units + 64 < cLine := by have := r.un; omega
def tNil : TA := fun _ H Q => Q [] H
def tCons (ta : TE) (tr : TA) : TA := fun σ H Q => ta σ H fun x H1 => tr σ H1 fun xs H2 => Q (x :: xs) H2
section
variable {X : Cx} {e : Expr} {es : List Expr} {te : TE} {t : TA} {pos : Pos}
theorem pa_nil : PA X [] tNil := fun _ _ _ _ H Q I h => Calls.spliced_nil ⟨[], H, I, .nil, h⟩
theorem pa_cons (ha : PE X e te) (hr : PA X es t) (hs : starEach (e :: es) X.env = (false, eval e X.env) :: starEach es X.env := by rfl) : PA X (e :: es) (tCons te t) := by
 intro pos pins s σ H Q I h
 rw [hs]
 show wpAny _ _ (spliced ((false, eval e X.env) :: backTo pos (starEach es X.env))) _ _ s
 refine Calls.spliced_cons (thn (ha pins s σ H _ I h) fun u s1 ⟨x, H1, I1, r1, q1⟩ => ?_)
 exact thn (hr pos pins s1 σ H1 _ I1 q1) fun us s2 ⟨xs, H2, I2, r2, q2⟩ => ⟨x :: xs, H2, I2, .cons r1 r2, q2⟩
def tTup (t : TA) : TE := fun σ H Q => t σ H fun xs H1 => xs.length <= sizeLine /\ ∀ p, H1 p = none -> Q (.ref p) (upd H1 p (.tup xs))
def tLst (t : TA) : TE := fun σ H Q => t σ H fun xs H1 => xs.length <= sizeLine /\ ∀ p, H1 p = none -> Q (.ref p) (upd H1 p (.lst xs))
theorem pe_tup {x1} (h : PA X es t) : PE X (.Tuple es x1 pos) (tTup t) := by
 intro pins s σ H Q I hq
 refine wpAny_Tuple_spliced (thn (h pos pins s σ H _ I hq) fun us s1 ⟨xs, H1, I1, r, z, q⟩ => ⟨by rw [<- r.length]; exact z, ?_⟩)
 have hf : H1 s1.heap.objs.size = none := I1.hok.fresh (Nat.le_refl _)
 refine ⟨.ref s1.heap.objs.size, upd H1 s1.heap.objs.size (.tup xs), I1.laid (t' := s1.toks) (fun b u e => Heap.get?_push_of_some _ e) (Nat.le_refl _) ?_, rfl, q _ hf⟩
 exact ⟨z, us, r, ⟨_, Heap.get?_push_size _ rfl, rfl, _, rfl⟩⟩
theorem pe_lst (h : PA X es t) : PE X (.List es pos) (tLst t) := by
 intro pins s σ H Q I hq
 refine wpAny_List_spliced (thn (h pos pins s σ H _ I hq) fun us s1 ⟨xs, H1, I1, r, z, q⟩ => ⟨by rw [<- r.length]; exact z, ?_⟩)
 have hf : H1 s1.heap.objs.size = none := I1.hok.fresh (Nat.le_refl _)
 refine ⟨.ref s1.heap.objs.size, upd H1 s1.heap.objs.size (.lst xs), I1.laid (t' := s1.toks) (fun b u e => Heap.get?_push_of_some _ e) (Nat.le_refl _) ?_, rfl, q _ hf⟩
 exact ⟨z, us, 0, r, Heap.get?_push_size _ rfl⟩
end
abbrev Sp := List V -> Hp -> VK -> XK -> Prop
abbrev CXT := List Env -> Hp -> Shared -> XK -> Value -> Shared -> Prop
structure Env0 (P : Program) (w : World) (K : Fg_) (mg : Str -> Option Value) (base : Heap) (A : Around) (outer : List Env) (s : Shared) (H : Hp) : Prop where
 frames : A.frames = some outer
 mod : Mod K mg base
 bs : ∀ b o, base.get? b = some o -> s.heap.get? b = some o /\ H b = none
 bsz : base.objs.size <= s.heap.objs.size
 funs : s.heap.FunFrames base outer
 frf : ∀ b ∈ frs outer, H b = none
 hok : HOk P w H s.heap
 bare : AllBare s.gens
def CE (outer : List Env) (P : Program) (w : World) (H : Hp) (s : Shared) (Q : VK) (u : Value) (s' : Shared) : Prop :=
 ∃ v H', s'.os = s.os /\ AllBare s'.gens /\ Un (frs outer) [] H H' s.heap s'.heap /\ HOk P w H' s'.heap /\ RelV v u /\ Q v H'
def CR (CX : CXT) (outer : List Env) (P : Program) (w : World) (H : Hp) (s : Shared) (Q : VK) (E : XK) (r : Result) (s' : Shared) : Prop :=
 match r with
 | .ok (.ret u) => CE outer P w H s Q u s'
 | .ok _ => False
 | .error e => CX outer H s E e s'
structure FnOk (P : Program) (w : World) (K : Fg_) (mg : Str -> Option Value) (base : Heap) (CX : CXT) (k : Nat) (f : Addr) (fd : FuncData) (ps : List Str) (sp : Sp) : Prop where
 len : ∀ vs H Q E, sp vs H Q E -> vs.length = ps.length
 run : ∀ (A : Around) (outer : List Env) (s : Shared) (H : Hp) (args : Args) (us : List Value) (vs : List V) (Q : VK) (E : XK), Room k A -> Env0 P w K mg base A outer s H -> BindsTo s fd args (ps.zip us) -> Vals vs us -> sp vs H Q E ->
  codeAny (model P w) A (.call (.ref f) args) (CR CX outer P w H s Q E) s
theorem Env0.make {P : Program} {w : World} {K : Fg_} {mg : Str -> Option Value} {base : Heap} {A : Around} {outer : List Env} {s : Shared} {H : Hp} (e : Env0 P w K mg base A outer s H) (C : Addr) (us : List Value) (kw : List (Str × Value)) :
  Env0 P w K mg base (A.under (.builtin "type.__call__" ⟨.ref C :: us, kw⟩)) outer s H := ⟨by first | exact e.frames | (simpa [Around.under, Code.envs, Code.isFrame, pushEnvs] using e.frames), e.mod, e.bs, e.bsz, e.funs, e.frf, e.hok, e.bare⟩
section
variable {X : Cx} {pins : List (Addr × Obj)} {σ : St} {H : Hp} {s s' : Shared}
theorem Inv.env0 (I : Inv X pins σ H s) : Env0 X.prog X.w X.K X.mg X.base X.A X.stack s H :=
 ⟨I.ok.frames, I.ok.mod, I.bs, Nat.le_trans I.ok.bsz I.sz, I.stack, I.stkFree, I.hok, I.bare⟩
theorem Inv.after {Q : VK} {u : Value} (I : Inv X pins σ H s) (h : CE X.stack X.prog X.w H s Q u s') : EP X pins σ Q u s' := by
 obtain ⟨v, H', os, bare, un, hok, r, q⟩ := h
 obtain ⟨hh, g, d, t, os'⟩ := s'
 obtain rfl : os' = s.os := os
 exact ⟨v, H', I.call (h' := hh) (g' := g) (d' := d) (t' := t) (ch := []) un hok bare (fun b z => absurd z (by simp)), r, q⟩
end
def tCall (sp : Sp) (dvs : List V) (E : XK) (t : TA) : TE := fun σ H Q => t σ H fun vs H1 => sp (vs ++ dvs) H1 Q E
def tMake (C : Addr) (sp : Sp) (dvs : List V) (E : XK) (t : TA) : TE := fun σ H Q => t σ H fun vs H1 => ∀ x dx, H1 x = none -> H1 dx = none -> dx ≠ x ->
 sp (.ref x :: (vs ++ dvs)) (upd (upd H1 dx (.own x)) x (.ins C dx [])) (fun v H2 => v = .non /\ Q (.ref x) H2) E
def Binds (K : Fg_) (fd : FuncData) (ps : List Str) (ds : List Value) : Prop :=
 ∀ (s : Shared) (us : List Value), K.In s.heap -> (us ++ ds).length = ps.length -> BindsTo s fd ⟨us, []⟩ (ps.zip (us ++ ds))
theorem Binds.all {K : Fg_} {fd : FuncData} {ps : List Str} (h : ∀ us : List Value, us.length = ps.length -> bindArgs fd ⟨us, []⟩ = pure (ps.zip us)) : Binds K fd ps [] := fun s us _ hl => by
 rw [List.append_nil] at hl ⊢
 exact .of_eq (h us hl)
def Passes (CX : CXT) (X : Cx) (E : XK) : Prop := ∀ (pins : List (Addr × Obj)) (σ : St) (H : Hp) (s : Shared) (e : Value) (s' : Shared), Inv X pins σ H s -> CX X.stack H s E e s' -> X.xe e s'
section
variable {X : Cx} {CX : CXT} {k : Nat} {f C : Addr} {fd : FuncData} {ps : List Str} {sp : Sp} {dvs : List V} {ds : List Value} {E : XK} {x m : Str} {p pos apos : Pos} {e o : Expr} {es : List Expr} {ta : TE} {t : TA}
theorem run_fn {pins : List (Addr × Obj)} {σ : St} {H : Hp} {s : Shared} {Q : VK} {us : List Value} {vs : List V} (F : FnOk X.prog X.w X.K X.mg X.base CX k f fd ps sp) (hr : Room k X.A) (hb : Binds X.K fd ps ds) (hd : Vals dvs ds) (hx : Passes CX X E)
  (I : Inv X pins σ H s) (r : Vals vs us) (h : sp (vs ++ dvs) H Q E) : wpAny (model X.prog X.w) X.A (call (.ref f) us) (EP X pins σ Q) X.xe s := by
 have r2 : Vals (vs ++ dvs) (us ++ ds) := r.append hd
 have hl : (us ++ ds).length = ps.length := by rw [<- r2.length]; exact F.len _ _ _ _ h
 refine wpAny_call (codeAny_mono (F.run X.A X.stack s H ⟨us, []⟩ (us ++ ds) (vs ++ dvs) Q E hr I.env0 (hb s us I.kIn hl) r2 h) fun r s' hq => ?_)
 cases r with
 | error e => exact hx pins σ H s e s' I hq
 | ok fl =>
  cases fl with
  | ret u => exact I.after hq
  | next => exact False.elim hq
  | brk => exact False.elim hq
  | cont => exact False.elim hq
theorem pe_call (F : FnOk X.prog X.w X.K X.mg X.base CX k f fd ps sp) (hr : Room k X.A) (hg : Gl X x) (hm : X.mg x = some (.ref f)) (hk : PySem.W.keepIn X.K (.ref f) = true) (hb : Binds X.K fd ps ds) (hd : Vals dvs ds) (hx : Passes CX X E)
  (ha : PA X (e :: es) t) (hdb : (x == ("__debug__" : Str)) = false := by decide) (he : starEach (e :: es) X.env = (false, eval e X.env) :: starEach es X.env := by rfl) (hpl : (backTo pos (starEach es X.env)).any (·.1) = false := by rfl) :
  PE X (.Call (.Name x p) (e :: es) [] pos) (tCall sp dvs E t) := by
 intro pins s σ H Q I h
 refine wpAny_Call_Name_kw (ld_glob I hg hm ?_ hdb)
 refine PySem.W.callWith_K (h₀ := X.base) I.ok.mod.kin hk (thn (ha pos pins s σ H _ I h) fun us s1 ⟨vs, H1, I1, r, q⟩ => ⟨I1.kIn, ?_⟩) he hpl
 exact run_fn F hr hb hd hx I1 r q
structure Mk (K : Fg_) (C f : Addr) : Prop where
 makes : PySem.W.makesIn K C = true
 init : PySem.W.findIn K (.ref C) "__init__" = some (some (.ref f))
 fn : PySem.W.isFn K (.ref f) = true
 kp : PySem.W.keepIn K (.ref C) = true
theorem run_make {pins : List (Addr × Obj)} {σ : St} {H : Hp} {s : Shared} {Q : VK} {us : List Value} {vs : List V} (M : Mk X.K C f) (F : FnOk X.prog X.w X.K X.mg X.base CX k f fd ps sp) (hr : Room (k + 1) X.A) (hb : Binds X.K fd ps ds) (hd : Vals dvs ds)
  (hx : Passes CX X E) (I : Inv X pins σ H s) (r : Vals vs us)
  (h : ∀ x dx, H x = none -> H dx = none -> dx ≠ x -> sp (.ref x :: (vs ++ dvs)) (upd (upd H dx (.own x)) x (.ins C dx [])) (fun v H2 => v = .non /\ Q (.ref x) H2) E) :
  wpAny (model X.prog X.w) X.A (call (.ref C) us) (EP X pins σ Q) X.xe s := by
 have hq := h (s.heap.objs.size + 1) s.heap.objs.size (I.hok.fresh (Nat.le_succ _)) (I.hok.fresh (Nat.le_refl _)) (Nat.ne_of_lt (Nat.lt_succ_self _))
 have I2 := Inv.made (C := C) I
 have r2 : Vals (V.ref (s.heap.objs.size + 1) :: (vs ++ dvs)) (Value.ref (s.heap.objs.size + 1) :: (us ++ ds)) := .cons rfl (r.append hd)
 have hl : (Value.ref (s.heap.objs.size + 1) :: us ++ ds).length = ps.length := by
  have e := r2.length
  rw [F.len _ _ _ _ hq] at e
  exact e.symm
 refine wpAny_call (make_map (f := f) I.kIn M.makes M.init (beq_iff_eq.mp M.fn) (codeAny_mono (F.run _ X.stack _ _ ⟨Value.ref (s.heap.objs.size + 1) :: us, []⟩ (Value.ref (s.heap.objs.size + 1) :: (us ++ ds)) _ _ E (hr.make C us [])
  (I2.env0.make C us []) (hb _ (Value.ref (s.heap.objs.size + 1) :: us) I2.kIn hl) r2 hq) fun r s' hq' => ?_))
 cases r with
 | error e => exact hx pins σ _ _ e s' I2 hq'
 | ok fl =>
  cases fl with
  | ret u =>
   obtain ⟨v, H', I3, rv, ev, q3⟩ := I2.after hq'
   subst ev
   exact ⟨rv, ⟨V.ref (s.heap.objs.size + 1), H', I3, rfl, q3⟩⟩
  | next => exact False.elim hq'
  | brk => exact False.elim hq'
  | cont => exact False.elim hq'
theorem pe_make (M : Mk X.K C f) (F : FnOk X.prog X.w X.K X.mg X.base CX k f fd ps sp) (hr : Room (k + 1) X.A) (hg : Gl X x) (hm : X.mg x = some (.ref C)) (hb : Binds X.K fd ps ds) (hd : Vals dvs ds) (hx : Passes CX X E)
  (ha : PA X (e :: es) t) (hdb : (x == ("__debug__" : Str)) = false := by decide) (he : starEach (e :: es) X.env = (false, eval e X.env) :: starEach es X.env := by rfl) (hpl : (backTo pos (starEach es X.env)).any (·.1) = false := by rfl) :
  PE X (.Call (.Name x p) (e :: es) [] pos) (tMake C sp dvs E t) := by
 intro pins s σ H Q I h
 refine wpAny_Call_Name_kw (ld_glob I hg hm ?_ hdb)
 refine PySem.W.callWith_K (h₀ := X.base) I.ok.mod.kin M.kp (thn (ha pos pins s σ H _ I h) fun us s1 ⟨vs, H1, I1, r, q⟩ => ⟨I1.kIn, ?_⟩) he hpl
 exact run_make M F hr hb hd hx I1 r q
end
section
variable {X : Cx} {CX : CXT} {k : Nat} {f C : Addr} {fd : FuncData} {ps ks : List Str} {sp : Sp} {E : XK} {x m : Str} {p pos apos kpos : Pos} {e o : Expr} {es : List Expr} {kws : List Keyword} {te ta : TE} {t tk : TA} {nm : Option Str}
structure KBinds (K : Fg_) (fd : FuncData) (ps ks : List Str) (g : List Value -> List Value -> List Value) (gV : List V -> List V -> List V) : Prop where
 to : ∀ (s : Shared) (us ws : List Value), K.In s.heap -> (g us ws).length = ps.length -> BindsTo s fd ⟨us, ks.zip ws⟩ (ps.zip (g us ws))
 rel : ∀ {vs : List V} {us : List Value} {zs : List V} {ws : List Value}, Vals vs us -> Vals zs ws -> Vals (gV vs zs) (g us ws)
variable {g : List Value -> List Value -> List Value} {gV : List V -> List V -> List V}
end
structure FnScope (N P : List Str) (sc : Scope) : Prop where
 kind : sc.kind = .function
 co : sc.isCoroutine = false
 gen : sc.isGenerator = false
 nd : N.Nodup
 pre : N.take P.length = P
 par : ∀ x ∈ P, sc.names.lookup x = some .local \/ sc.names.lookup x = some .cell
 nofree : ∀ y ∈ sc.names, y.2 ≠ .free
theorem bindL_out {kindOf : Str -> Option NameKind} {x : Str} : ∀ {binds : List (Str × Value)} {m : Str -> Option Value}, (∀ v, (x, v) ∉ binds) -> bindL kindOf binds m x = m x
 | [], _, _ => rfl
 | (n, v) :: r, m, h => by
  unfold bindL
  rw [bindL_out fun w hw => h w (List.mem_cons_of_mem _ hw)]
  split
  ·have : x ≠ n := by rintro rfl; exact h v List.mem_cons_self
   simp [this]
  ·rfl
theorem bindC_out {kindOf : Str -> Option NameKind} {x : Str} : ∀ {binds : List (Str × Value)} {m : Str -> Option Value}, (∀ v, (x, v) ∉ binds) -> bindC kindOf binds m x = m x
 | [], _, _ => rfl
 | (n, v) :: r, m, h => by
  unfold bindC
  rw [bindC_out fun w hw => h w (List.mem_cons_of_mem _ hw)]
  split
  ·rfl
  ·have : x ≠ n := by rintro rfl; exact h v List.mem_cons_self
   simp [this]
theorem bindL_get {kindOf : Str -> Option NameKind} {x : Str} {v : Value} : ∀ {P : List Str} {vs : List Value} {i : Nat} {m : Str -> Option Value}, P.Nodup -> P[i]? = some x -> vs[i]? = some v -> kindOf x = some .local ->
  bindL kindOf (P.zip vs) m x = some v
 | [], _, _, _, _, h, _, _ => by simp at h
 | _ :: _, [], _, _, _, _, h, _ => by simp at h
 | p :: P, w :: vs, 0, m, nd, h1, h2, hk => by
  simp at h1 h2; subst h1; subst h2
  show bindL kindOf ((p, w) :: P.zip vs) m p = _
  unfold bindL
  rw [bindL_out fun v hv => (List.nodup_cons.mp nd).1 (List.of_mem_zip hv).1, if_pos hk]
  simp
 | p :: P, w :: vs, i + 1, m, nd, h1, h2, hk => by
  show bindL kindOf ((p, w) :: P.zip vs) m x = _
  unfold bindL
  exact bindL_get (i := i) (List.nodup_cons.mp nd).2 (by simpa using h1) (by simpa using h2) hk
theorem bindC_get {kindOf : Str -> Option NameKind} {x : Str} {v : Value} : ∀ {P : List Str} {vs : List Value} {i : Nat} {m : Str -> Option Value}, P.Nodup -> P[i]? = some x -> vs[i]? = some v -> kindOf x ≠ some .local ->
  bindC kindOf (P.zip vs) m x = some v
 | [], _, _, _, _, h, _, _ => by simp at h
 | _ :: _, [], _, _, _, _, h, _ => by simp at h
 | p :: P, w :: vs, 0, m, nd, h1, h2, hk => by
  simp at h1 h2; subst h1; subst h2
  show bindC kindOf ((p, w) :: P.zip vs) m p = _
  unfold bindC
  rw [bindC_out fun v hv => (List.nodup_cons.mp nd).1 (List.of_mem_zip hv).1, if_neg hk]
  simp
 | p :: P, w :: vs, i + 1, m, nd, h1, h2, hk => by
  show bindC kindOf ((p, w) :: P.zip vs) m x = _
  unfold bindC
  exact bindC_get (i := i) (List.nodup_cons.mp nd).2 (by simpa using h1) (by simpa using h2) hk
def start (N : List Str) (vs : List V) : St := vs.map some ++ List.replicate (N.length - vs.length) none
def cxOf (CX : CXT) (P : Program) (w : World) (K : Fg_) (mg : Str -> Option Value) (base : Heap) (N : List Str) (qual : Str) (scope : Scope) (f : Addr) (cd : Value) (A : Around) (outer : List Env) (s : Shared) (H : Hp) (E : XK) : Cx where
 prog := P
 w := w
 K := K
 mg := mg
 base := base
 A := A.deeper (envOfC qual scope s.heap.objs.size f cd)
 N := N
 s₀ := s
 H₀ := H
 env := envOfC qual scope s.heap.objs.size f cd
 outer := outer
 stack := envOfC qual scope s.heap.objs.size f cd :: outer
 ex := []
 calm := true
 fn := fun _ => true
 pn := []
 xe := fun e s' => wpAny (model P w) (A.deeper (envOfC qual scope s.heap.objs.size f cd)) (leaving (envOfC qual scope s.heap.objs.size f cd) e) (fun _ s'' => CX outer H s E e s'') (fun e' s'' => CX outer H s E e' s'') s'
theorem cell_has {sc : Scope} {n : Nat} {x : Str} (h : sc.names.lookup x = some .cell) : ∃ c, (cellsFrom n sc.names []).lookup x = some c := by
 have q := PySem.W.cellsFrom_some sc.names n [] (.inl h)
 exact Option.isSome_iff_exists.mp q
theorem inv_start {CX : CXT} {P : Program} {w : World} {K : Fg_} {mg : Str -> Option Value} {base : Heap} {N ps : List Str} {qual : Str} {scope : Scope} {f : Addr} {cd : Value} {A : Around} {outer : List Env} {s s1 : Shared} {H : Hp} {E : XK} {us : List Value} {vs : List V}
  (S : FnScope N ps scope) (hd : A.handled = none) (e0 : Env0 P w K mg base A outer s H) (hl : vs.length = ps.length) (r : Vals vs us)
  (x : InCallC s s.heap.objs.size (bindL (envOfC qual scope s.heap.objs.size f cd).kindOf (ps.zip us) fun _ => none) (cellsFrom (s.heap.objs.size + 1) scope.names []) (bindC (envOfC qual scope s.heap.objs.size f cd).kindOf (ps.zip us) fun _ => none) s1) :
  Inv (cxOf CX P w K mg base N qual scope f cd A outer s H E) [] (start N vs) H s1 := by
 have hpl : ps.length <= N.length := by have := congrArg List.length S.pre; rw [List.length_take] at this; omega
 obtain ⟨h1, tk, rfl, hk⟩ := x.done
 have noA : ∀ b : Addr, b ∉ (cxOf CX P w K mg base N qual scope f cd A outer s H E).ex := fun b z => absurd (show b ∈ ([] : List Addr) from z) (by simp)
 refine ⟨⟨e0.mod, S.kind, rfl, rfl, Nat.le_refl _, fun y z c h1 h2 => ?_, fun y hy => ?_, fun y c _ h => ?_, fun _ => hd, Around.frames_deeper e0.frames, .inr ⟨rfl, rfl⟩, fun b z => absurd z (noA b), e0.bs, e0.bsz, fun b _ _ => noA b, fun b z => absurd z (noA b), e0.funs, e0.frf⟩,
  rfl, e0.bare, Un.kept hk, ⟨_, x.toInCall.ns, fun i y v h1 h2 h3 => ?_⟩, fun y c h => ⟨_, x.cell y c h⟩, e0.hok.fresh (Nat.le_refl _), fun y c h => ?_, fun p hp => absurd (show p ∈ ([] : List (Addr × Obj)) from hp) (by simp), e0.hok.kept hk, ?_⟩
 ·exact name_of_addr x.apart (PySem.mem_of_lookup h1) (PySem.mem_of_lookup h2)
 ·have hy : scope.names.lookup y = some .cell \/ scope.names.lookup y = some .free := hy
  rcases hy with hy | hy
  ·exact cell_has hy
  ·exact absurd rfl (S.nofree _ (PySem.mem_of_lookup hy))
 ·exact Nat.le_of_lt (x.above y c (PySem.mem_of_lookup h))
 ·have hi : i < vs.length := by
   unfold start at h2
   by_cases hi : i < vs.length
   ·exact hi
   ·rw [List.getElem?_append_right (by simpa using hi)] at h2
    rw [List.getElem?_replicate] at h2
    split at h2 <;> cases h2
  have ha : vs[i]? = some v := by
   unfold start at h2
   rw [List.getElem?_append_left (by simpa using hi), List.getElem?_map] at h2
   cases e : vs[i]? with
   | none => rw [e] at h2; cases h2
   | some a => rw [e] at h2; cases h2; rfl
  obtain ⟨u, hu, rv⟩ := r.get ha
  have hp : ps[i]? = some y := by
   rw [<- S.pre, List.getElem?_take_of_lt (by omega)]; exact h1
  have ndP : ps.Nodup := by rw [<- S.pre]; exact S.nd.sublist (List.take_sublist _ _)
  refine ⟨u, rv, ?_⟩
  rcases S.par y (List.mem_of_getElem? hp) with k | k
  ·exact .inl ⟨k, bindL_get ndP hp hu k⟩
  ·obtain ⟨c, e⟩ := cell_has (n := s.heap.objs.size + 1) k
   refine .inr ⟨.inl k, c, e, ?_⟩
   have q := x.cell y c e
   rw [bindC_get ndP hp hu (by show scope.names.lookup y ≠ _; rw [k]; decide)] at q
   exact q
 ·exact e0.hok.fresh (Nat.le_of_lt (x.above y c (PySem.mem_of_lookup h)))
 ·unfold start
  show _ = N.length
  rw [List.length_append, List.length_map, List.length_replicate]
  omega
theorem fn_of {CX : CXT} {P : Program} {w : World} {K : Fg_} {mg : Str -> Option Value} {base : Heap} {k : Nat} {f : Addr} {name qual : Str} {params : Arguments} {body : List Stmt} {scope : Scope} {dV kV doc pm cdv ct oc : Value} {an od : Option Addr}
  {osl : Array (Option Value)} {N ps : List Str} {sp : Sp} (lk : K.lookup f = some ⟨oc, od, .func (PySem.W.fnOf name qual params body scope dV kV doc pm an cdv ct), osl⟩) (hcd : PySem.W.codeIn K cdv qual = true) (S : FnScope N ps scope)
  (len : ∀ vs H Q E, sp vs H Q E -> vs.length = ps.length)
  (hbody : ∀ (A : Around) (outer : List Env) (s : Shared) (H : Hp) (vs : List V) (Q : VK) (E : XK), Room k (A.deeper (envOfC qual scope s.heap.objs.size f cdv)) -> sp vs H Q E ->
   ∃ t, PSs (cxOf CX P w K mg base N qual scope f cdv A outer s H E) body t /\ t { nx := fun _ H' => Q .non H', rt := Q } (start N vs) H) :
  FnOk P w K mg base CX (k + 1) f (PySem.W.fnOf name qual params body scope dV kV doc pm an cdv ct) ps sp := by
 refine ⟨len, fun A outer s H args us vs Q E hr e0 hb r hsp => ?_⟩
 have hl := len _ _ _ _ hsp
 have KX : K.In s.heap := e0.mod.kin.keeps fun b o e => (e0.bs b o e).1
 have lim : s.heap.NoLimit := e0.mod.nolimit.keeps fun b o e => (e0.bs b o e).1
 have hkind : ∀ y ∈ ps.zip us, scope.names.lookup y.1 = some .local \/ (scope.names.lookup y.1 = some .cell /\ ((cellsFrom (s.heap.objs.size + 1) scope.names []).lookup y.1).isSome = true) := fun ⟨n, v⟩ hy => by
  rcases S.par n (List.of_mem_zip hy).1 with q | q
  ·exact .inl q
  ·exact .inr ⟨q, PySem.W.cellsFrom_some _ _ _ (.inl q)⟩
 refine codeAny_call_function hr.depth (KX _ _ lk) rfl S.co S.gen rfl (PySem.W.codeRec_of KX hcd) (hb _ _ _ _ ?_)
 refine wpAny_newFunctionEnv_cells S.kind hkind fun env he s1 x => ?_
 subst he
 refine ⟨lim.keeps x.toInCall.keep, codeAny_func ?_⟩
 obtain ⟨t, ht, hq⟩ := hbody A outer s H vs Q E (hr.deeper _) hsp
 have I : Inv (cxOf CX P w K mg base N qual scope f cdv A outer s H E) [] (start N vs) H s1 := inv_start S hr.hd e0 hl r x
 refine wpAny_mono (ht [] s1 (start N vs) H _ I hq) (fun fl s' hs => ?_) fun e s' hs => hs
 have fin : ∀ {σ' : St} {H' : Hp} {v : V} {u : Value}, Inv (cxOf CX P w K mg base N qual scope f cdv A outer s H E) [] σ' H' s' -> RelV v u -> Q v H' -> CE outer P w H s Q u s' :=
  fun {σ' H' v u} J rv q => ⟨v, H', J.os, J.bare, J.base, J.hok, rv, q⟩
 cases fl with
 | ret u =>
  obtain ⟨v, σ', H', J, rv, q⟩ := hs
  exact fin J rv q
 | next =>
  obtain ⟨σ', H', J, q⟩ := hs
  exact fin (v := V.non) (u := Value.none) J rfl q
 | brk =>
  obtain ⟨_, _, _, q⟩ := hs
  exact False.elim q
 | cont =>
  obtain ⟨_, _, _, q⟩ := hs
  exact False.elim q
end L2
namespace L2
open PySem PySem.Spec PyProof.Rows
section
variable {X : Cx} {x : Str} {p pos : Pos} {e : Expr} {es : List Expr} {t : TA} {id T : String} {r : List V -> Hp -> VK -> Prop}
def tCB (r : List V -> Hp -> VK -> Prop) (t : TA) : TE := fun σ H Q => t σ H fun vs H1 => r vs H1 Q
theorem pe_callB (hc : CallR X (.builtin id) r) (hg : Gl X x) (hm : X.mg x = none) (hv : bootBuiltins x = some (.builtin id)) (ha : PA X (e :: es) t) (hn : x ≠ "__name__" := by decide) (hdb : (x == ("__debug__" : Str)) = false := by decide)
  (he : starEach (e :: es) X.env = (false, eval e X.env) :: starEach es X.env := by rfl) (hpl : (backTo pos (starEach es X.env)).any (·.1) = false := by rfl) : PE X (.Call (.Name x p) (e :: es) [] pos) (tCB r t) := by
 intro pins s σ H Q I h
 refine wpAny_Call_Name_kw (ld_blt I hg hm hv ?_ hn hdb)
 exact PyProof.Rows.callWith_builtin1 (thn (ha pos pins s σ H _ I h) fun us s1 ⟨vs, H1, I1, r1, q1⟩ => hc pins s1 σ H1 vs us Q I1 r1 q1) he hpl
theorem pe_callTy (hc : CallR X (.type T) r) (hg : Gl X x) (hm : X.mg x = none) (hv : bootBuiltins x = some (.type T)) (ha : PA X (e :: es) t) (hn : x ≠ "__name__" := by decide) (hdb : (x == ("__debug__" : Str)) = false := by decide)
  (he : starEach (e :: es) X.env = (false, eval e X.env) :: starEach es X.env := by rfl) (hpl : (backTo pos (starEach es X.env)).any (·.1) = false := by rfl) : PE X (.Call (.Name x p) (e :: es) [] pos) (tCB r t) := by
 intro pins s σ H Q I h
 refine wpAny_Call_Name_kw (ld_blt I hg hm hv ?_ hn hdb)
 exact PyProof.Rows.callWith_type1 (thn (ha pos pins s σ H _ I h) fun us s1 ⟨vs, H1, I1, r1, q1⟩ => hc pins s1 σ H1 vs us Q I1 r1 q1) he hpl
end
end L2
namespace HT
open PySem PyProof.Rows
section
open PySem.SeqAt
open PySem.AutoSeq1 (wpAny_loadPart')
open PySem.MeetsSeq PySem.MeetsSeq2 PySem.MeetsSeq3
end
section
variable {prog : Program} {w : World} {A : Around} {E : Value -> Shared -> Prop} {s : Shared}
theorem cat_tup {t b : Addr} {vs ws : List Value} {Q : Value -> Shared -> Prop} (ht : IsTup s.heap t vs.toArray) (hb : IsTup s.heap b ws.toArray) (hv : vs ≠ [])
  (h1 : ws = [] -> Q (.ref t) s) (h2 : ws ≠ [] -> Q (.ref s.heap.objs.size) { s with heap := s.heap.push { cls := .type "tuple", data := .seq (vs ++ ws).toArray } })
  (hsz : vs.length + ws.length <= sizeLine) : wpAny (model prog w) A (binaryOp .Add (.ref t) (.ref b)) Q E s := by
 obtain ⟨⟨cls, dd, data, sl⟩, ho, hc, n, hd⟩ := id ht
 obtain ⟨⟨cls2, dd2, data2, sl2⟩, ho2, hc2, n2, hd2⟩ := id hb
 simp only at hc hd hc2 hd2
 subst hc hd hc2 hd2
 have e : vs.toArray ++ ws.toArray = (vs ++ ws).toArray := by simp
 by_cases hw : ws = []
 ·exact concat_meets ⟨_, ho, rfl⟩ ⟨_, ho2, rfl⟩ noFill_tuple_add seq_tuple_add PySem.F.slot_tuple_add PySem.F.entry_tuple_add (PySem.F.args_tuple_add_2 _ _)
   (tuple_addW1 t b vs.toArray ws.toArray n n2 dd dd2 sl sl2 (by simpa using hv) (by simp [hw])) ⟨ho, ho2, h1 hw⟩
 ·refine concat_meets ⟨_, ho, rfl⟩ ⟨_, ho2, rfl⟩ noFill_tuple_add seq_tuple_add PySem.F.slot_tuple_add PySem.F.entry_tuple_add (PySem.F.args_tuple_add_2 _ _)
   (tuple_addW2 t b vs.toArray ws.toArray n n2 dd dd2 sl sl2 (by simpa using hv) (by simpa using hw) (by rw [List.size_toArray, List.size_toArray]; exact hsz)) ⟨ho, ho2, ?_⟩
  rw [e]
  exact h2 hw
def sIx (n d : Nat) : Option Int -> Nat
 | none => d
 | some v => if v < 0 then (v + (n : Int)).toNat else min v.toNat n
theorem sIx_none (n d : Nat) : sIx n d none = d := rfl
theorem sIx_nat (n d k : Nat) : sIx n d (some (k : Int)) = min k n := by
 show (if (k : Int) < 0 then ((k : Int) + (n : Int)).toNat else min (k : Int).toNat n) = min k n
 rw [if_neg (by omega), Int.toNat_natCast]
theorem sIx_le (n d : Nat) (hd : d <= n) (o : Option Int) : sIx n d o <= n := by
 cases o with
 | none => exact hd
 | some v =>
  show (if v < 0 then (v + (n : Int)).toNat else min v.toNat n) <= n
  by_cases hv : v < 0
  ·rw [if_pos hv]; omega
  ·rw [if_neg hv]; exact Nat.min_le_right _ _
theorem clip_eq (v : Int) (n d : Nat) : (if v < 0 then max (v + (n : Int)) 0 else min v (n : Int)) = ((sIx n d (some v) : Nat) : Int) := by
 show (if v < 0 then max (v + (n : Int)) 0 else min v (n : Int)) = (((if v < 0 then (v + (n : Int)).toNat else min v.toNat n) : Nat) : Int)
 by_cases hv : v < 0
 ·simp only [if_pos hv]; omega
 ·simp only [if_neg hv]; omega
theorem adjust_gen (lo hi : Option Int) (n : Nat) : Builtin.Slice.sliceAdjust lo hi 1 (n : Int) = (((sIx n 0 lo : Nat) : Int), ((sIx n n hi : Nat) : Int)) := by
 have h1 : ¬ ((1 : Int) < 0) := by omega
 unfold Builtin.Slice.sliceAdjust
 simp only [h1, if_false]
 refine Prod.ext ?_ ?_
 ·cases lo with
  | none => rfl
  | some v => exact clip_eq v n 0
 ·cases hi with
  | none => rfl
  | some v => exact clip_eq v n n
theorem places_gen (i j : Nat) : Builtin.Slice.slicePlaces (i : Int) (j : Int) 1 = j - i := by
 unfold Builtin.Slice.slicePlaces
 have h1 : (1 : Int) > 0 := by omega
 simp only [h1, if_true, Int.ediv_one]
 split <;> omega
theorem slicePart_ {v : Value} {o : Option Int} {Q : Option Int -> Shared -> Prop} (p : IsPart v o) (h : Q o s) : wpAny (model prog w) A (Builtin.Slice.slicePartIndex v) Q E s := by
 cases p with
 | none => exact slicePart_none h
 | int i t => exact slicePart_int h
theorem sliceApplied_gen {sl : Addr} {vl vu : Value} {lo hi : Option Int} {n : Nat} {Q : Int × Int × Nat -> Shared -> Prop} (hs : s.heap.IsSliceOf sl vl vu .none) (pl : IsPart vl lo) (pu : IsPart vu hi)
  (h : Q (((sIx n 0 lo : Nat) : Int), 1, sIx n n hi - sIx n 0 lo) s) : wpAny (model prog w) A (Builtin.Slice.sliceApplied (.ref sl) (pure (n : Int))) Q E s := by
 obtain ⟨os, hos, hcs, hds⟩ := id hs
 unfold Builtin.Slice.sliceApplied Builtin.Slice.sliceFields
 refine wpAny_bind (wpAny_bind (wpAny_field hos hds (x := vl) rfl (wpAny_bind (wpAny_field hos hds (x := vu) rfl (wpAny_bind (wpAny_field hos hds (x := .none) rfl (wpAny_pure ?_)))))))
 refine wpAny_bind (slicePart_none ?_)
 show wpAny _ _ (if ((1 : Int) == 0) = true then _ else _) _ _ s
 rw [if_neg (by decide)]
 refine wpAny_bind (slicePart_ pl (wpAny_bind (slicePart_ pu (wpAny_bind (wpAny_pure ?_)))))
 show wpAny _ _ (match Builtin.Slice.sliceAdjust lo hi 1 (n : Int) with | (lo, hi) => pure (lo, (1 : Int), Builtin.Slice.slicePlaces lo hi 1)) _ _ s
 rw [adjust_gen lo hi n]
 show wpAny _ _ (pure (((sIx n 0 lo : Nat) : Int), (1 : Int), Builtin.Slice.slicePlaces ((sIx n 0 lo : Nat) : Int) ((sIx n n hi : Nat) : Int) 1)) _ _ s
 rw [places_gen]
 exact wpAny_pure h
theorem pick_gen (xs : Array Value) (i k : Nat) : ((List.range k).filterMap fun (m : Nat) => xs[((i : Int) + (m : Int) * 1).toNat]?).toArray = ((xs.toList.drop i).take k).toArray := by
 have e : (fun (m : Nat) => xs[((i : Int) + (m : Int) * 1).toNat]?) = fun m => xs[i + m]? := by
  funext m
  have : ((i : Int) + (m : Int) * 1).toNat = i + m := by omega
  rw [this]
 rw [e]
 have := pick_run xs i k
 rw [List.filterMap_map] at this
 have e2 : ((fun x => xs[x]?) ∘ fun x => i + x) = fun m => xs[i + m]? := rfl
 rw [e2] at this
 rw [this]
theorem getItem_tuple_cut {t sl : Addr} {items : Array Value} {vl vu : Value} {lo hi : Option Int} {Q : Value -> Shared -> Prop} (ht : IsTup s.heap t items) (hs : s.heap.IsSliceOf sl vl vu .none) (pl : IsPart vl lo) (pu : IsPart vu hi)
  (hw : ¬ (sIx items.size 0 lo = 0 /\ sIx items.size items.size hi = items.size))
  (h : Q (.ref s.heap.objs.size) { s with heap := s.heap.push { cls := .type "tuple", data := .seq ((items.toList.drop (sIx items.size 0 lo)).take (sIx items.size items.size hi - sIx items.size 0 lo)).toArray } })
  (hsz : items.size <= sizeLine) : wpAny (model prog w) A (getItem (.ref t) (.ref sl)) Q E s := by
 have htake : sizeOk (.seq ((items.toList.drop (sIx items.size 0 lo)).take (sIx items.size items.size hi - sIx items.size 0 lo)).toArray) := by
  show ((items.toList.drop (sIx items.size 0 lo)).take (sIx items.size items.size hi - sIx items.size 0 lo)).toArray.size <= sizeLine
  rw [List.size_toArray, List.length_take, List.length_drop, Array.length_toList]
  omega
 have hj : sIx items.size items.size hi <= items.size := sIx_le _ _ (Nat.le_refl _) hi
 obtain ⟨os, hos, hcs, hds⟩ := id hs
 have hTs : s.TypeIs (.ref sl) "slice" := ⟨os, hos, hcs⟩
 unfold getItem
 try with_reducible refine wpAny_holding ?_
 first | refine wpAny_bind (wpAny_pure ?_) | skip
 refine wpAny_bind (wpAny_sequenceKey ht.typeIs (by decide) ?_)
 refine wpAny_bind (wpAny_callSpecial?_slot (name := Str.ofString "__getitem__") ht.typeIs PyProof.Rows.slot_tuple_getitem
  (wpAny_call_entry PyProof.Rows.slot_tuple_getitem ht.typeIs entry_tuple_getitem ?_ (args_tuple_getitem _ _)))
 show wpAny _ _ (Builtin.Tuple.tupleItemsOf (.ref t) >>= _) _ _ s
 refine wpAny_bind (tupleItemsOf_ ht ?_)
 refine wpAny_bind (wpAny_typeOf hTs ?_)
 rw [if_pos (by decide)]
 refine wpAny_bind (sliceApplied_gen hs pl pu ?_)
 have hno : ¬ ((((sIx items.size 0 lo : Nat) : Int) == 0 && (1 : Int) == 1 && (sIx items.size items.size hi - sIx items.size 0 lo) == items.size) = true) := by
  intro q
  rw [Bool.and_eq_true, Bool.and_eq_true] at q
  have q1 : ((sIx items.size 0 lo : Nat) : Int) = 0 := eq_of_beq q.1.1
  have q2 : sIx items.size items.size hi - sIx items.size 0 lo = items.size := eq_of_beq q.2
  exact hw ⟨by omega, by omega⟩
 show wpAny _ _ (if (((sIx items.size 0 lo : Nat) : Int) == 0 && (1 : Int) == 1 && (sIx items.size items.size hi - sIx items.size 0 lo) == items.size) = true then _ else _) _ _ s
 rw [if_neg hno, pick_gen]
 first
  | exact wpAny_bind (m := Builtin.Tuple.tupleExact _) (wpAny_newObj_type (wpAny_pure ⟨_, rfl, wpAny_pure h⟩) htake)
  | exact wpAny_bind (m := Builtin.Tuple.tupleExact _) (wpAny_newObj_type (wpAny_bind (wpAny_pure (wpAny_pure ⟨_, rfl, wpAny_pure h⟩))) htake)
  | exact wpAny_bind (wpAny_bind (m := Builtin.Tuple.tupleExact _) (wpAny_newObj_type (wpAny_pure (wpAny_pure ⟨_, rfl, wpAny_pure h⟩)) htake))
  | exact wpAny_bind (wpAny_bind (m := Builtin.Tuple.tupleExact _) (wpAny_newObj_type (wpAny_pure ⟨_, rfl, wpAny_pure h⟩) htake))
end
end HT
namespace L2
open PySem PySem.Spec PyProof.Rows
abbrev TO := St -> Hp -> (Option Int -> Hp -> Prop) -> Prop
def PO (X : Cx) (e : Option Expr) (t : TO) : Prop :=
 ∀ (pins : List (Addr × Obj)) (s : Shared) (σ : St) (H : Hp) (Q : Option Int -> Hp -> Prop), Inv X pins σ H s -> t σ H Q ->
  wpAny (model X.prog X.w) X.A (evalPart e X.env) (fun u s' => ∃ o H', Inv X pins σ H' s' /\ IsPart u o /\ Q o H') X.xe s
def tNoPart : TO := fun _ H Q => Q none H
def tPart (t : TE) : TO := fun σ H Q => t σ H fun x H1 => ∃ i, x = .int i /\ Q (some i) H1
theorem intsAre_of {ns : List Int} : ∀ {us : List Value}, Vals (ns.map V.int) us -> IntsAre us ns := by
 induction ns with
 | nil => intro us r; rw [List.map_nil] at r; cases r; exact .nil
 | cons n ns ih =>
  intro us r
  rw [List.map_cons] at r
  cases r with
  | cons r1 r2 =>
   obtain ⟨t, e⟩ := r1
   subst e
   exact .cons n t (ih r2)
section
variable {X : Cx} {e : Expr} {te : TE} {lo hi : Option Expr} {tl th : TO} {pos p2 : Pos}
theorem po_none : PO X none tNoPart := by
 intro pins s σ H Q I h
 rw [evalPart_none]
 exact wpAny_pure ⟨none, H, I, .none, h⟩
theorem po_some (h : PE X e te) : PO X (some e) (tPart te) := by
 intro pins s σ H Q I hw
 rw [evalPart_some]
 refine thn (h pins s σ H _ I hw) fun u s1 ⟨x, H1, I1, r1, q1⟩ => ?_
 obtain ⟨i, rfl, q⟩ := q1
 obtain ⟨t, rfl⟩ := r1
 exact ⟨some i, H1, I1, .int i t, q⟩
def SlR (X : Cx) (r : V -> Option Int -> Option Int -> Hp -> VK -> Prop) : Prop :=
 ∀ (pins : List (Addr × Obj)) (s : Shared) (σ : St) (H : Hp) (x : V) (v vl vu : Value) (lo hi : Option Int) (sl : Addr) (Q : VK), Inv X pins σ H s -> RelV x v -> s.heap.IsSliceOf sl vl vu .none -> IsPart vl lo -> IsPart vu hi -> r x lo hi H Q ->
  ∃ T id, typeLookup (.type T) "__getitem__" = pure (some (.builtin id)) /\ s.TypeIs v T /\ wpAny (model X.prog X.w) X.A (getItem v (.ref sl)) (EP X pins σ Q) X.xe s
def tSl (r : V -> Option Int -> Option Int -> Hp -> VK -> Prop) (te : TE) (tl th : TO) : TE := fun σ H Q => te σ H fun x H1 => tl σ H1 fun l H2 => th σ H2 fun u H3 => r x l u H3 Q
theorem pe_slice {r : V -> Option Int -> Option Int -> Hp -> VK -> Prop} (hr : SlR X r) (he : PE X e te) (hl : PO X lo tl) (hu : PO X hi th) : PE X (.Subscript e (.Slice lo hi none p2) pos) (tSl r te tl th) := by
 intro pins s σ H Q I h
 refine Subscript_ (thn (he pins s σ H _ I h) fun v s1 ⟨x, H1, I1, r1, q1⟩ => ?_)
 refine wpAny_Slice (thn (hl pins s1 σ H1 _ I1 q1) fun vl s2 ⟨l, H2, I2, pl, q2⟩ => thn (hu pins s2 σ H2 _ I2 q2) fun vu s3 ⟨u, H3, I3, pu, q3⟩ => ?_)
 rw [evalPart_none]
 refine wpAny_pure ?_
 have I4 : Inv X pins σ H3 { s3 with heap := s3.heap.push { cls := .type "slice", data := .fields #[vl, vu, .none] } } := I3.kept (t' := s3.toks) fun b ob q => Heap.get?_push_of_some _ q
 obtain ⟨T, id, hT, ht, hg⟩ := hr pins { s3 with heap := s3.heap.push { cls := .type "slice", data := .fields #[vl, vu, .none] } } σ H3 x v vl vu l u s3.heap.objs.size Q I4 r1 (Heap.IsSliceOf.new ..) pl pu q3
 show wpAny (model X.prog X.w) X.A (subscriptTail e (.Slice lo hi none p2) v (.ref s3.heap.objs.size)) (EP X pins σ Q) X.xe { s3 with heap := s3.heap.push { cls := .type "slice", data := .fields #[vl, vu, .none] } }
 exact tail_any (ops := [.ref s3.heap.objs.size, v]) ht hT hg (by with_unfolding_all rfl)
def cutV (xs : List V) (lo hi : Option Int) : List V := (xs.drop (HT.sIx xs.length 0 lo)).take (HT.sIx xs.length xs.length hi - HT.sIx xs.length 0 lo)
theorem cutV_length (xs : List V) (lo hi : Option Int) : (cutV xs lo hi).length <= xs.length := by
 unfold cutV
 rw [List.length_take, List.length_drop]
 omega
def rSlT (K : Fg_) : V -> Option Int -> Option Int -> Hp -> VK -> Prop := fun x lo hi H Q => ∃ a xs, x = .ref a /\ SqT K H a xs /\
 ¬ (HT.sIx xs.length 0 lo = 0 /\ HT.sIx xs.length xs.length hi = xs.length) /\ ∀ p, H p = none -> Q (.ref p) (upd H p (.tup (cutV xs lo hi)))
theorem sl_tup : SlR X (rSlT X.K) := by
 intro pins s σ H x v vl vu lo hi sl Q I rx hs pl pu h
 obtain ⟨a, xs, rfl, hx, hw, q⟩ := h
 cases rx
 obtain ⟨its, r, ht, hz⟩ := I.tuple hx
 have hlen : its.toArray.size = xs.length := by rw [List.size_toArray]; exact r.length.symm
 refine ⟨"tuple", _, PyProof.Rows.slot_tuple_getitem.lookup, ht.typeIs, ?_⟩
 refine HT.getItem_tuple_cut ht hs pl pu (by rw [hlen]; exact hw) ?_ (by rw [hlen]; exact hz)
 rw [hlen]
 refine ⟨.ref s.heap.objs.size, _, I.laid (t' := s.toks) (o := .tup (cutV xs lo hi)) (fun b ob q => Heap.get?_push_of_some _ q) (Nat.le_refl _) ?_, rfl, q _ (I.hok.fresh (Nat.le_refl _))⟩
 exact ⟨Nat.le_trans (cutV_length xs lo hi) hz, _, (r.drop (HT.sIx xs.length 0 lo)).take (HT.sIx xs.length xs.length hi - HT.sIx xs.length 0 lo), IsTup.new _ _⟩
def rCatT (K : Fg_) : R2 := fun x y H Q => ∃ a b xs ys, x = .ref a /\ y = .ref b /\ SqT K H a xs /\ SqT K H b ys /\ xs ≠ [] /\ xs.length + ys.length <= sizeLine /\
 (ys = [] -> Q (.ref a) H) /\ (ys ≠ [] -> ∀ p, H p = none -> Q (.ref p) (upd H p (.tup (xs ++ ys))))
theorem Vals.nil_iff {xs : List V} {us : List Value} (r : Vals xs us) : us = [] ↔ xs = [] := by
 cases r with
 | nil => simp
 | cons _ _ => simp
theorem op_catT : OpR X (binaryOp .Add) (rCatT X.K) := by
 intro pins s σ H x y v u Q I rx ry h
 obtain ⟨a, b, xs, ys, rfl, rfl, ha, hb, hx, hz, q1, q2⟩ := h
 cases rx
 cases ry
 obtain ⟨its, r1, p1, _⟩ := I.tuple ha
 obtain ⟨its2, r2, p2, _⟩ := I.tuple hb
 refine HT.cat_tup p1 p2 (fun z => hx (r1.nil_iff.mp z)) (fun z => ⟨.ref a, H, I, rfl, q1 (r2.nil_iff.mp z)⟩) (fun z => ?_) (by rw [<- r1.length, <- r2.length]; exact hz)
 refine ⟨.ref s.heap.objs.size, _, I.laid (t' := s.toks) (o := .tup (xs ++ ys)) (fun b ob q => Heap.get?_push_of_some _ q) (Nat.le_refl _) ?_, rfl, q2 (fun w => z (r2.nil_iff.mpr w)) _ (I.hok.fresh (Nat.le_refl _))⟩
 exact ⟨by rw [List.length_append]; exact hz, _, r1.append r2, IsTup.new _ _⟩
end
end L2
namespace L2
open PySem PySem.Spec PyProof.Rows
def ixN (n : Nat) (i : Int) : Option Nat := if 0 <= i then (if i < n then some i.toNat else none) else if -(n : Int) <= i then some (i + n).toNat else none
def atI {α : Type} (xs : List α) (i : Int) : Option α := (ixN xs.length i).bind fun j => xs[j]?
theorem ixN_seq {n : Nat} {i : Int} {j : Nat} (h : ixN n i = some j) : seqIndex? i n = some j /\ j < n /\ -(n : Int) <= i /\ i < n := by
 unfold ixN at h
 by_cases h0 : 0 <= i
 ·rw [if_pos h0] at h
  by_cases h1 : i < n
  ·rw [if_pos h1] at h
   have e : i.toNat = j := Option.some.inj h
   exact ⟨by rw [seqIndex_of h0 h1, e], by omega, by omega, h1⟩
  ·rw [if_neg h1] at h; cases h
 ·rw [if_neg h0] at h
  by_cases h1 : -(n : Int) <= i
  ·rw [if_pos h1] at h
   have e : (i + n).toNat = j := Option.some.inj h
   exact ⟨by rw [seqIndex_neg (by omega) h1, e], by omega, h1, by omega⟩
  ·rw [if_neg h1] at h; cases h
theorem atI_get {α : Type} {xs : List α} {i : Int} {v : α} (h : atI xs i = some v) : ∃ j, seqIndex? i xs.length = some j /\ xs[j]? = some v /\ j < xs.length /\ -(xs.length : Int) <= i /\ i < xs.length := by
 unfold atI at h
 cases e : ixN xs.length i with
 | none => rw [e] at h; cases h
 | some j =>
  rw [e] at h
  obtain ⟨h1, h2, h3, h4⟩ := ixN_seq e
  exact ⟨j, h1, h, h2, h3, h4⟩
theorem atI_nat {α : Type} {xs : List α} {j : Nat} {v : α} (h : xs[j]? = some v) : atI xs (j : Int) = some v := by
 have hj : j < xs.length := (List.getElem?_eq_some_iff.mp h).1
 have e : ixN xs.length (j : Int) = some j := by
  unfold ixN
  rw [if_pos (by omega), if_pos (by omega)]; simp
 unfold atI; rw [e]; exact h
def PlainIx (b : Expr) : Prop := ∀ o i, subscripted b false o i = operate [o, i] (getItem o i)
def IxR (X : Cx) (r : R2) : Prop :=
 ∀ (value slice : Expr) (pins : List (Addr × Obj)) (s : Shared) (σ : St) (H : Hp) (x y : V) (v u : Value) (Q : VK), Inv X pins σ H s -> RelV x v -> RelV y u -> r x y H Q ->
  subscripted slice false v u = operate [v, u] (getItem v u) -> wpAny (model X.prog X.w) X.A (subscriptTail value slice v u) (EP X pins σ Q) X.xe s
def MtR (X : Cx) (id : String) (r : V -> List V -> Hp -> VK -> Prop) : Prop :=
 ∀ (pins : List (Addr × Obj)) (s : Shared) (σ : St) (H : Hp) (x : V) (xs : List V) (v : Value) (us : List Value) (Q : VK), Inv X pins σ H s -> RelV x v -> Vals xs us -> r x xs H Q ->
  wpAny (model X.prog X.w) X.A (call (.builtin id) (v :: us)) (EP X pins σ Q) X.xe s
section
variable {X : Cx} {a b : Expr} {ta tb : TE} {pos : Pos}
theorem pe_ix {r : R2} (hr : IxR X r) (ha : PE X a ta) (hb : PE X b tb) (hs : PlainIx b) : PE X (.Subscript a b pos) (tOp r ta tb) := by
 intro pins s σ H Q I h
 exact Subscript_ (binT ha hb I h fun v u s2 x y H2 I2 rx ry q => hr a b pins s2 σ H2 x y v u Q I2 rx ry q (hs _ _))
def rIxL (K : Fg_) : R2 := fun x y H Q => ∃ p xs i v, x = .ref p /\ y = .int i /\ SqL K H p xs /\ atI xs i = some v /\ Q v H
def rIxT (K : Fg_) : R2 := fun x y H Q => ∃ p xs i v, x = .ref p /\ y = .int i /\ SqT K H p xs /\ atI xs i = some v /\ Q v H
theorem ix_list : IxR X (rIxL X.K) := by
 intro value slice pins s σ H x y v u Q I rx ry h hs
 obtain ⟨p, xs, i, z, rfl, rfl, hq, he, q⟩ := h
 cases rx
 obtain ⟨t, rfl⟩ := ry
 obtain ⟨its, r, pl, hz⟩ := I.list hq
 obtain ⟨j, h1, h2, h3, h4, h5⟩ := atI_get he
 obtain ⟨w, ew, rw'⟩ := r.get h2
 have hl := r.length
 have hn := line63
 have fin : EP X pins σ Q w s := ⟨z, H, I, rw', q⟩
 by_cases h0 : 0 <= i
 ·have hj : i.toNat = j := by
   rw [seqIndex_of h0 h5] at h1
   exact Option.some.inj h1
  exact item_listR pl.isList h0 (by omega) (by rw [hj]; simpa using ew) fin hs
 ·have hj : (i + (its.toArray.size : Int)).toNat = j := by
   rw [seqIndex_neg (by omega) h4] at h1
   rw [List.size_toArray, <- hl]
   exact Option.some.inj h1
  exact subscriptTail_builtinR (x := w) pl.isList.typeIs slot_list_getitem.lookup
   (wpAny_getItem_list_neg (Q := fun r s' => r = w /\ EP X pins σ Q r s') pl.isList (by omega) (by rw [List.size_toArray] <;> omega) (by omega) (by rw [hj]; simpa using ew) ⟨rfl, fin⟩) hs
theorem ix_tup : IxR X (rIxT X.K) := by
 intro value slice pins s σ H x y v u Q I rx ry h hs
 obtain ⟨p, xs, i, z, rfl, rfl, hq, he, q⟩ := h
 cases rx
 obtain ⟨t, rfl⟩ := ry
 obtain ⟨its, r, pl, hz⟩ := I.tuple hq
 obtain ⟨j, h1, h2, h3, h4, h5⟩ := atI_get he
 obtain ⟨w, ew, rw'⟩ := r.get h2
 have hl := r.length
 have hn := line63
 have fin : EP X pins σ Q w s := ⟨z, H, I, rw', q⟩
 exact subscriptTail_builtinR (x := w) pl.typeIs slot_tuple_getitem.lookup
  (getItem_tuple (j := j) (Q := fun r s' => r = w /\ EP X pins σ Q r s') pl (by omega) (by omega) (by rw [List.size_toArray, <- hl]; exact h1) (by simpa using ew) ⟨rfl, fin⟩) hs
theorem Inv.lst {pins : List (Addr × Obj)} {σ : St} {H : Hp} {s : Shared} {p : Addr} {xs : List V} (I : Inv X pins σ H s) (h : H p = some (.lst xs)) :
  ∃ (its : List Value) (n : Nat), Vals xs its /\ s.heap.get? p = some { cls := .type "list", data := .seq its.toArray n } /\ xs.length <= sizeLine := by
 obtain ⟨z, its, n, r, e⟩ := I.hok p _ h
 exact ⟨its, n, r, e, z⟩
def flatV : V -> Bool
 | .non => true
 | .bl _ => true
 | .int _ => true
 | .str _ => true
 | _ => false
def eqV : V -> V -> Bool
 | .non, .non => true
 | .bl a, .bl b => a == b
 | .bl a, .int b => (if a then 1 else 0) == b
 | .int a, .bl b => a == (if b then 1 else 0)
 | .int a, .int b => a == b
 | .str a, .str b => a == b
 | _, _ => false
theorem eqAt_V {A : Around} {s : Shared} {y x : V} {u v : Value} (ry : RelV y u) (rx : RelV x v) (fy : flatV y = true) (fx : flatV x = true) : SeqAt.EqAt A s u v (eqV y x) := by
 cases y with
 | non =>
  cases ry
  cases x with
  | non => cases rx; exact SeqAt.EqAt.same _
  | bl b => cases rx; exact SeqAt.EqAt.none_bool b
  | int b => obtain ⟨t, rfl⟩ := rx; exact SeqAt.EqAt.none_int b t
  | str b => obtain ⟨t, rfl⟩ := rx; exact SeqAt.EqAt.none_str b t
  | _ => exact absurd (show false = true from fx) Bool.false_ne_true
 | bl a =>
  cases ry
  cases x with
  | non => cases rx; exact SeqAt.EqAt.bool_none a
  | bl b => cases rx; exact SeqAt.EqAt.bool_bool a b
  | int b => obtain ⟨t, rfl⟩ := rx; exact SeqAt.EqAt.bool_int a b t
  | str b => obtain ⟨t, rfl⟩ := rx; exact SeqAt.EqAt.bool_str a b t
  | _ => exact absurd (show false = true from fx) Bool.false_ne_true
 | int a =>
  obtain ⟨t', rfl⟩ := ry
  cases x with
  | non => cases rx; exact SeqAt.EqAt.int_none a t'
  | bl b => cases rx; exact SeqAt.EqAt.int_bool a t' b
  | int b => obtain ⟨t, rfl⟩ := rx; exact SeqAt.EqAt.int_int a t' b t
  | str b => obtain ⟨t, rfl⟩ := rx; exact SeqAt.EqAt.int_str a t' b t
  | _ => exact absurd (show false = true from fx) Bool.false_ne_true
 | str a =>
  obtain ⟨t', rfl⟩ := ry
  cases x with
  | non => cases rx; exact SeqAt.EqAt.str_none a t'
  | bl b => cases rx; exact SeqAt.EqAt.str_bool a t' b
  | int b => obtain ⟨t, rfl⟩ := rx; exact SeqAt.EqAt.str_int a t' b t
  | str b => obtain ⟨t, rfl⟩ := rx; exact SeqAt.EqAt.str_str a t' b t
  | _ => exact absurd (show false = true from fx) Bool.false_ne_true
 | _ => exact absurd (show false = true from fy) Bool.false_ne_true
def eqU (x : V) (u : Value) : Bool := match u with
 | .none => eqV .non x
 | .bool b => eqV (.bl b) x
 | .int i _ => eqV (.int i) x
 | .str z _ => eqV (.str z) x
 | _ => false
theorem eqU_of {x y : V} {u : Value} (r : RelV y u) (f : flatV y = true) : eqU x u = eqV y x := by
 cases y with
 | non => cases r; rfl
 | bl b => cases r; rfl
 | int i => obtain ⟨t, rfl⟩ := r; rfl
 | str z => obtain ⟨t, rfl⟩ := r; rfl
 | _ => exact absurd (show false = true from f) Bool.false_ne_true
theorem any_eqU {x : V} : ∀ {xs : List V} {us : List Value}, Vals xs us -> xs.all flatV = true -> us.any (eqU x) = xs.any fun y => eqV y x
 | _, _, .nil, _ => rfl
 | y :: xs, u :: us, .cons r t, f => by
  rw [List.all_cons, Bool.and_eq_true] at f
  rw [List.any_cons, List.any_cons, eqU_of r f.1, any_eqU t f.2]
theorem mem_eqAt {A : Around} {s : Shared} {x : V} {v : Value} (rx : RelV x v) (fx : flatV x = true) : ∀ {xs : List V} {us : List Value}, Vals xs us -> xs.all flatV = true -> ∀ u ∈ us, SeqAt.EqAt A s u v (eqU x u)
 | _, _, .nil, _ => fun u hu => by cases hu
 | y :: xs, u :: us, .cons r t, f => fun u' hu => by
  rw [List.all_cons, Bool.and_eq_true] at f
  rcases List.mem_cons.mp hu with rfl | hu
  ·rw [eqU_of r f.1]; exact eqAt_V r rx f.1 fx
  ·exact mem_eqAt rx fx t f.2 u' hu
def inV (x : V) (xs : List V) : Bool := xs.any fun y => eqV y x
def rIn (K : Fg_) (neg : Bool) : R2 := fun x y H Q => ∃ p xs, y = .ref p /\ (SqL K H p xs \/ SqT K H p xs) /\ flatV x = true /\ xs.all flatV = true /\ Q (.bl (if neg then !inV x xs else inV x xs)) H
theorem op_in_seq : OpR X (compareOp .In) (rIn X.K false) := by
 intro pins s σ H x y v u Q I rx ry h
 obtain ⟨p, xs, rfl, hq, fx, fs, q⟩ := h
 cases ry
 rcases hq with hq | hq
 ·obtain ⟨its, r, pl, hz⟩ := I.list hq
  refine SeqAt.in_listAt (eqU x) pl.isList (fun w hw => mem_eqAt rx fx r fs w (by simpa using hw)) ⟨.bl _, H, I, rfl, ?_⟩
  rw [show its.toArray.any (eqU x) = its.any (eqU x) by simp, any_eqU r fs]
  exact q
 ·obtain ⟨its, r, pl, hz⟩ := I.tuple hq
  refine SeqAt.in_tupleAt (eqU x) pl (fun w hw => mem_eqAt rx fx r fs w (by simpa using hw)) ⟨.bl _, H, I, rfl, ?_⟩
  rw [show its.toArray.any (eqU x) = its.any (eqU x) by simp, any_eqU r fs]
  exact q
theorem call_len_seq : CallR X (.builtin "len") (fun xs H Q => ∃ p ys, xs = [.ref p] /\ (SqL X.K H p ys \/ SqT X.K H p ys) /\ Q (.int ys.length) H) := by
 intro pins s σ H xs us Q I r h
 obtain ⟨p, ys, rfl, hq, q⟩ := h
 obtain ⟨u, rfl, rx⟩ := vals1 r
 cases rx
 have hn := line63
 rcases hq with hq | hq
 ·obtain ⟨its, r', pl, hz⟩ := I.list hq
  have hlen := r'.length
  exact Calls.call_len_list pl.isList (by simp only [List.size_toArray] <;> omega) ⟨.int ys.length, H, I.tok _, ⟨s.toks + 1, by rw [List.size_toArray, hlen]⟩, q⟩
 ·obtain ⟨its, r', pl, hz⟩ := I.tuple hq
  have hlen := r'.length
  exact len_tuple pl (by simp only [List.size_toArray] <;> omega) ⟨.int ys.length, H, I.tok _, ⟨s.toks + 1, by rw [List.size_toArray, hlen]⟩, q⟩
theorem call_len_str : CallR X (.builtin "len") (fun xs H Q => ∃ z, xs = [.str z] /\ z.length <= sizeLine /\ Q (.int z.length) H) := by
 intro pins s σ H xs us Q I r h
 obtain ⟨z, rfl, hz, q⟩ := h
 obtain ⟨u, rfl, t, rfl⟩ := vals1 r
 have hn := line63
 exact len_str (by omega) ⟨.int z.length, H, I.tok _, ⟨_, rfl⟩, q⟩
theorem call_list_of : CallR X (.type "list") (fun xs H Q => ∃ p ys, xs = [.ref p] /\ (SqL X.K H p ys \/ SqT X.K H p ys) /\ ∀ l, H l = none -> Q (.ref l) (upd H l (.lst ys))) := by
 intro pins s σ H xs us Q I r h
 obtain ⟨p, ys, rfl, hq, q⟩ := h
 obtain ⟨u, rfl, rx⟩ := vals1 r
 cases rx
 have fin : ∀ (its : List Value), Vals ys its -> ys.length <= sizeLine -> ∀ (h' : Heap) (c' : Nat), (∀ b o', s.heap.get? b = some o' -> h'.get? b = some o') ->
   h'.get? s.heap.objs.size = some { cls := .type "list", dict := none, data := .seq its.toArray c', slots := #[] } -> EP X pins σ Q (.ref s.heap.objs.size) { s with heap := h' } := fun its r' hz h' c' kp e =>
  ⟨.ref s.heap.objs.size, _, I.laid (t' := s.toks) kp (Nat.le_refl _) (show ObjOk X.prog X.w _ h' _ (.lst ys) from ⟨hz, its, c', r', e⟩), rfl, q _ (I.hok.fresh (Nat.le_refl _))⟩
 rcases hq with hq | hq
 ·obtain ⟨its, r', pl, hz⟩ := I.list hq
  have hlen := r'.length
  obtain ⟨o, ho, hc, n, hd⟩ := pl.isList
  exact call_list_seq p (.inl rfl) ho hc hd (fun h' c' kp e => fin its r' hz h' c' kp e) (by simp only [List.size_toArray] <;> omega)
 ·obtain ⟨its, r', pl, hz⟩ := I.tuple hq
  have hlen := r'.length
  obtain ⟨o, ho, hc, n, hd⟩ := pl
  exact call_list_seq p (.inr rfl) ho hc hd (fun h' c' kp e => fin its r' hz h' c' kp e) (by simp only [List.size_toArray] <;> omega)
theorem call_tuple_of : CallR X (.type "tuple") (fun xs H Q => ∃ p ys, xs = [.ref p] /\ ((SqL X.K H p ys /\ ∀ l, H l = none -> Q (.ref l) (upd H l (.tup ys))) \/ (SqT X.K H p ys /\ Q (.ref p) H))) := by
 intro pins s σ H xs us Q I r h
 obtain ⟨p, ys, rfl, h⟩ := h
 obtain ⟨u, rfl, rx⟩ := vals1 r
 cases rx
 rcases h with ⟨hq, q⟩ | ⟨hq, q⟩
 ·obtain ⟨its, r', pl, hz⟩ := I.list hq
  have hlen := r'.length
  refine call_tuple_list pl.isList (fun h' kp => ?_) (by simp only [List.size_toArray] <;> omega)
  have I1 : Inv X pins σ H { s with heap := h' } := I.kept (t' := s.toks) kp
  have I2 : Inv X pins σ (upd H h'.objs.size (.tup ys)) { s with heap := h'.push { cls := .type "tuple", data := .seq its.toArray } } :=
   I1.laid (t' := s.toks) (fun b o e => Heap.get?_push_of_some _ e) (Nat.le_refl _) (show ObjOk X.prog X.w _ _ _ (.tup ys) from ⟨hz, its, r', IsTup.new _ _⟩)
  exact ⟨.ref h'.objs.size, _, I2, rfl, q _ (I1.hok.fresh (Nat.le_refl _))⟩
 ·obtain ⟨its, r', pl, hz⟩ := I.tuple hq
  exact call_tuple_same pl ⟨.ref p, H, I, rfl, q⟩
def tyV (K : Fg_) (T : String) (x : V) (H : Hp) : Prop := match x with
 | .str _ => T = "str"
 | .int _ => T = "int"
 | .ref p => (T = "list" /\ ∃ xs, SqL K H p xs) \/ (T = "tuple" /\ ∃ o, K.lookup p = some o /\ o.cls = .type "tuple" /\ o.dict = none) \/
   (T = "dict" /\ ((∃ kvs, H p = some (.dK kvs)) \/ ∃ kvs, H p = some (.dT kvs))) \/ (T = "set" /\ ∃ S n, H p = some (.set S n))
 | _ => False
theorem tyV_is {pins : List (Addr × Obj)} {σ : St} {H : Hp} {s : Shared} {T : String} {x : V} {v : Value} (I : Inv X pins σ H s) (r : RelV x v) (ty : tyV X.K T x H) :
  s.TypeIs v T /\ ∀ a, v = .ref a -> ∃ ob, s.heap.get? a = some ob /\ ob.dict = none := by
 cases x with
 | str z =>
  obtain ⟨t, rfl⟩ := r
  cases (show T = "str" from ty)
  exact ⟨typeIs_str s z t, fun _ e => nomatch e⟩
 | int i =>
  obtain ⟨t, rfl⟩ := r
  cases (show T = "int" from ty)
  exact ⟨typeIs_int s i t, fun _ e => nomatch e⟩
 | ref p =>
  cases r
  rcases ty with ⟨rfl, xs, hq⟩ | ⟨rfl, o, hk, hc, hd⟩ | ⟨rfl, hk⟩ | ⟨rfl, S, n, hk⟩
  ·obtain ⟨its, _, pl, _⟩ := I.list hq
   refine ⟨pl.isList.typeIs, fun a e => ?_⟩
   cases e
   obtain ⟨o, n, e, c, hd, _⟩ := pl
   exact ⟨o, e, hd⟩
  ·refine ⟨⟨o, I.kIn p o hk, hc⟩, fun a e => ?_⟩
   cases e
   exact ⟨o, I.kIn _ o hk, hd⟩
  ·have z : ∃ o, s.heap.get? p = some o /\ o.ExactDict := by
    rcases hk with ⟨kvs, hk⟩ | ⟨kvs, hk⟩
    ·obtain ⟨_, _, _, _, o, _, _, e, ex, _⟩ := I.hok p _ hk
     exact ⟨o, e, ex⟩
    ·obtain ⟨_, _, _, _, o, _, _, e, ex, _⟩ := I.hok p _ hk
     exact ⟨o, e, ex⟩
   obtain ⟨o, e, ex⟩ := z
   refine ⟨⟨o, e, ex.1⟩, fun a e2 => ?_⟩
   cases e2
   exact ⟨o, e, ex.2.1⟩
  ·obtain ⟨o, _, _, _, e, ex, _⟩ := I.hok p _ hk
   refine ⟨⟨o, e, ex.1⟩, fun a e2 => ?_⟩
   cases e2
   exact ⟨o, e, ex.2.1⟩
 | _ => exact False.elim ty
def tBM (K : Fg_) (T : String) (r : V -> List V -> Hp -> VK -> Prop) (to : TE) (t : TA) : TE := fun σ H Q => to σ H fun x H1 => tyV K T x H1 /\ t σ H1 fun xs H2 => r x xs H2 Q
variable {o e : Expr} {es : List Expr} {to : TE} {t : TA} {name : Str} {apos cpos : Pos} {T id : String} {r : V -> List V -> Hp -> VK -> Prop}
theorem pe_bm (pa : PlainAttrs T) (slot : Slot T name id) (hty : typeOf (.builtin id) = pure (.type "method_descriptor")) (hm : MtR X id r) (ho : PE X o to) (ha : PA X (e :: es) t)
  (hbase : attributeBase o name X.env (eval o X.env) = eval o X.env := by rfl)
  (hfew : ((backTo cpos (starEach (e :: es) X.env)).all (fun x => !x.1) && (backToKw cpos (keywordEach [] X.env)).all (fun x => x.1.isSome)
   && decide ((e :: es).length + ([] : List Keyword).length + (if ([] : List Keyword).isEmpty then 0 else 1) < 30)) = true := by rfl)
  (hline : (apos.endLine == cpos.line) = true := by rfl) (hs : starEach (e :: es) X.env = (false, eval e X.env) :: starEach es X.env := by rfl) (hplain : (backTo cpos (starEach es X.env)).any (·.1) = false := by rfl) :
  PE X (.Call (.Attribute o name apos) (e :: es) [] cpos) (tBM X.K T r to t) := by
 intro pins s σ H Q I h
 refine wpAny_Call_method_late hbase hfew hline rfl (thn (ho pins s σ H _ I h) fun v s1 ⟨x, H1, I1, r1, ty, q1⟩ => ?_)
 obtain ⟨h1, h2⟩ := tyV_is I1 r1 ty
 refine ⟨T, id, pa, slot, hty, h1, h2, ?_⟩
 have hA := ha cpos pins s1 σ H1 _ I1 q1
 rw [hs] at hA ⊢
 refine Calls.callWith_builtin (by show (false || (backTo cpos (starEach es X.env)).any (·.1)) = false; rw [hplain] <;> rfl) (Calls.evalArgs_plain ?_)
 exact thn hA fun us s2 ⟨vs, H2, I2, r2, q2⟩ => hm pins s2 σ H2 x vs v us Q I2 r1 r2 q2
end
end L2
namespace L2
open PySem PySem.Spec PyProof.Rows
def MtM (X : Cx) (id : String) (r : V -> List V -> Hp -> VK -> Prop) : Prop :=
 ∀ (pins : List (Addr × Obj)) (s : Shared) (σ : St) (H : Hp) (x : V) (xs : List V) (v : Value) (us : List Value) (Q : VK), Inv X pins σ H s -> RelV x v -> Vals xs us -> r x xs H Q ->
  wpAny (model X.prog X.w) X.A (call (.builtin id) (v :: us)) (EP X pins σ Q) X.xe s
theorem Vals.one : ∀ {x : V} {us : List Value}, Vals [x] us -> ∃ u, us = [u] /\ RelV x u
 | _, _, .cons r .nil => ⟨_, rfl, r⟩
section
variable {X : Cx} {pins : List (Addr × Obj)} {σ : St} {H : Hp} {s : Shared} {l b : Addr} {xs ys zs : List V}
theorem Inv.lset {its its' : List Value} {n : Nat} {f : Array Value -> Array Value} {t' : Nat} (I : Inv X pins σ H s) (hH : H l = some (.lst xs))
  (e : s.heap.get? l = some { cls := .type "list", data := .seq its.toArray n }) (hf : f its.toArray = its'.toArray) (hv : Vals ys its') (hz : ys.length <= sizeLine) :
  Inv X pins σ (upd H l (.lst ys)) { s with heap := s.heap.update l (Obj.mapSeq f), toks := t' } := by
 have q := PySem.IsL.update e f
 rw [hf] at q
 refine I.write (x := l) (e := l) (by rw [hH]; exact trivial) (.inl rfl) (fun b' u hb hu => (Heap.get?_update_other s.heap (Obj.mapSeq f) (Ne.symm hb)).trans hu) ⟨_, q⟩ ?_
 exact ⟨hz, its', _, hv, q⟩
theorem Inv.lnew {its : List Value} {t' : Nat} (I : Inv X pins σ H s) (hv : Vals ys its) (hz : ys.length <= sizeLine) :
  Inv X pins σ (upd H s.heap.objs.size (.lst ys)) { s with heap := s.heap.push { cls := .type "list", data := .seq its.toArray }, toks := t' } :=
 I.laid (fun _ _ q => Heap.get?_push_of_some _ q) (Nat.le_refl _) ⟨hz, its, 0, hv, Heap.get?_push_size _ rfl⟩
theorem Inv.fresh (I : Inv X pins σ H s) : H s.heap.objs.size = none := I.hok.fresh (Nat.le_refl _)
theorem Inv.lstM (I : Inv X pins σ H s) (hH : H l = some (.lst xs)) : xs.length <= sizeLine /\ ∃ (its : List Value) (n : Nat), Vals xs its /\ xs.length = its.length /\ s.heap.get? l = some { cls := .type "list", data := .seq its.toArray n } := by
 obtain ⟨z, its, n, r, e⟩ := I.hok l _ hH
 exact ⟨z, its, n, r, r.length, e⟩
end
section
variable {X : Cx}
def rAppend : V -> List V -> Hp -> VK -> Prop := fun x vs H Q => ∃ l xs y, x = .ref l /\ vs = [y] /\ H l = some (.lst xs) /\ xs.length < sizeLine /\ Q .non (upd H l (.lst (xs ++ [y])))
theorem mt_append : MtM X "list.append" rAppend := by
 intro pins s σ H x vs v us Q I rx rv h
 obtain ⟨l, xs, y, rfl, rfl, hH, hz, q⟩ := h
 cases rx
 obtain ⟨u, rfl, ru⟩ := rv.one
 obtain ⟨z, its, n, r, hl, e⟩ := I.lstM hH
 refine call_meets F.slot_list_append ⟨_, e, rfl⟩ F.entry_list_append (F.args_list_append_2 _ _) (PySem.list_append l its.toArray n u (by rw [List.size_toArray]; omega)) ⟨e, ?_⟩
 refine ⟨.non, _, I.lset (its' := its ++ [u]) hH e (by simp) (r.append (.cons ru .nil)) ?_, rfl, q⟩
 rw [List.length_append, List.length_singleton]
 omega
def rCat : R2 := fun x y H Q => ∃ l b xs zs, x = .ref l /\ y = .ref b /\ H l = some (.lst xs) /\ H b = some (.lst zs) /\ xs.length + zs.length <= sizeLine /\ ∀ p, H p = none -> Q (.ref p) (upd H p (.lst (xs ++ zs)))
theorem op_cat : OpR X (binaryOp .Add) rCat := by
 intro pins s σ H x y v u Q I rx ry h
 obtain ⟨l, b, xs, zs, rfl, rfl, hH, hB, hz, q⟩ := h
 cases rx
 cases ry
 obtain ⟨z, its, n, r, hl, e⟩ := I.lstM hH
 obtain ⟨z2, its2, n2, r2, hl2, e2⟩ := I.lstM hB
 refine PySem.P.add_list e e2 ?_ (by rw [List.size_toArray, List.size_toArray]; omega)
 have ea : its.toArray ++ its2.toArray = (its ++ its2).toArray := by simp
 rw [ea]
 exact ⟨.ref _, _, I.lnew (t' := s.toks) (r.append r2) (by rw [List.length_append]; omega), rfl, q _ I.fresh⟩
end
section
variable {prog : Program} {w : World} {A : Around} {E : Value -> Shared -> Prop} {s : Shared}
set_option maxRecDepth 100000 in
end
end L2
namespace Att
open PySem PySem.W PySem.Calls PyProof.Rows
theorem ints_of_wellAll {P : Params} {h : Heap} : ∀ (ns : List Int) (vs : List Value), WellAll P h vs (ns.map WData.int) -> IntsAre vs ns := by
 intro ns
 induction ns with
 | nil =>
  intro vs w
  rw [List.map_nil] at w
  cases w
  exact .nil
 | cons n ns ih =>
  intro vs w
  rw [List.map_cons] at w
  cases w with
  | cons a b =>
   cases a
   exact .cons _ _ (ih _ b)
theorem script_of {l : OpenLaw} {n : Nat} (hn : l.most = some n) {P : Params} {h : Heap} {args : List WData} {vals : List Value}
  (hpre : l.row.toRowW.claim.pre args = true) (hwl : WellAll P h vals args) :
  ∃ a vs ns, vals = [Value.ref a] /\ args = [WData.list (ns.map WData.int)] /\ h.get? a = some { cls := .type "list", data := .seq vs.toArray } /\ IntsAre vs ns /\ ns.length <= n := by
 have hsh : WShape.hasAll [] args [.list .int] = true := (pre_splitW hpre).1
 have hc : l.pre.holds [] { args := args } = true := (pre_splitW hpre).2
 obtain ⟨d, r, rfl, h1, h2⟩ := hasAllW_cons hsh
 obtain rfl := hasAllW_nil h2
 obtain ⟨xs, rfl, h3⟩ := hasW_list h1
 obtain ⟨ns, rfl⟩ := items_int h3
 have hlen : ns.length <= n := by
  unfold OpenLaw.pre at hc
  have h4 : (WTm.not (.lt (.lit (.int (n : Int))) (.len (.arg 0)))).holds [] { args := [.list (ns.map .int)] } = true := by
   have h4 := (holds_andW hc).1
   rw [hn] at h4
   exact h4
  have h5 := condW_of h4 (w_not (w_lt w_lit (w_len_list (w_arg rfl))))
  rw [List.length_map] at h5
  refine Nat.le_of_not_lt fun q => ?_
  have q' : (n : Int) < ((ns.length : Nat) : Int) := by omega
  first
   | (rw [decide_eq_true q'] at h5; exact absurd h5 (by decide))
   | (simp at h5; omega)
 cases hwl with
 | cons w1 w2 =>
  cases w2
  cases w1 with
  | list ho hall => exact ⟨_, _, ns, rfl, rfl, ho, ints_of_wellAll ns _ hall, hlen⟩
theorem post_true (l : OpenLaw) (args : List WData) : l.row.toRowW.claim.post args (.bool true) args = true :=
 postW_of (r := l.row.toRowW) (X := (true == true))
  (show WShape.has [] (.bool true) .bool = true by first | rfl | decide | simp [WShape.has, WShape.arms, WShape.armsAll])
  (show (WTm.eq .res (.lit (.bool true))).value [] { args := args, res := some (.bool true), after := args } = some (.bool (true == true)) from w_eq_bool (w_res rfl) w_lit) rfl
theorem attach_call {l : OpenLaw} {n : Nat} {q : Program} {loose : List Str} {XP : (Str -> Option Value) -> Heap -> Prop} {YP : World -> Heap -> Prop} {d : DefRec}
  (hn : l.most = some n) (hdf : d.params.defaults = [])
  (call : ∀ (w : World) (s₀ s₁ : Shared) (mg mb : Str -> Option Value) (fa : Addr) (o : Obj) (pm cd doc : Value) (a : Addr) (vs : List Value) (ns : List Int),
   Ground q loose [] XP w s₀ mg mb s₁.heap -> YP w s₁.heap ->
   s₁.heap.get? fa = some o -> o.data = .func (docDef d.name d.params d.body d.scope pm cd doc) -> s₁.heap.CodeRec cd d.name -> mg d.name = some (.ref fa) ->
   s₁.heap.get? a = some { cls := .type "list", data := .seq vs.toArray } -> IntsAre vs ns -> ns.length <= n -> s₁.gens = #[] ->
   codeAny (model l.prog w) callerA (.call (.ref fa) ⟨[.ref a], []⟩) (fun r s' => r = .ok (.ret (.bool true)) /\ OldK s₁.heap s'.heap /\ s'.os = s₁.os /\ AllBare s'.gens) s₁) :
  WalkO q loose XP YP l.row.toRowW d [] (fun f vs => PySem.call f vs) := by
 intro w s₀ s₁ mg mb G Y fa o pm cd doc dV kV ho hd hcd hD hmg hg args vals as hpre hlay hrd hwl hlo
 obtain rfl : dV = .none := Dflts.none hD hdf
 obtain rfl : kV = .none := Dflts.noKw hD
 obtain ⟨a, vs, ns, rfl, rfl, hobj, hints, hlen⟩ := script_of hn hpre hwl
 refine enter_call (codeAny_mono (call w s₀ s₁ mg mb fa o pm cd doc a vs ns G Y ho (fd_plain hd) hcd hmg hobj hints hlen hg) fun r s' hq => ?_)
 obtain ⟨rfl, h2, h3, h4⟩ := hq
 exact ⟨.inl ⟨.bool true, .bool true, [], rfl, fun _ => rfl, .bool true, post_true l _, fun _ => ⟨List.Pairwise.nil, fun _ hm => (nomatch hm)⟩⟩, h2, h3, h4⟩
end Att
namespace L2
open PySem PySem.Spec PyProof.Rows
theorem vals_ints : ∀ {vs : List Value} {ns : List Int}, IntsAre vs ns -> Vals (ns.map V.int) vs
 | _, _, .nil => .nil
 | _, _, .cons n t h => .cons ⟨t, rfl⟩ (vals_ints h)
def Only (H : Hp) : Prop := ∀ b, H b = none \/ ∃ o xs, H b = some (.frz o (.lst xs))
theorem law_call {P : Program} {w : World} {K : Fg_} {mg mb : Str -> Option Value} {CX : CXT} {k : Nat} {fa a : Addr} {fd : FuncData} {x : Str} {sp : Sp} {s₁ : Shared} {vs : List Value} {ns : List Int}
  (KX : K.In s₁.heap) (hns : s₁.heap.Ns mainGlobals mg) (hb : s₁.heap.Ns builtinsNs mb) (hbb : ∀ x : Str, x ≠ "__name__" -> mb x = bootBuiltins x) (hlim : s₁.heap.NoLimit) (hg : s₁.gens = #[])
  (ha : s₁.heap.get? a = some { cls := .type "list", data := .seq vs.toArray }) (hi : IntsAre vs ns) (hl : ns.length <= sizeLine) (hr : Room k callerA)
  (F : ∀ base : Heap, K.In base -> base.Ns mainGlobals mg -> FnOk P w K mg base CX k fa fd [x] sp) (hbind : ∀ (s : Shared) (u : Value), BindsTo s fd ⟨[u], []⟩ [(x, u)])
  (hsp : ∀ H : Hp, Only H -> SqL K H a (ns.map V.int) -> sp [.ref a] H (fun v _ => v = .bl true) fun _ _ _ => False)
  (hCX : ∀ H e s', CX [] H s₁ (fun _ _ _ => False) e s' -> False) :
  codeAny (model P w) callerA (.call (.ref fa) ⟨[.ref a], []⟩) (fun r s' => r = .ok (.ret (.bool true)) /\ OldK s₁.heap s'.heap /\ s'.os = s₁.os /\ AllBare s'.gens) s₁ := by
 have rv := vals_ints hi
 have lenV := hi.length
 have core : ∀ H : Hp, Only H -> SqL K H a (ns.map V.int) -> HOk P w H s₁.heap -> (∀ b, H b ≠ none -> b = a) -> (H a ≠ none -> K.lookup a = none) ->
   codeAny (model P w) callerA (.call (.ref fa) ⟨[.ref a], []⟩) (fun r s' => r = .ok (.ret (.bool true)) /\ OldK s₁.heap s'.heap /\ s'.os = s₁.os /\ AllBare s'.gens) s₁ := by
  intro H hO hS hok hA hK
  have base_of : ∀ {b : Addr} {o : Obj}, s₁.heap.get? b = some o -> H b = none -> (hidT s₁.heap H).get? b = some o := fun e n => hidT_get e n
  have noA : ∀ {b : Addr} {o : Obj} {es : Array DictEntry} {ep : Nat}, s₁.heap.get? b = some o -> o.data = .dict es ep -> H b = none := fun {b o es ep} e d => by
   cases q : H b with
   | none => rfl
   | some u =>
    have e' : b = a := hA b (by rw [q]; simp)
    subst e'
    rw [ha] at e; cases e
    have d' : Data.seq vs.toArray _ = Data.dict es ep := d
    cases d'
  have nsK : ∀ {b : Addr} {m : Str -> Option Value}, s₁.heap.Ns b m -> (hidT s₁.heap H).Ns b m := fun {b m} ⟨o, es, ep, e, d, r⟩ => ⟨o, es, ep, base_of e (noA e d), d, r⟩
  have hKb : K.In (hidT s₁.heap H) := fun b o e => base_of (KX b o e) (by
   cases q : H b with
   | none => rfl
   | some u =>
    have e' : b = a := hA b (by rw [q]; simp)
    subst e'
    rw [hK (by rw [q]; simp)] at e; cases e)
  have hM : Mod K mg (hidT s₁.heap H) := ⟨hKb, nsK hns, ⟨mb, nsK hb, hbb⟩, let ⟨mc, h1, h2⟩ := hlim; ⟨mc, nsK h1, h2⟩⟩
  have e0 : Env0 P w K mg (hidT s₁.heap H) callerA [] s₁ H := ⟨rfl, hM, fun b o e => of_hidT e, Nat.le_of_eq (hidT_size _ _), trivial, fun b hb => absurd (show b ∈ ([] : List Addr) from hb) (by simp), hok, .of_eq hg⟩
  refine codeAny_mono ((F _ hKb (nsK hns)).run callerA [] s₁ H ⟨[.ref a], []⟩ [.ref a] [.ref a] _ _ hr e0 (hbind s₁ (.ref a)) (.cons rfl .nil) (hsp H hO hS)) fun r s' h => ?_
  cases r with
  | error e => exact (hCX H e s' h).elim
  | ok fl =>
   cases fl with
   | next => exact False.elim h
   | brk => exact False.elim h
   | cont => exact False.elim h
   | ret u =>
    obtain ⟨v, H', os, bare, un, hok', r', q⟩ := h
    have q' : v = .bl true := q
    subst q'
    obtain rfl : u = Value.bool true := r'
    refine ⟨rfl, OldK.of_keep fun b o e => ?_, os, bare⟩
    cases q : H b with
    | none => exact un.keep b o e q (by intro z; exact absurd (show b ∈ ([] : List Addr) from z) (by simp)) (by simp)
    | some u =>
     rcases hO b with z | ⟨ob, xs, z⟩
     ·rw [q] at z; cases z
     ·have z2 := un.frzs b ob _ z
      obtain ⟨e1, _⟩ := hok b _ z
      obtain ⟨e2, _⟩ := hok' b _ z2
      rw [e] at e1; cases e1
      exact e2
 cases hk : K.lookup a with
 | some o =>
  have e := KX a o hk
  rw [ha] at e
  cases e
  refine core (fun _ => none) (fun _ => .inl rfl) (.inr ⟨_, vs.toArray, _, hk, rfl, rfl, rfl, by rw [List.size_toArray, lenV]; exact hl, by simpa using rv⟩) (fun b u z => by have z' : (none : Option HO) = some u := z; cases z') (fun b z => absurd rfl z) fun z => absurd rfl z
 | none =>
  refine core (fun b => if b = a then some (.frz { cls := .type "list", data := .seq vs.toArray } (.lst (ns.map V.int))) else none) (fun b => ?_) (.inl (.inr ⟨{ cls := .type "list", data := .seq vs.toArray }, if_pos rfl⟩)) (fun b u z => ?_) (fun b z => ?_) fun _ => hk
  ·by_cases hb : b = a
   ·exact .inr ⟨_, _, if_pos hb⟩
   ·exact .inl (if_neg hb)
  ·by_cases hb : b = a
   ·have z' := (if_pos hb).symm.trans z
    cases z'
    subst hb
    exact ⟨ha, by rw [List.length_map]; exact hl, vs, _, rv, ha⟩
   ·have z' := (if_neg hb).symm.trans z
    cases z'
  ·by_cases hb : b = a
   ·exact hb
   ·exact absurd (if_neg hb) z
end L2
namespace L2
open PySem PySem.Spec PyProof.Rows
theorem walk_of {l : PySem.W.OpenLaw} {n k : Nat} {q : Program} {loose : List Str} {XP : (Str -> Option Value) -> Heap -> Prop} {YP : World -> Heap -> Prop} {d : DefRec} {K : Params -> Fg_} {CX : World -> CXT} {sp : World -> Sp} {x : Str}
  (hn : l.most = some n) (hn2 : n <= sizeLine) (hdf : d.params.defaults = []) (hr : Room k callerA)
  (hY : ∀ (w : World) (h : Heap), YP w h -> (K w.params).In h)
  (F : ∀ (w : World) (mg : Str -> Option Value) (fa : Addr) (h : Heap), (K w.params).In h -> h.Ns mainGlobals mg -> mg d.name = some (.ref fa) ->
   ∃ fd : FuncData, (∀ (s : Shared) (u : Value), BindsTo s fd ⟨[u], []⟩ [(x, u)]) /\
    ∀ base : Heap, (K w.params).In base -> base.Ns mainGlobals mg -> FnOk l.prog w (K w.params) mg base (CX w) k fa fd [x] (sp w))
  (hsp : ∀ (w : World) (H : Hp) (a : Addr) (ns : List Int), ns.length <= n -> Only H -> SqL (K w.params) H a (ns.map V.int) -> sp w [.ref a] H (fun v _ => v = .bl true) fun _ _ _ => False)
  (hCX : ∀ (w : World) (H : Hp) (s : Shared) (e : Value) (s' : Shared), CX w [] H s (fun _ _ _ => False) e s' -> False) :
  PySem.W.WalkO q loose XP YP l.row.toRowW d [] (fun f vs => PySem.call f vs) := by
 refine Att.attach_call hn hdf fun w s₀ s₁ mg mb fa o pm cd doc a vs ns G Y ho hd hcd hmg hobj hints hlen hg => ?_
 have KX := hY w _ Y
 obtain ⟨fd, hb, hF⟩ := F w mg fa _ KX G.T.g hmg
 exact law_call KX G.T.g G.T.b G.T.builtins G.T.nolimit hg hobj hints (Nat.le_trans hlen hn2) hr hF hb (fun H hO hS => hsp w H a ns hlen hO hS) fun H e s' => hCX w H s₁ e s'
end L2
namespace L2
open PySem PySem.Spec PyProof.Rows
def inClass (s : Stmt) (j : Nat) : Stmt := match s with
 | .ClassDef _ _ _ body _ _ _ _ _ _ _ => body.getD j (.Pass ⟨0, 0, 0, 0⟩)
 | _ => .Pass ⟨0, 0, 0, 0⟩
def defArgs (s : Stmt) : Arguments := match s with
 | .FunctionDef _ a _ _ _ _ _ _ _ _ => a
 | _ => { posonlyargs := [], args := [], vararg := none, kwonlyargs := [], kw_defaults := [], kwarg := none, defaults := [] }
def defBody (s : Stmt) : List Stmt := match s with
 | .FunctionDef _ _ b _ _ _ _ _ _ _ => b
 | _ => []
def defScope (s : Stmt) : Scope := match s with
 | .FunctionDef _ _ _ _ _ _ sc _ _ _ => sc
 | _ => { kind := .function, names := [], isGenerator := false, isCoroutine := false }
abbrev CX0 : CXT := fun _ _ _ _ _ _ => False
abbrev E0 : XK := fun _ _ _ => False
theorem pass0 {X : Cx} : Passes CX0 X E0 := fun _ _ _ _ _ _ _ h => h.elim
structure Fun (K : Fg_) (x qual : Str) (st : Stmt) (f : Addr) (fd : FuncData) : Prop where
 ex : ∃ (oc : Value) (od : Option Addr) (kV doc pm : Value) (an : Option Addr) (cdv ct : Value) (osl : Array (Option Value)),
  fd = PySem.W.fnOf x qual (defArgs st) (defBody st) (defScope st) .none kV doc pm an cdv ct /\ K.lookup f = some ⟨oc, od, .func fd, osl⟩ /\ PySem.W.codeIn K cdv qual = true
 kp : PySem.W.keepIn K (.ref f) = true
section
variable {P : Program} {w : World} {K : Fg_} {mg : Str -> Option Value} {base : Heap}
theorem Fun.ok {x qual : Str} {st : Stmt} {f : Addr} {fd : FuncData} {N ps : List Str} {k : Nat} {sp : Sp} (F : Fun K x qual st f fd) (S : FnScope N ps (defScope st)) (len : ∀ vs H Q E, sp vs H Q E -> vs.length = ps.length)
  (hbody : ∀ (cdv : Value) (A : Around) (outer : List Env) (s : Shared) (H : Hp) (vs : List V) (Q : VK) (E : XK), Room k (A.deeper (envOfC qual (defScope st) s.heap.objs.size f cdv)) -> sp vs H Q E ->
   ∃ t, PSs (cxOf CX0 P w K mg base N qual (defScope st) f cdv A outer s H E).nox (defBody st) t /\ t { nx := fun _ H' => Q .non H', rt := Q } (start N vs) H) : FnOk P w K mg base CX0 (k + 1) f fd ps sp := by
 obtain ⟨oc, od, kV, doc, pm, an, cdv, ct, osl, rfl, lk, hcd⟩ := F.ex
 refine fn_of lk hcd S len fun A outer s H vs Q E hr hsp => ?_
 obtain ⟨t, h, q⟩ := hbody cdv A outer s H vs Q E hr hsp
 exact ⟨t, h.nox, q⟩
theorem Fun.binds {x qual : Str} {st : Stmt} {f : Addr} {fd : FuncData} {ps : List Str} (F : Fun K x qual st f fd)
  (h : ∀ (kV doc pm : Value) (an : Option Addr) (cdv ct : Value) (us : List Value), us.length = ps.length -> bindArgs (PySem.W.fnOf x qual (defArgs st) (defBody st) (defScope st) .none kV doc pm an cdv ct) ⟨us, []⟩ = pure (ps.zip us)) : Binds K fd ps [] := by
 obtain ⟨oc, od, kV, doc, pm, an, cdv, ct, osl, rfl, lk, hcd⟩ := F.ex
 exact .all (h kV doc pm an cdv ct)
theorem fun_mk {x qual : Str} {st : Stmt} {f : Addr} {oc : Value} {od an : Option Addr} {osl : Array (Option Value)} {kV doc pm cdv ct : Value} (l : K.lookup f = some ⟨oc, od, .func (PySem.W.fnOf x qual (defArgs st) (defBody st) (defScope st) .none kV doc pm an cdv ct), osl⟩)
  (c : PySem.W.codeIn K cdv qual = true) (k : PySem.W.keepIn K (.ref f) = true) : Fun K x qual st f (PySem.W.fnOf x qual (defArgs st) (defBody st) (defScope st) .none kV doc pm an cdv ct) := ⟨⟨oc, od, kV, doc, pm, an, cdv, ct, osl, rfl, l, c⟩, k⟩
end
theorem hu_of {A : Around} {k : Nat} (hr : Room k A) : A.units + 1 < cLine := Nat.lt_of_le_of_lt (Nat.add_le_add_left (by decide : 1 <= 64) _) hr.units
theorem small1000 {n : Nat} (h : n <= 1000) : n < sizeLine := Nat.lt_of_le_of_lt h (by decide)
section
variable {X : Cx}
theorem pv (i : Nat) {x : Str} {pos : Pos} (hN : X.N[i]? = some x := by rfl) (hv : Vis X.env.scope x := by first | exact Or.inl rfl | exact Or.inr (Or.inl rfl) | exact Or.inr (Or.inr rfl)) (hd : (x == ("__debug__" : Str)) = false := by decide)
  (hcd : (x == ("__classdict__" : Str)) = false := by decide) : PE X (.Name x pos) (tVar i) := pe_var hN hv hd hcd
end
def Same (H H' : Hp) : Prop := ∀ b o, H b = some o -> H' b = some o
theorem Same.refl (H : Hp) : Same H H := fun _ _ h => h
theorem Same.trans {H H1 H2 : Hp} (a : Same H H1) (b : Same H1 H2) : Same H H2 := fun c o h => b c o (a c o h)
theorem Same.free {H H' : Hp} (e : Same H H') {l : Addr} (h : H' l = Option.none) : H l = Option.none := by
 cases q : H l with
 | none => rfl
 | some o =>
  rw [e l o q] at h
  cases h
theorem Same.seq {K : Fg_} {H H' : Hp} {a : Addr} {xs : List V} (e : Same H H') (h : SqL K H a xs) : SqL K H' a xs := by
 rcases h with (h | ⟨o, h⟩) | h
 ·exact .inl (.inl (e _ _ h))
 ·exact .inl (.inr ⟨o, e _ _ h⟩)
 ·exact .inr h
end L2
namespace L2
open PySem PySem.Spec PyProof.Rows
def AllIn : List (Str × Addr) -> List (Str × Addr) -> Prop
 | [], _ => True
 | (x, c) :: r, cells => cells.lookup x = some c /\ AllIn r cells
theorem AllIn.look {cells : List (Str × Addr)} : ∀ {cl : List (Str × Addr)}, AllIn cl cells -> ∀ {x : Str} {c : Addr}, cl.lookup x = some c -> cells.lookup x = some c
 | [], _, x, c, e => by simp at e
 | (y, d) :: r, h, x, c, e => by
  rw [List.lookup_cons] at e
  cases q : x == y with
  | true =>
   rw [q] at e
   have z : d = c := Option.some.inj e
   have z2 : x = y := beq_iff_eq.mp q
   subst z z2
   exact h.1
  | false =>
   rw [q] at e
   exact AllIn.look h.2 e
def closFrom (cells : List (Str × Addr)) : List (Str × NameKind) -> List (Str × Addr) -> List (Str × Addr)
 | [], cs => cs
 | (n, k) :: r, cs => closFrom cells r (match k with
  | .free => match cells.lookup n with
   | some c => (n, c) :: cs
   | Option.none => cs
  | _ => cs)
abbrev closOf (scope : Scope) (env : Env) : List (Str × Addr) := closFrom env.cells scope.names []
theorem closFrom_in (cells : List (Str × Addr)) : ∀ (names : List (Str × NameKind)) (cs : List (Str × Addr)), AllIn cs cells -> AllIn (closFrom cells names cs) cells
 | [], _, h => h
 | (n, k) :: r, cs, h => by
  unfold closFrom
  refine closFrom_in cells r _ ?_
  cases k with
  | free =>
   cases q : cells.lookup n with
   | none => exact h
   | some c => exact ⟨q, h⟩
  | _ => exact h
theorem closOf_in (scope : Scope) (env : Env) : AllIn (closOf scope env) env.cells := closFrom_in _ _ _ trivial
def CapOk (X : Cx) (sc : Scope) (cl : List (Str × Addr)) : List Str -> List (Option Nat) -> Prop
 | [], [] => True
 | _ :: N, Option.none :: r => CapOk X sc cl N r
 | x :: N, some j :: r => X.N[j]? = some x /\ (X.env.kindOf x = some .cell \/ X.env.kindOf x = some .free) /\ (sc.names.lookup x = some .cell \/ sc.names.lookup x = some .free) /\ (∃ c, cl.lookup x = some c) /\ CapOk X sc cl N r
 | _, _ => False
def capSt (σ : St) (cap : List (Option Nat)) : St := cap.map fun o => match o with
 | Option.none => Option.none
 | some j => match σ[j]? with
  | some v => v
  | Option.none => Option.none
theorem CapOk.nil {X : Cx} {sc : Scope} {cl : List (Str × Addr)} : CapOk X sc cl [] [] := trivial
theorem CapOk.own {X : Cx} {sc : Scope} {cl : List (Str × Addr)} {x : Str} {N : List Str} {r : List (Option Nat)} (h : CapOk X sc cl N r) : CapOk X sc cl (x :: N) (Option.none :: r) := h
theorem CapOk.take {X : Cx} {sc : Scope} {cl : List (Str × Addr)} {x : Str} {N : List Str} {j : Nat} {r : List (Option Nat)} (h1 : X.N[j]? = some x) (h2 : X.env.kindOf x = some .cell \/ X.env.kindOf x = some .free)
  (h3 : sc.names.lookup x = some .cell \/ sc.names.lookup x = some .free) (h4 : (cl.lookup x).isSome = true) (h : CapOk X sc cl N r) : CapOk X sc cl (x :: N) (some j :: r) := ⟨h1, h2, h3, Option.isSome_iff_exists.mp h4, h⟩
theorem CapOk.len {X : Cx} {sc : Scope} {cl : List (Str × Addr)} : ∀ {N : List Str} {cap : List (Option Nat)}, CapOk X sc cl N cap -> cap.length = N.length
 | [], [], _ => rfl
 | _ :: N, Option.none :: r, h => congrArg (· + 1) (CapOk.len (N := N) (cap := r) h)
 | _ :: N, some _ :: r, h => congrArg (· + 1) (CapOk.len (N := N) (cap := r) h.2.2.2.2)
 | [], _ :: _, h => h.elim
 | _ :: _, [], h => h.elim
theorem CapOk.get {X : Cx} {sc : Scope} {cl : List (Str × Addr)} {σ : St} : ∀ {N : List Str} {cap : List (Option Nat)} {i : Nat} {x : Str} {v : V}, CapOk X sc cl N cap -> N[i]? = some x -> (capSt σ cap)[i]? = some (some v) ->
  ∃ j : Nat, X.N[j]? = some x /\ σ[j]? = some (some v) /\ (X.env.kindOf x = some .cell \/ X.env.kindOf x = some .free) /\ (sc.names.lookup x = some .cell \/ sc.names.lookup x = some .free) /\ ∃ c, cl.lookup x = some c
 | [], [], i, x, v, _, e, _ => by simp at e
 | y :: N, Option.none :: r, 0, x, v, h, e1, e2 => by
  have z : (some (Option.none : Option V)) = some (some v) := e2
  cases z
 | y :: N, Option.none :: r, i + 1, x, v, h, e1, e2 => CapOk.get (N := N) (cap := r) (i := i) h (by simpa using e1) (by simpa [capSt] using e2)
 | y :: N, some j :: r, 0, x, v, h, e1, e2 => by
  have z : y = x := by simpa using e1
  subst z
  obtain ⟨h1, h2, h3, h4, _⟩ := h
  refine ⟨j, h1, ?_, h2, h3, h4⟩
  have z2 : some (match σ[j]? with | some v => v | Option.none => Option.none) = some (some v) := e2
  cases q : σ[j]? with
  | none => rw [q] at z2; cases z2
  | some o => rw [q] at z2; exact z2
 | y :: N, some j :: r, i + 1, x, v, h, e1, e2 => CapOk.get (N := N) (cap := r) (i := i) h.2.2.2.2 (by simpa using e1) (by simpa [capSt] using e2)
 | [], _ :: _, _, _, _, h, _, _ => h.elim
 | _ :: _, [], _, _, _, h, _, _ => h.elim
def cxC (X : Cx) (N' : List Str) (scope : Scope) (s : Shared) (H : Hp) (fp : List Addr) (xe : Value -> Shared -> Prop) : Cx :=
 { X with N := N', s₀ := s, H₀ := H, env := compEnvC scope (closOf scope X.env) s.heap.objs.size X.env, outer := X.stack, ex := fp, fn := fun _ => false, pn := [], xe := xe }
def PTs (X : Cx) (ifs : List Expr) (t : TT) : Prop :=
 ∀ (pins : List (Addr × Obj)) (s : Shared) (σ : St) (H : Hp) (Q : Bool -> Hp -> Prop), Inv X pins σ H s -> t σ H Q ->
  wpAny (model X.prog X.w) X.A (forIn ifs true fun c r => if r = true then do let ok <- isTrue c X.env (eval c X.env); pure (ForInStep.yield ok) else pure (ForInStep.yield r)) (TP X pins σ Q) X.xe s
def tNoIf : TT := fun _ H Q => Q true H
theorem pts_nil {X : Cx} : PTs X [] tNoIf := fun _ _ _ H _ I h => wpAny_tests_nil ⟨H, I, h⟩
def tComp (cap : List (Option Nat)) (wi : TI) (g : TG) (tt : TT) (te : TE) : TE := fun σ H Q => wi σ H fun J H1 => ∀ D, H1 D = Option.none ->
 ∃ W : Nat -> Nat -> List V -> St -> Hp -> Prop, (∃ m, W 0 m [] (capSt σ cap) (upd H1 D (.lst []))) /\ ∀ i m acc σ1 H2, W i m acc σ1 H2 -> H2 D = some (.lst acc) ->
  (J.stop i H2 /\ Q (.ref D) H2) \/ (J.go i H2 /\ ∀ x H3, J.yld i H2 x H3 -> g x σ1 H3 fun σ4 H4 => tt σ4 H4 fun b H5 =>
   if b = true then te σ4 H5 fun v H6 => ∃ acc', H6 D = some (.lst acc') /\ acc'.length < sizeLine /\ ∃ m', m' < m /\ W (i + 1) m' (acc' ++ [v]) σ4 (upd H6 D (.lst (acc' ++ [v])))
   else ∃ m', m' < m /\ ∃ acc', H5 D = some (.lst acc') /\ W (i + 1) m' acc' σ4 H5)
section
variable {X : Cx} {elt tg iter : Expr} {ifs : List Expr} {scope : Scope} {pos : Pos} {cap : List (Option Nat)} {N' : List Str} {wi : TI} {g : TG} {tt : TT} {te : TE}
structure CompOk (X : Cx) (iter : Expr) (scope : Scope) (N' : List Str) (cap : List (Option Nat)) : Prop where
 clos : closureFor scope X.env = pure (closOf scope X.env)
 cap : CapOk X (relabel scope X.env) (closOf scope X.env) N' cap
 kind : scope.kind = .function
 nocell : ∀ y ∈ scope.names, y.2 ≠ .cell
 names : ∀ y ∈ scope.names, y.2 = .local -> scope.names.lookup y.1 = some .local
 has : (scope.names.all fun y => y.2 != .free || ((closOf scope X.env).lookup y.1).isSome) = true
 fold : ∀ x, foldedSetIterable iter X.env x = pure x
theorem has_map {f : Str × NameKind -> Str × NameKind} (h1 : ∀ y, (f y).1 = y.1) (h2 : ∀ y, y.2 ≠ NameKind.cell -> ((f y).2 = NameKind.cell \/ (f y).2 = NameKind.free) -> y.2 = NameKind.free) {cl : List (Str × Addr)} :
  ∀ {names : List (Str × NameKind)} {x : Str}, (∀ y ∈ names, y.2 ≠ NameKind.cell) -> (names.all fun y => y.2 != NameKind.free || (cl.lookup y.1).isSome) = true -> ((names.map f).lookup x = some NameKind.cell \/ (names.map f).lookup x = some NameKind.free) -> ∃ c, cl.lookup x = some c
 | [], x, _, _, h => by rcases h with h | h <;> simp at h
 | y :: r, x, hc, ha, h => by
  rw [List.all_cons, Bool.and_eq_true] at ha
  rw [List.map_cons] at h
  have e0 : f y = (y.1, (f y).2) := by rw [<- h1 y]
  rw [e0, List.lookup_cons] at h
  cases q : x == y.1 with
  | true =>
   rw [q] at h
   have e : x = y.1 := beq_iff_eq.mp q
   have hf : y.2 = NameKind.free := h2 y (hc y List.mem_cons_self) (by
    rcases h with h | h
    ·exact .inl (Option.some.inj h)
    ·exact .inr (Option.some.inj h))
   have h3 : (cl.lookup y.1).isSome = true := by
    have := ha.1
    rw [hf] at this
    simpa using this
   rw [e]
   exact Option.isSome_iff_exists.mp h3
  | false =>
   rw [q] at h
   exact has_map h1 h2 (fun z hz => hc z (List.mem_cons_of_mem _ hz)) ha.2 h
theorem has_of {env : Env} {scope : Scope} {cl : List (Str × Addr)} {x : Str} (hc : ∀ y ∈ scope.names, y.2 ≠ NameKind.cell) (ha : (scope.names.all fun y => y.2 != NameKind.free || (cl.lookup y.1).isSome) = true)
  (h : (relabel scope env).names.lookup x = some NameKind.cell \/ (relabel scope env).names.lookup x = some NameKind.free) : ∃ c, cl.lookup x = some c := by
 refine has_map (f := fun (n, k) => if (k == NameKind.free && env.scope.kind == .function && env.kindOf n == some .cell) then (n, NameKind.cell) else (n, k)) (fun y => ?_) (fun y hy hk => ?_) hc ha h
 ·obtain ⟨n, k⟩ := y
  dsimp only
  split <;> rfl
 ·obtain ⟨n, k⟩ := y
  dsimp only at hk ⊢ hy
  by_cases hb : (k == NameKind.free && env.scope.kind == .function && env.kindOf n == some .cell) = true
  ·simp only [Bool.and_eq_true] at hb
   exact beq_iff_eq.mp hb.1.1
  ·rw [if_neg hb] at hk
   rcases hk with hk | hk
   ·exact absurd hk hy
   ·exact hk
theorem compLoop_any {P : Program} {w : World} {A : Around} {R : Result -> Shared -> Prop} {s : Shared} {it acc : Value} {env : Env} (I : Nat -> Shared -> Prop)
  (turn : ∀ n s, I n s -> wpAny (model P w) A (pyNext it) (fun r s₁ => match r with
   | none => R (.ok .next) s₁
   | some v => wpAny (model P w) A (letOwnedTupleGo tg it v) (fun _ s₁' => wpAny (model P w) A (assign tg env v) (fun _ s₂ =>
     wpAny (model P w) A (forIn ifs true fun c r => if r = true then do let ok <- isTrue c env (eval c env); pure (ForInStep.yield ok) else pure (ForInStep.yield r)) (fun ok s₃ =>
      if ok = true then wpAny (model P w) A (eval elt env) (fun x s₄ =>
       wpAny (model P w) A (call (.builtin "list.append") [acc, x]) (fun _ s₅ => ∃ m, m < n /\ I m s₅) (notedBy (model P w) A env fun e s' => R (.error e) s') s₄) (notedBy (model P w) A env fun e s' => R (.error e) s') s₃
      else ∃ m, m < n /\ I m s₃) (notedBy (model P w) A env fun e s' => R (.error e) s') s₂) (notedBy (model P w) A env fun e s' => R (.error e) s') s₁') (notedBy (model P w) A env fun e s' => R (.error e) s') s₁)
    (notedBy (model P w) A env fun e s' => R (.error e) s') s)
  (n : Nat) (h : I n s) :
  codeAny (model P w) A (.compLoop (.ListComp elt [⟨tg, iter, ifs, 0⟩] scope pos) 0 it acc env) R s := by
 refine codeAny_loop rfl I (fun n s hI => ?_) n h
 show wpAny _ A ((compTurn (.ListComp elt [⟨tg, iter, ifs, 0⟩] scope pos) 0 it acc env).onRaise (fun x => do noteFrame x env; theTreesLotGoes x)) _ _ s
 refine wpAny_noted ?_
 rw [compTurn_list]
 refine wpAny_bind (wpAny_standAt (wpAny_bind (wpAny_mono (turn n s hI) (fun r s₁ h₁ => ?_) fun _ _ h' => h')))
 cases r with
 | none => exact wpAny_pure h₁
 | some v =>
  refine wpAny_bind (wpAny_mono h₁ (fun _ s₁' h₁ => ?_) fun _ _ h' => h')
  refine wpAny_bind (wpAny_mono h₁ (fun _ s₂ h₂ => wpAny_bind (wpAny_mono h₂ (fun ok s₃ h₃ => ?_) fun _ _ h' => h')) fun _ _ h' => h')
  cases ok with
  | false => exact wpAny_pure ⟨rfl, h₃⟩
  | true =>
   exact wpAny_bind (wpAny_bind (wpAny_mono h₃ (fun x s₄ h₄ => wpAny_bind (wpAny_mono h₄ (fun _ s₅ h₅ => wpAny_pure (wpAny_pure ⟨rfl, h₅⟩)) fun _ _ h' => h')) fun _ _ h' => h'))
theorem comp_core {pins : List (Addr × Obj)} {σ : St} {H2 : Hp} {s2 : Shared} {Q : VK} {it : Addr} {fp : List Addr} {tn : Nat -> Heap -> Prop} {J : It} {R : Value -> Addr -> Result -> Shared -> Prop} {E : Value -> Shared -> Prop}
  (hc : X.calm = true) (C : CompOk X iter scope N' cap)
  (hg : ∀ s H fp xe, PG (cxC X N' scope s H fp xe) tg g) (ht : ∀ s H fp xe, PTs (cxC X N' scope s H fp xe) ifs tt) (he : ∀ s H fp xe, PE (cxC X N' scope s H fp xe) elt te)
  (I2 : Inv X pins σ H2 s2) (T : Turn X.prog X.w X.K tg J fp it tn) (st2 : tn 0 s2.heap) (f2 : ∀ b ∈ fp, FpOk X pins H2 b)
  (hR : ∀ D Cl H' s', Inv X pins σ H' s' -> (∃ m, s'.heap.Ns Cl m) -> H' Cl = Option.none -> Cl ≠ X.env.locals -> X.s₀.heap.objs.size <= Cl -> (∀ x c, X.env.cells.lookup x = some c -> c ≠ Cl) -> (∀ p ∈ X.pn ++ pins, p.1 ≠ Cl) -> Q (.ref D) H' -> R (.ref D) Cl (.ok .next) s')
  (hw : ∀ D, H2 D = Option.none -> ∃ W : Nat -> Nat -> List V -> St -> Hp -> Prop, (∃ m, W 0 m [] (capSt σ cap) (upd H2 D (.lst []))) /\ ∀ i m acc σ1 H2, W i m acc σ1 H2 -> H2 D = some (.lst acc) ->
   (J.stop i H2 /\ Q (.ref D) H2) \/ (J.go i H2 /\ ∀ x H3, J.yld i H2 x H3 -> g x σ1 H3 fun σ4 H4 => tt σ4 H4 fun b H5 =>
    if b = true then te σ4 H5 fun v H6 => ∃ acc', H6 D = some (.lst acc') /\ acc'.length < sizeLine /\ ∃ m', m' < m /\ W (i + 1) m' (acc' ++ [v]) σ4 (upd H6 D (.lst (acc' ++ [v])))
    else ∃ m', m' < m /\ ∃ acc', H5 D = some (.lst acc') /\ W (i + 1) m' acc' σ4 H5)) :
  wpAny (model X.prog X.w) X.A (newList []) (fun acc s₃ => wpAny (model X.prog X.w) X.A (newFunctionEnv scope X.env.globals (closOf scope X.env) [] X.env.qual none .none (some X.env)) (fun cenv s₄ =>
   codeAny (model X.prog X.w) X.A (.compStart (.ListComp elt [⟨tg, iter, ifs, 0⟩] scope pos) 0 (.ref it) acc { cenv with scope := relabel scope X.env }) (R acc cenv.locals) s₄) E s₃) E s2 := by
 refine wpAny_newObj_type (wpAny_newFunctionEnv C.nocell (by intro y hy; simp at hy) (fun h₁ hns₁ hsb₁ => ?_) C.kind)
 obtain ⟨W, ⟨m0, w0⟩, turn⟩ := hw s2.heap.objs.size I2.fresh
 have I3 : Inv X pins σ (upd H2 s2.heap.objs.size (.lst [])) { s2 with heap := s2.heap.push { cls := .type "list", data := .seq ([] : List Value).toArray } } := I2.lnew (t' := s2.toks) .nil (Nat.zero_le _)
 generalize hs3 : ({ s2 with heap := s2.heap.push { cls := .type "list", data := .seq ([] : List Value).toArray } } : Shared) = s3 at I3 hns₁ hsb₁ ⊢
 generalize hD : s2.heap.objs.size = D at I3 w0 turn ⊢
 have hn0 : H2 D = Option.none := by rw [<- hD]; exact I2.fresh
 have hs32 : s3.os = s2.os := by rw [<- hs3]
 have un32 : Un (frs X.stack) fp H2 (upd H2 D (.lst [])) s2.heap s3.heap := by
  rw [<- hs3, <- hD]
  exact Un.laid (fun b u q => Heap.get?_push_of_some _ q) (Nat.le_refl _) I2.fresh
 have keep4 : ∀ b o, s3.heap.get? b = some o -> h₁.get? b = some o := fun b o e => (hsb₁.2 b (Nat.ne_of_lt (Heap.lt_size e))).trans (Heap.get?_push_of_some _ e)
 have keep2 : ∀ b o, s2.heap.get? b = some o -> s3.heap.get? b = some o := fun b o e => by rw [<- hs3]; exact Heap.get?_push_of_some _ e
 have hR' : ∀ (r : Result) (s' : Shared), R (.ref D) s3.heap.objs.size r s' -> R (.ref D) s3.heap.objs.size r s' := fun _ _ h => h
 have f3 : ∀ b ∈ fp, FpOk X pins (upd H2 D (.lst [])) b := fun b hb => by
  obtain ⟨q0, q1⟩ := f2 b hb
  refine ⟨?_, q1⟩
  obtain ⟨o, e, _⟩ := T.obj _ _ st2 b hb
  rw [upd_ne (by rw [<- hD]; exact Nat.ne_of_lt (Heap.lt_size e))]
  exact q0
 let XC : Cx := cxC X N' scope s3 (upd H2 D (.lst [])) fp (notedBy (model X.prog X.w) X.A (compEnvC scope (closOf scope X.env) s3.heap.objs.size X.env) fun e s' => R (.ref D) s3.heap.objs.size (.error e) s')
 have ok : XC.Ok := by
  refine ⟨I3.ok.mod, C.kind, I3.ok.glob, I3.ok.blt, Nat.le_refl _, fun x y c e1 e2 => I3.ok.inj x y c ((closOf_in scope X.env).look e1) ((closOf_in scope X.env).look e2), fun x hx => has_of C.nocell C.has hx, fun x c hf => (nomatch hf), fun _ => I3.ok.hd hc, I3.ok.frames, .inl rfl, fun b hb => ?_, I3.bs, Nat.le_trans I3.ok.bsz I3.sz, fun b o e hb => ?_, fun b hb hf => ?_, I3.stack, I3.stkFree⟩
  ·obtain ⟨q0, q1, q2, q3, q4, q5⟩ := f3 b hb
   refine ⟨?_, fun x c e => q4 x c ((closOf_in scope X.env).look e)⟩
   obtain ⟨o, e, _⟩ := T.obj _ _ st2 b hb
   exact Nat.ne_of_lt (Heap.lt_size (keep2 _ _ e))
  ·obtain ⟨q0, q1, q2, q3, q4, q5⟩ := f3 b hb
   rcases q3 with q3 | q3
   ·exact I3.ok.noex b o e q3
   ·exact absurd (Nat.lt_of_lt_of_le (Heap.lt_size e) (Nat.le_trans I3.ok.bsz q3)) (Nat.lt_irrefl _)
  ·obtain ⟨q0, q1, q2, q3, q4, q5⟩ := f3 b hb
   rcases List.mem_cons.mp (I3.stkSub b hf) with z | z
   ·exact q1 z
   ·exact q2 z
 have I4 : Inv XC [] (capSt σ cap) (upd H2 D (.lst [])) { s3 with heap := h₁, toks := s3.toks + ([] : List (Str × Value)).length } := by
  refine ⟨ok, rfl, I3.bare, Un.kept keep4, ⟨_, hns₁, fun i x v e1 e2 e3 => ?_⟩, fun x c e => ?_, I3.hok.fresh (Nat.le_refl _), fun x c e => I3.freeC x c ((closOf_in scope X.env).look e), fun p hp => absurd (show p ∈ ([] : List (Addr × Obj)) from hp) (by simp), I3.hok.kept keep4, by rw [show (capSt σ cap).length = cap.length from by simp [capSt]]; exact C.cap.len⟩
  ·obtain ⟨j, g1, g2, g3, g4, c, g5⟩ := C.cap.get e1 e2
   obtain ⟨m, _, hl⟩ := I3.loc
   obtain ⟨u, r, l⟩ := hl j x v g1 g2 (by
    rcases g3 with z | z
    ·exact .inr (.inl z)
    ·exact .inr (.inr z))
   refine ⟨u, r, .inr ⟨g4, c, g5, ?_⟩⟩
   rcases l with ⟨k, _⟩ | ⟨_, c', e, z⟩
   ·rcases g3 with q | q
    ·rw [k] at q; cases q
    ·rw [k] at q; cases q
   ·have e' := (closOf_in scope X.env).look g5
    rw [e] at e'; cases e'
    obtain ⟨o, ho, hd⟩ := z
    exact ⟨o, keep4 _ _ ho, hd⟩
  ·obtain ⟨v, o, ho, hd⟩ := I3.cell x c ((closOf_in scope X.env).look e)
   exact ⟨v, o, keep4 _ _ ho, hd⟩
 have st4 : tn 0 h₁ := T.keep _ _ _ st2 fun b _ o e => keep4 b o (keep2 b o e)
 have fpc : ∀ {pins' : List (Addr × Obj)} {H' : Hp}, (∀ b ∈ fp, H' b = Option.none) -> (∀ p ∈ pins', p.1 ∉ fp) -> ∀ b ∈ fp, FpOk XC pins' H' b := fun {pins' H'} hn hp b hb => by
  obtain ⟨q1, q2⟩ := ok.exf b hb
  exact ⟨hn b hb, q1, ok.exfs b hb, .inl hb, q2, fun p hp' z => hp p (by simpa [XC, cxC] using hp') (by rw [z]; exact hb)⟩
 have hDf : D ∉ fp := fun hb => by
  obtain ⟨o, e, _⟩ := T.obj _ _ st2 D hb
  rw [<- hD] at e
  exact absurd (Heap.lt_size e) (Nat.lt_irrefl _)
 have out : ∀ {σ' : St} {H' : Hp} {s' : Shared}, Inv XC [] σ' H' s' -> Inv X pins σ H' s' := fun {σ' H' s'} J' =>
  I2.call' (ch := fp) (J'.os.trans hs32) (un32.trans J'.base) J'.hok J'.bare fun b hb => by
   obtain ⟨q0, q1, q2, q3, q4, q5⟩ := f2 b hb
   exact ⟨q3, q1, q4, q5⟩
 have loop : ∀ s₄ : Shared, s₄ = { s3 with heap := h₁, toks := s3.toks + ([] : List (Str × Value)).length } ->
   codeAny (model X.prog X.w) X.A (.compLoop (.ListComp elt [⟨tg, iter, ifs, 0⟩] scope pos) 0 (.ref it) (.ref D) (compEnvC scope (closOf scope X.env) s3.heap.objs.size X.env)) (R (.ref D) s3.heap.objs.size) s₄ := by
  rintro s₄ rfl
  refine compLoop_any (fun n s' => ∃ i acc σ' H', Inv XC [] σ' H' s' /\ tn i s'.heap /\ (∀ b ∈ fp, H' b = Option.none) /\ H' D = some (.lst acc) /\ W i n acc σ' H') ?_ m0
   ⟨0, [], capSt σ cap, upd H2 D (.lst []), I4, st4, fun b hb => (f3 b hb).1, upd_same, w0⟩
  rintro n s5 ⟨i, acc, σ5, H5, I5, st5, fr5, hA, w5⟩
  rcases turn i n acc σ5 H5 w5 hA with ⟨stop, q⟩ | ⟨go, step⟩
  ·refine thn (T.done XC rfl rfl rfl hc i [] s5 σ5 H5 _ I5 (fpc fr5 (by simp)) st5 stop) fun r s6 ⟨hr, I6⟩ => ?_
   subst hr
   obtain ⟨m, hn, _⟩ := I6.loc
   exact hR D s3.heap.objs.size H5 s6 (out I6) ⟨m, hn⟩ I6.free (Nat.ne_of_gt I3.lt) I3.sz (fun x c e z => by
    obtain ⟨v, o, ho, _⟩ := I3.cell x c e
    rw [z] at ho
    exact absurd (Heap.lt_size ho) (Nat.lt_irrefl _)) (fun p hp z => by
    have e := (I3.pin p hp).1
    rw [z] at e
    exact absurd (Heap.lt_size e) (Nat.lt_irrefl _)) q
  ·refine thn (T.item XC rfl rfl rfl hc i [] s5 σ5 H5 _ I5 (fpc fr5 (by simp)) st5 go) fun r s6 ⟨u, hr, h6⟩ => ?_
   subst hr
   refine thn h6 fun _ s7 ⟨x, H7, I7, r7, y7, st7, fr7⟩ => ?_
   have I7' := I7.pinned (fpc fr7 (by simp)) (T.obj _ _ st7)
   have again : ∀ {σ8 : St} {H8 : Hp} {s8 : Shared}, Inv XC ([] ++ pinsAt fp s7.heap) σ8 H8 s8 -> (∃ acc', H8 D = some (.lst acc') /\ ∃ m', m' < n /\ W (i + 1) m' acc' σ8 H8) ->
     ∃ m, m < n /\ ∃ i acc σ' H', Inv XC [] σ' H' s8 /\ tn i s8.heap /\ (∀ b ∈ fp, H' b = Option.none) /\ H' D = some (.lst acc) /\ W i m acc σ' H' := fun {σ8 H8 s8} I8 ⟨acc', hA', m', hm, w8⟩ => by
    refine ⟨m', hm, i + 1, acc', σ8, H8, I8.unpinned, T.keep _ _ _ st7 fun b hb o e => (I8.pin (b, o) (List.mem_append_right _ (List.mem_append_right _ (mem_pinsAt hb e)))).1, fun b hb => ?_, hA', w8⟩
    obtain ⟨o, e, d⟩ := T.obj _ _ st7 b hb
    exact (I8.pin (b, o) (List.mem_append_right _ (List.mem_append_right _ (mem_pinsAt hb e)))).2.1
   refine thn (hg s3 _ fp _ _ s7 σ5 H7 x u _ I7' r7 (step x H7 y7)) fun _ s8 ⟨σ8, H8, I8, q8⟩ => ?_
   refine thn (ht s3 _ fp _ _ s8 σ8 H8 _ I8 q8) fun b s9 ⟨H9, I9, q9⟩ => ?_
   cases b with
   | false =>
    rw [if_neg Bool.false_ne_true] at q9 ⊢
    obtain ⟨m', hm, acc', hA', w9⟩ := q9
    exact again I9 ⟨acc', hA', m', hm, w9⟩
   | true =>
    rw [if_pos rfl] at q9 ⊢
    refine thn (he s3 _ fp _ _ s9 σ8 H9 _ I9 q9) fun v s10 ⟨y, H10, I10, r10, acc', hA', hz, m', hm, w10⟩ => ?_
    refine thn (mt_append (X := XC) _ s10 σ8 H10 (.ref D) [y] (.ref D) [v] (fun _ Hz => Hz = upd H10 D (.lst (acc' ++ [y]))) I10 rfl (.cons r10 .nil) ⟨D, acc', y, rfl, rfl, hA', hz, rfl⟩) fun _ s11 ⟨_, H11, I11, _, e11⟩ => ?_
    subst e11
    exact again I11 ⟨acc' ++ [y], upd_same, m', hm, w10⟩
 exact codeAny_compStart_list (loop _ rfl) (T.self _ 0 _ _ _ st4 (loop _ rfl))
theorem pe_comp (hc : X.calm = true) (C : CompOk X iter scope N' cap) (hi : PI X tg iter wi)
  (hg : ∀ s H fp xe, PG (cxC X N' scope s H fp xe) tg g) (ht : ∀ s H fp xe, PTs (cxC X N' scope s H fp xe) ifs tt) (he : ∀ s H fp xe, PE (cxC X N' scope s H fp xe) elt te) :
  PE X (.ListComp elt [⟨tg, iter, ifs, 0⟩] scope pos) (tComp cap wi g tt te) := by
 intro pins s σ H Q I h
 rw [eval_ListComp]
 refine wpAny_comprehension_free (use := none) rfl C.fold C.clos C.kind C.names (thn (hi pins s σ H _ I h) fun v s1 h1 => thn h1 fun itv s2 h2 => ?_)
 obtain ⟨it, fp, tn, J, H2, e, I2, T, st2, f2, hw⟩ := h2
 subst e
 refine comp_core (R := fun acc Cl => compPost (model X.prog X.w) X.A X.xe none (EP X pins σ Q) acc Cl) hc C hg ht he I2 T st2 f2 ?_ hw
 intro D Cl H' s' I' ⟨m, hn⟩ hf h1 h2 h3 h4 q
 exact ⟨m, hn, fun h' hs' => ⟨.ref D, H', I'.turned (t' := s'.toks) (fun b o hb e => (hs'.2 b hb).trans e) hf h1 (.inr h2) h3 h4, rfl, q⟩⟩
end
end L2
namespace L2
open PySem PySem.Spec PyProof.Rows
section
variable {X : Cx} {a b c : Expr} {ta tb tc : TE} {pos : Pos}
def CMulB (i j : Int) : Prop := i.natAbs < 2 ^ 2000 /\ j.natAbs < 2 ^ 2000
theorem CMulB.ok {i j : Int} (h : CMulB i j) : IntMulOk i j :=
 IntMulOk.of_bits (Nat.le_trans (intBits_le h.1) (by decide)) (Nat.le_trans (intBits_le h.2) (by decide))
def CDivB (_ j : Int) : Prop := 0 < j /\ j.natAbs < 2 ^ 2000
theorem op_fdivB : OpR X (binaryOp .FloorDiv) (rI CDivB fun i j => .int (i / j)) := opI fun i j _ _ _ _ _ hc q => by
 have h1 : (0 : Int) < j := hc.1
 have h0 : j.natAbs ≠ 0 := by omega
 have h2 : j.natAbs.log2 < 2000 := (Nat.log2_lt h0).mpr hc.2
 exact floordiv_int (by omega) (by rw [Int.fdiv_eq_ediv_of_nonneg i (by omega)]; exact q) (.inl (PyProof.noPylong_of_log2 (by omega)))
theorem call_sumI (hc : X.calm = true) : CallR X (.builtin "sum") (fun xs H Q => ∃ (a : Addr) (ns : List Int), xs = [.ref a] /\ SqL X.K H a (ns.map V.int) /\ Q (.int ns.sum) H) := by
 intro pins s σ H xs us Q I r h
 obtain ⟨a, ns, rfl, hq, q⟩ := h
 obtain ⟨u, rfl, r1⟩ := vals1 r
 cases r1
 obtain ⟨its, rv, pl, hz⟩ := I.list hq
 have hi : IntsAre its ns := intsAre_of rv
 obtain ⟨xs, e⟩ := hi.allInts.items
 have hl := pl.isList
 rw [e] at hl
 refine sum_intListG (I.ok.hd hc) hl fun h' tk t' hk => ?_
 have e1 : its = (intItems xs).toList := by rw [<- e]
 have e2 : xs.toList.map (·.1) = ns := by rw [<- nums_intItems, <- e1, hi.numsOf]
 have es : preSum (numAt xs) xs.size = ns.sum := by rw [preSum_eq, List.take_of_length_le (by simp), e2]
 rw [es]
 exact ⟨.int ns.sum, H, I.kept hk, ⟨_, rfl⟩, q⟩
theorem bools_walk {pins : List (Addr × Obj)} {σ : St} {H : Hp} {s : Shared} {l : Addr} {bs : List Bool} (I : Inv X pins σ H s) (hq : SqL X.K H l (bs.map V.bl)) :
  ∃ its : List Value, its.length = bs.length /\ s.heap.IsList l its.toArray /\ l ≠ s.heap.objs.size /\ ∀ (i : Nat) (v : Value), its.toArray[i]? = some v -> v = .bool (bs.getD i false) := by
 obtain ⟨its, rv, pl, hz⟩ := I.list hq
 refine ⟨its, by rw [<- rv.length, List.length_map], pl.isList, ?_, fun i v e => ?_⟩
 ·obtain ⟨o, n, e, _⟩ := pl
  exact Nat.ne_of_lt (Heap.lt_size e)
 ·have e' : its[i]? = some v := by simpa using e
  have hi : i < its.length := (List.getElem?_eq_some_iff.mp e').1
  have hb : i < bs.length := by have := rv.length; rw [List.length_map] at this; omega
  obtain ⟨u, hu, ru⟩ := rv.get (i := i) (x := .bl bs[i]) (by simp [hb])
  rw [e'] at hu
  cases hu
  have : v = Value.bool bs[i] := ru
  rw [this]
  simp [List.getD, hb]
theorem range_all (bs : List Bool) : (List.range bs.length).all (fun i => bs.getD i false) = bs.all id := by
 rw [Bool.eq_iff_iff]
 simp only [List.all_eq_true, List.mem_range, id]
 constructor
 ·intro h x hx
  obtain ⟨i, hi, rfl⟩ := List.mem_iff_getElem.mp hx
  simpa [List.getD, hi] using h i hi
 ·intro h i hi
  have := h bs[i] (List.getElem_mem hi)
  simpa [List.getD, hi] using this
theorem call_allB (hc : X.calm = true) : CallR X (.builtin "all") (fun xs H Q => ∃ (a : Addr) (bs : List Bool), xs = [.ref a] /\ SqL X.K H a (bs.map V.bl) /\ Q (.bl (bs.all id)) H) := by
 intro pins s σ H xs us Q I r h
 obtain ⟨a, bs, rfl, hq, q⟩ := h
 obtain ⟨u, rfl, r1⟩ := vals1 r
 cases r1
 obtain ⟨its, hlen, hl, hne, hit⟩ := bools_walk I hq
 refine call_all_walk (wpAny_pyIter_list hl ?_)
 refine ⟨s.heap.objs.size, _, _, _, _, _, fun i => bs.getD i false, rfl, Walks.list (A := X.A.in1) (I.ok.hd hc) s.heap.objs.size a hne its.toArray, ⟨⟨_, Heap.get?_push_size _ rfl, rfl, rfl⟩, hl.at fun o e => Heap.get?_push_of_some _ e⟩, fun i v s' Q' E' e hQ => ?_, fun h' tk hk => ?_⟩
 ·rw [hit i v e]
  exact wpAny_truthy_bool hQ
 ·have e : (List.range its.toArray.size).all (fun i => bs.getD i false) = bs.all id := by rw [List.size_toArray, hlen]; exact range_all bs
  rw [e]
  refine ⟨.bl (bs.all id), H, I.kept fun b o e => hk b o ?_ (Heap.get?_push_of_some _ e), rfl, q⟩
  intro z
  have z' : b = s.heap.objs.size := by simpa using z
  rw [z'] at e
  exact absurd (Heap.lt_size e) (Nat.lt_irrefl _)
end
section
variable {prog : Program} {w : World} {A : Around} {E : Value -> Shared -> Prop}
theorem draw_list {it t : Addr} {items : Array Value} (hne : t ≠ it) : ∀ (n i : Nat) (s : Shared) (Q : List Value -> Shared -> Prop), s.heap.IsListIter it t i -> s.heap.IsList t items -> i + n <= items.size ->
  (∀ h', h'.IsListIter it t (i + n) -> Heap.SameBut it s.heap h' -> Q ((items.toList.drop i).take n) { s with heap := h' }) -> wpAny (model prog w) A (draw (.ref it) n) Q E s
 | 0, i, s, Q, hit, _, _, hQ => by
  show wpAny _ _ (pure []) Q E s
  exact wpAny_pure (by simpa using hQ s.heap hit (Heap.SameBut.refl ..))
 | n + 1, i, s, Q, hit, ht, hle, hQ => by
  have hlt : i < items.size := by omega
  show wpAny _ _ (pyNext (.ref it) >>= _) Q E s
  refine wpAny_bind (wpAny_pyNext_list_item hit ht (x := items[i]) (by simp [hlt]) fun h₁ hit₁ hs₁ => ?_)
  refine wpAny_bind (wpAny_holding (draw_list hne n (i + 1) _ _ hit₁ (ht.extBut hs₁.extBut hne) (by omega) fun h₂ hit₂ hs₂ => wpAny_pure ?_))
  have hd : items.toList.drop i = items[i] :: items.toList.drop (i + 1) := by simp [List.drop_eq_getElem_cons, hlt]
  have := hQ h₂ (by rw [show i + (n + 1) = i + 1 + n by omega]; exact hit₂) (hs₁.trans hs₂)
  rw [hd, List.take_succ_cons] at this
  exact this
theorem unpackItems_list {s : Shared} {t : Addr} {items : Array Value} {Q : List Value -> Shared -> Prop} (hh : A.handled = none) (ht : s.heap.IsList t items)
  (hQ : ∀ h', Heap.ExtBut s.heap.objs.size s.heap h' -> Q items.toList { s with heap := h' }) : wpAny (model prog w) A (unpackItems (.ref t) items.size none) Q E s := by
 have hlt : t ≠ s.heap.objs.size := by obtain ⟨o, ho, _⟩ := ht; exact Nat.ne_of_lt (Heap.lt_size ho)
 unfold unpackItems
 refine wpAny_bind ?_
 ·unfold notIterableAtAll
  refine wpAny_bind (wpAny_specialOf ht.typeIs slot_list_iter.lookup ?_)
  refine wpAny_pure ?_
  simp only [Bool.false_eq_true, if_false]
  refine wpAny_bind (wpAny_holding (wpAny_pyIter_list ht ?_))
  have ht0 : (s.heap.push { cls := .type "list_iterator", data := .fields #[.ref t, .int 0 0] }).IsList t items := ht.at fun o e => Heap.get?_push_of_some _ e
  refine wpAny_bind (wpAny_holding (draw_list hlt items.size 0 _ _ ⟨_, Heap.get?_push_size _ rfl, rfl, rfl⟩ ht0 (by omega) fun h₁ hit₁ hs₁ => ?_))
  have hall : List.take items.size (List.drop 0 items.toList) = items.toList := by
   rw [List.drop_zero]; exact List.take_of_length_le (by simp)
  rw [hall]
  rw [if_neg (by simp)]
  have ht₁ : h₁.IsList t items := ht0.extBut hs₁.extBut hlt
  refine wpAny_bind (wpAny_holding (wpAny_pyNext_list_end hh hit₁ ht₁ (by simp) fun h₂ he₂ => ?_))
  simp only [Option.isSome_none, Bool.false_eq_true, if_false]
  refine wpAny_pure (hQ h₂ fun b o hb e => he₂ b o hb (hs₁.extBut b o hb (Heap.get?_push_of_some _ e)))
theorem assign_Tuple_list {env : Env} {elts : List Expr} {x1} {pos : Pos} {s : Shared} {t : Addr} {items : Array Value} {Q : Unit -> Shared -> Prop} (hh : A.handled = none) (ht : s.heap.IsList t items)
  (hn : (assignEach elts env).length = items.size) (hstar : (assignEach elts env).findIdx? (·.1) = none)
  (h : ∀ h', Heap.ExtBut s.heap.objs.size s.heap h' -> wpAny (model prog w) A (assignInOrder ((assignEach elts env).map (·.2)) items.toList) Q E { s with heap := h' }) :
  wpAny (model prog w) A (assign (.Tuple elts x1 pos) env (.ref t)) Q E s := by
 rw [assign_Tuple]
 refine wpAny_bind (wpAny_standAt ?_)
 unfold unpack
 rw [hn, hstar]
 exact wpAny_bind (wpAny_holding (unpackItems_list hh ht h))
end
section
variable {X : Cx} {pos : Pos}
def gLst (K : Fg_) (n : Nat) (t : TGs) : TG := fun v σ H Q => ∃ a xs, v = .ref a /\ SqL K H a xs /\ xs.length = n /\ t xs σ H Q
theorem pg_lst {es : List Expr} {k : Nat} {t : TGs} {n : Nat} (hc : X.calm = true) (h : PGs X es t)
  (hn : (assignEach es X.env).length = n := by rfl) (hst : (assignEach es X.env).findIdx? (·.1) = none := by rfl) : PG X (.Tuple es k pos) (gLst X.K n t) := by
 intro pins s σ H v u Q I r hw
 obtain ⟨a, xs, e1, hq, hl, hw⟩ := hw
 subst e1
 cases r
 obtain ⟨its, rv, ht, hz⟩ := I.list hq
 refine assign_Tuple_list (I.ok.hd hc) ht.isList (by simp [hn, <- hl, rv.length]) hst fun h' hx => ?_
 have I1 : Inv X pins σ H { s with heap := h' } := I.kept (t' := s.toks) fun b o e => hx b o (Nat.ne_of_lt (Heap.lt_size e)) e
 exact h pins _ σ H xs _ Q I1 (by simpa using rv) hw
end
end L2
namespace L2
open PySem PySem.Spec PyProof.Rows
section
variable {X : Cx} {a b c : Expr} {ta tb tc : TE} {pos : Pos}
def CMulU (i j : Int) : Prop := CMul i j \/ CMulB i j
theorem op_mulU : OpR X (binaryOp .Mult) (rI CMulU fun i j => .int (i * j)) := opI fun _ _ _ _ _ _ _ hc q => mul_int q (hc.elim (fun h => h.ok) fun h => h.ok)
theorem CMulU.l {i j : Int} (h1 : -(2 ^ 64) < i) (h2 : i < 2 ^ 64) : CMulU i j := .inl (.inl ⟨h1, h2⟩)
theorem CMulU.big {i j : Int} (h1 : i.natAbs < 2 ^ 2000) (h2 : j.natAbs < 2 ^ 2000) : CMulU i j := .inr ⟨h1, h2⟩
theorem call_isinstT : CallR X (.builtin "isinstance") (fun xs H Q => ∃ x n t k, xs = [x, .ty n] /\ TyOf X.K H x t /\ PySem.W.kitOne X.K t (.type n) = some k /\ Q (.bl k) H) := by
 intro pins s σ H xs us Q I r h
 obtain ⟨x, n, t, k, rfl, ty, e, q⟩ := h
 obtain ⟨u, w', rfl, rx, rc⟩ := vals2 r
 cases rc
 exact isinst_ok I rx ty e fun tk => ⟨.bl k, H, I.tok _, rfl, q⟩
theorem pe_ty {x : Str} (T : String) (hg : Gl X x) (hm : X.mg x = none) (hv : bootBuiltins x = some (.type T)) (hn : x ≠ "__name__" := by decide) (hd : (x == ("__debug__" : Str)) = false := by decide) : PE X (.Name x pos) (tC (.ty T)) := pe_bltn hg hm hv rfl hn hd
end
section
variable {D : Ends} {σ : St} {H : Hp} {t u : TS} {te ta tb tc : TE} {tt tu : TT} {Q : VK} {QB : Bool -> Hp -> Prop} {QA : List V -> Hp -> Prop} {QG : St -> Hp -> Prop} {v x y : V} {vs : List V} {i j : Nat} {g : TG} {gs : TGs} {A : TA} {K : Fg_}
theorem ap_seq : tSeq t u D σ H = t { D with nx := u D } σ H := rfl
theorem ap_next : tNext D σ H = D.nx σ H := rfl
theorem ap_asg : tAsg te g D σ H = te σ H fun x H1 => g x σ H1 D.nx := rfl
theorem ap_name : gName i v σ H QG = QG (σ.set i (some v)) H := rfl
theorem ap_var : tVar i σ H Q = ∃ v, σ[i]? = some (some v) /\ Q v H := rfl
theorem ap_c : tC v σ H Q = Q v H := rfl
theorem ap_op {r : R2} : tOp r ta tb σ H Q = ta σ H fun x H1 => tb σ H1 fun y H2 => r x y H2 Q := rfl
theorem ap_un {r : V -> Hp -> VK -> Prop} : tUn r ta σ H Q = ta σ H fun x H1 => r x H1 Q := rfl
theorem ap_rI {C : Int -> Int -> Prop} {f : Int -> Int -> V} : rI C f x y H Q = ∃ i j, x = .int i /\ y = .int j /\ C i j /\ Q (f i j) H := rfl
theorem ap_rI0 {f : Int -> Int -> V} : rI0 f x y H Q = ∃ i j, x = .int i /\ y = .int j /\ Q (f i j) H := rfl
theorem ap_rU {f : Int -> V} : rU f x H Q = ∃ i, x = .int i /\ Q (f i) H := rfl
theorem ap_rEq : rEq x y H Q = (scal x y = true /\ Q (.bl (decide (x = y))) H) := rfl
theorem ap_rNe : rNe x y H Q = (scal x y = true /\ Q (.bl (!decide (x = y))) H) := rfl
theorem ap_ret : tRet te D σ H = te σ H D.rt := rfl
theorem ap_retN : tRetN D σ H = D.rt .non H := rfl
theorem ap_drop : tDrop te D σ H = te σ H fun _ H1 => D.nx σ H1 := rfl
theorem ap_if : tIfS tt t u D σ H = tt σ H fun b H1 => if b = true then t D σ H1 else u D σ H1 := rfl
theorem ap_test : tTest te σ H QB = te σ H fun x H' => ∃ k, x = .bl k /\ QB k H' := rfl
theorem ap_tB : tB te σ H QB = te σ H fun x H1 => ∃ c, x = .bl c /\ QB c H1 := rfl
theorem ap_or : tOr tt tu σ H QB = tt σ H fun c H1 => if c = true then QB true H1 else tu σ H1 QB := rfl
theorem ap_not : tNot tt σ H QB = tt σ H fun c H1 => QB (!c) H1 := rfl
theorem ap_andV : tAndV ta tb σ H Q = ta σ H fun x H1 => ∃ c, x = .bl c /\ if c = true then tb σ H1 Q else Q (.bl false) H1 := rfl
theorem ap_notV : tNotV ta σ H Q = ta σ H fun x H1 => ∃ c, x = .bl c /\ Q (.bl (!c)) H1 := rfl
theorem ap_ifE : tIf tt ta tb σ H Q = tt σ H fun c H1 => if c = true then ta σ H1 Q else tb σ H1 Q := rfl
theorem ap_call {sp : Sp} {dvs : List V} {E : XK} : tCall sp dvs E A σ H Q = A σ H fun vs H1 => sp (vs ++ dvs) H1 Q E := rfl
theorem ap_nil : tNil σ H QA = QA [] H := rfl
theorem ap_cons : tCons ta A σ H QA = ta σ H fun x H1 => A σ H1 fun xs H2 => QA (x :: xs) H2 := rfl
theorem ap_cb {r : List V -> Hp -> VK -> Prop} : tCB r A σ H Q = A σ H fun vs H1 => r vs H1 Q := rfl
theorem ap_lst : tLst A σ H Q = A σ H fun xs H1 => xs.length <= sizeLine /\ ∀ p, H1 p = none -> Q (.ref p) (upd H1 p (.lst xs)) := rfl
theorem ap_tup : tTup A σ H Q = A σ H fun xs H1 => xs.length <= sizeLine /\ ∀ p, H1 p = none -> Q (.ref p) (upd H1 p (.tup xs)) := rfl
theorem ap_chain {r r' : R2} : tChain r r' ta tb tc σ H Q = ta σ H fun x H1 => tb σ H1 fun y H2 => r x y H2 fun z H3 => ∃ k, z = .bl k /\ (if k = true then tc σ H3 fun w' H4 => r' y w' H4 Q else Q (.bl false) H3) := rfl
theorem ap_sl {r : V -> Option Int -> Option Int -> Hp -> VK -> Prop} {tl th : TO} : tSl r te tl th σ H Q = te σ H fun x H1 => tl σ H1 fun l H2 => th σ H2 fun u H3 => r x l u H3 Q := rfl
theorem ap_noPart {QO : Option Int -> Hp -> Prop} : tNoPart σ H QO = QO none H := rfl
theorem ap_part {QO : Option Int -> Hp -> Prop} : tPart te σ H QO = te σ H fun x H1 => ∃ i, x = .int i /\ QO (some i) H1 := rfl
theorem ap_gNil : gNil vs σ H QG = (vs = [] /\ QG σ H) := rfl
theorem ap_gCons {u : TGs} : gCons g u vs σ H QG = ∃ v r, vs = v :: r /\ g v σ H fun σ' H' => u r σ' H' QG := rfl
theorem ap_gLst {n : Nat} : gLst K n gs v σ H QG = ∃ a xs, v = .ref a /\ SqL K H a xs /\ xs.length = n /\ gs xs σ H QG := rfl
theorem ap_gTup {n : Nat} : gTup K n gs v σ H QG = ∃ a xs, v = .ref a /\ SqT K H a xs /\ xs.length = n /\ gs xs σ H QG := rfl
theorem ap_bm {T : String} {r : V -> List V -> Hp -> VK -> Prop} : tBM K T r te A σ H Q = te σ H fun x H1 => tyV K T x H1 /\ A σ H1 fun xs H2 => r x xs H2 Q := rfl
theorem ap_ixL {x y : V} : rIxL K x y H Q = ∃ p xs i v, x = .ref p /\ y = .int i /\ SqL K H p xs /\ atI xs i = some v /\ Q v H := rfl
theorem scal_int (i j : Int) : scal (.int i) (.int j) = true := rfl
theorem scal_str (i j : Str) : scal (.str i) (.str j) = true := rfl
theorem scal_bl (i j : Bool) : scal (.bl i) (.bl j) = true := rfl
theorem start_eq (N : List Str) (vs : List V) : start N vs = vs.map some ++ List.replicate (N.length - vs.length) none := rfl
end
end L2
namespace L2
open PySem PySem.Spec PyProof.Rows
theorem filt_true {α : Type} (l : List α) : l.filter (fun _ => true) = l := by simp
theorem Same.upd {H H' : Hp} {a : Addr} {o : HO} (h : Same H H') (hn : H a = Option.none) : Same H (upd H' a o) := fun b u e => by
 rw [upd_ne (ne_of_none e hn)]
 exact h b u e
theorem Same.new {H : Hp} {a : Addr} {o : HO} (hn : H a = Option.none) : Same H (L2.upd H a o) := Same.upd (Same.refl H) hn
section
variable {K : Fg_} {a D : Addr} {xs : List V} {g : TG} {tt : TT} {te : TE} {σ0 : St} {H1 : Hp} {Q : VK}
theorem comp_step {xs : List V} (J : It) (Sσ : St -> Prop) (p : V -> Bool) (F : V -> V) (hD : H1 D = Option.none) (h0 : Sσ σ0) (hz : xs.length <= sizeLine)
  (hgo : ∀ (i : Nat) x H, xs[i]? = some x -> Same H1 H -> J.go i H /\ ∀ y H', J.yld i H y H' -> y = x /\ H' = H) (hstop : ∀ H, Same H1 H -> J.stop xs.length H)
  (hs : ∀ x ∈ xs, ∀ (σ : St) (H : Hp) (R1 : St -> VK) (R2 : St -> Hp -> Prop), Sσ σ -> Same H1 H -> (p x = true -> ∀ σ4 H6, Sσ σ4 -> Same H H6 -> R1 σ4 (F x) H6) -> (p x = false -> ∀ σ4 H6, Sσ σ4 -> Same H H6 -> R2 σ4 H6) ->
   g x σ H fun σ4 H4 => tt σ4 H4 fun b H5 => if b = true then te σ4 H5 (R1 σ4) else R2 σ4 H5)
  (k : ∀ H', Same H1 H' -> H' D = some (.lst ((xs.filter p).map F)) -> Q (.ref D) H') :
  ∃ W : Nat -> Nat -> List V -> St -> Hp -> Prop, (∃ m, W 0 m [] σ0 (upd H1 D (.lst []))) /\ ∀ i m acc σ1 H2, W i m acc σ1 H2 -> H2 D = some (.lst acc) ->
   (J.stop i H2 /\ Q (.ref D) H2) \/ (J.go i H2 /\ ∀ x H3, J.yld i H2 x H3 -> g x σ1 H3 fun σ4 H4 => tt σ4 H4 fun b H5 =>
    if b = true then te σ4 H5 fun v H6 => ∃ acc', H6 D = some (.lst acc') /\ acc'.length < sizeLine /\ ∃ m', m' < m /\ W (i + 1) m' (acc' ++ [v]) σ4 (upd H6 D (.lst (acc' ++ [v])))
    else ∃ m', m' < m /\ ∃ acc', H5 D = some (.lst acc') /\ W (i + 1) m' acc' σ4 H5) := by
 refine ⟨fun i m acc σ H => m = xs.length - i /\ i <= xs.length /\ Sσ σ /\ Same H1 H /\ acc = ((xs.take i).filter p).map F, ⟨xs.length, rfl, Nat.zero_le _, h0, Same.new hD, by simp⟩, ?_⟩
 rintro i m acc σ H ⟨rfl, hi, hσ, sm, rfl⟩ hA
 by_cases hlt : i < xs.length
 ·have hx : xs[i]? = some xs[i] := by simp [hlt]
  obtain ⟨go, yl⟩ := hgo i xs[i] H hx sm
  refine .inr ⟨go, fun y H' hy => ?_⟩
  obtain ⟨rfl, rfl⟩ := yl y H' hy
  have htake : xs.take (i + 1) = xs.take i ++ [xs[i]] := by rw [List.take_add_one, hx]; rfl
  have hlen : (((xs.take i).filter p).map F).length <= i := by
   rw [List.length_map]
   exact Nat.le_trans (List.length_filter_le _ _) (by rw [List.length_take]; exact Nat.min_le_left _ _)
  refine hs xs[i] (List.getElem_mem hlt) σ H' _ _ hσ sm (fun hp σ4 H6 hσ4 s6 => ?_) (fun hp σ4 H6 hσ4 s6 => ?_)
  ·refine ⟨_, s6 _ _ hA, by omega, xs.length - (i + 1), by omega, rfl, hlt, hσ4, (sm.trans s6).upd hD, ?_⟩
   rw [htake, List.filter_append, List.map_append]
   simp [hp]
  ·refine ⟨xs.length - (i + 1), by omega, _, s6 _ _ hA, rfl, hlt, hσ4, sm.trans s6, ?_⟩
   rw [htake, List.filter_append, List.map_append]
   simp [hp]
 ·have e : i = xs.length := by omega
  subst e
  refine .inl ⟨hstop H sm, k H sm ?_⟩
  rw [hA, List.take_length]
theorem comp_list (Sσ : St -> Prop) (p : V -> Bool) (F : V -> V) (hS : SqL K H1 a xs) (hD : H1 D = Option.none) (h0 : Sσ σ0) (hz : xs.length <= sizeLine)
  (hs : ∀ x ∈ xs, ∀ (σ : St) (H : Hp) (R1 : St -> VK) (R2 : St -> Hp -> Prop), Sσ σ -> Same H1 H -> (p x = true -> ∀ σ4 H6, Sσ σ4 -> Same H H6 -> R1 σ4 (F x) H6) -> (p x = false -> ∀ σ4 H6, Sσ σ4 -> Same H H6 -> R2 σ4 H6) ->
   g x σ H fun σ4 H4 => tt σ4 H4 fun b H5 => if b = true then te σ4 H5 (R1 σ4) else R2 σ4 H5)
  (k : ∀ H', Same H1 H' -> H' D = some (.lst ((xs.filter p).map F)) -> Q (.ref D) H') :
  ∃ W : Nat -> Nat -> List V -> St -> Hp -> Prop, (∃ m, W 0 m [] σ0 (upd H1 D (.lst []))) /\ ∀ i m acc σ1 H2, W i m acc σ1 H2 -> H2 D = some (.lst acc) ->
   ((Itl K a).stop i H2 /\ Q (.ref D) H2) \/ ((Itl K a).go i H2 /\ ∀ x H3, (Itl K a).yld i H2 x H3 -> g x σ1 H3 fun σ4 H4 => tt σ4 H4 fun b H5 =>
    if b = true then te σ4 H5 fun v H6 => ∃ acc', H6 D = some (.lst acc') /\ acc'.length < sizeLine /\ ∃ m', m' < m /\ W (i + 1) m' (acc' ++ [v]) σ4 (upd H6 D (.lst (acc' ++ [v])))
    else ∃ m', m' < m /\ ∃ acc', H5 D = some (.lst acc') /\ W (i + 1) m' acc' σ4 H5) :=
 comp_step (Itl K a) Sσ p F hD h0 hz (fun i x H hx sm => ⟨⟨xs, x, sm.seq hS, hx⟩, fun y H' hy => ⟨Option.some.inj ((hy.2 xs (sm.seq hS)).symm.trans hx), hy.1⟩⟩) (fun H sm => ⟨xs, sm.seq hS, Nat.le_refl _⟩) hs k
end
end L2
namespace L2
open PySem PySem.Spec PyProof.Rows
inductive DV where
 | non | bl (b : Bool) | int (i : Int) | str (x : Str) | lst (xs : List DV) | tup (xs : List DV)
mutual
inductive RepD (K : Fg_) (H : Hp) : V -> DV -> Prop
 | non : RepD K H .non .non
 | bl (b : Bool) : RepD K H (.bl b) (.bl b)
 | int (i : Int) : RepD K H (.int i) (.int i)
 | str (x : Str) : RepD K H (.str x) (.str x)
 | lst {a : Addr} {vs : List V} {ds : List DV} (h : SqL K H a vs) (hs : RepsD K H vs ds) : RepD K H (.ref a) (.lst ds)
 | tup {a : Addr} {vs : List V} {ds : List DV} (h : SqT K H a vs) (hs : RepsD K H vs ds) : RepD K H (.ref a) (.tup ds)
inductive RepsD (K : Fg_) (H : Hp) : List V -> List DV -> Prop
 | nil : RepsD K H [] []
 | cons {v : V} {d : DV} {vs : List V} {ds : List DV} (h : RepD K H v d) (hs : RepsD K H vs ds) : RepsD K H (v :: vs) (d :: ds)
end
mutual
def deqD : DV -> DV -> Bool
 | .non, .non => true
 | .bl a, .bl b => a == b
 | .int a, .int b => a == b
 | .bl a, .int b => (if a then 1 else 0) == b
 | .int a, .bl b => a == (if b then 1 else 0)
 | .str a, .str b => a == b
 | .lst xs, .lst ys => deqDs xs ys
 | .tup xs, .tup ys => deqDs xs ys
 | _, _ => false
def deqDs : List DV -> List DV -> Bool
 | [], [] => true
 | x :: xs, y :: ys => deqD x y && deqDs xs ys
 | _, _ => false
end
mutual
def depD : DV -> Nat
 | .lst xs => depDs xs + 1
 | .tup xs => depDs xs + 1
 | _ => 0
def depDs : List DV -> Nat
 | [] => 0
 | x :: xs => max (depD x) (depDs xs)
end
theorem RepsD.length {K : Fg_} {H : Hp} : ∀ {vs : List V} {ds : List DV}, RepsD K H vs ds -> vs.length = ds.length
 | _, _, .nil => rfl
 | _, _, .cons _ hs => congrArg (· + 1) (RepsD.length hs)
theorem RepsD.get {K : Fg_} {H : Hp} : ∀ {vs : List V} {ds : List DV} {j : Nat} {v : V} {d : DV}, RepsD K H vs ds -> vs[j]? = some v -> ds[j]? = some d -> RepD K H v d
 | _, _, _, _, _, .nil, h, _ => by simp at h
 | _, _, 0, _, _, .cons h _, e1, e2 => by simp at e1 e2; subst e1 e2; exact h
 | _, _, j + 1, _, _, .cons _ hs, e1, e2 => RepsD.get (j := j) hs (by simpa using e1) (by simpa using e2)
theorem depDs_get : ∀ {ds : List DV} {j : Nat} {d : DV}, ds[j]? = some d -> depD d <= depDs ds
 | [], _, _, h => by simp at h
 | x :: xs, 0, d, h => by simp at h; subst h; unfold depDs; exact Nat.le_max_left _ _
 | x :: xs, j + 1, d, h => by unfold depDs; exact Nat.le_trans (depDs_get (j := j) (by simpa using h)) (Nat.le_max_right _ _)
theorem deqDs_all : ∀ (xs ys : List DV), xs.length = ys.length -> deqDs xs ys = (List.range xs.length).all fun j => deqD (xs.getD j .non) (ys.getD j .non)
 | [], [], _ => rfl
 | x :: xs, y :: ys, h => by
  unfold deqDs
  rw [deqDs_all xs ys (by simpa using h), List.length_cons, List.range_succ_eq_map, List.all_cons, List.all_map]
  rfl
 | [], _ :: _, h => by simp at h
 | _ :: _, [], h => by simp at h
theorem deqDs_len : ∀ (xs ys : List DV), xs.length ≠ ys.length -> deqDs xs ys = false
 | [], [], h => absurd rfl h
 | x :: xs, y :: ys, h => by
  unfold deqDs
  rw [deqDs_len xs ys (by simpa using h), Bool.and_false]
 | [], _ :: _, _ => by unfold deqDs; rfl
 | _ :: _, [], _ => by unfold deqDs; rfl
theorem deqD_lst (xs ys : List DV) : deqD (.lst xs) (.lst ys) = deqDs xs ys := by unfold deqD; rfl
theorem deqD_tup (xs ys : List DV) : deqD (.tup xs) (.tup ys) = deqDs xs ys := by unfold deqD; rfl
mutual
theorem deqD_refl : ∀ d : DV, deqD d d = true
 | .non => by unfold deqD; rfl
 | .bl a => by unfold deqD; simp
 | .int a => by unfold deqD; simp
 | .str a => by unfold deqD; simp
 | .lst xs => by unfold deqD; exact deqDs_refl xs
 | .tup xs => by unfold deqD; exact deqDs_refl xs
theorem deqDs_refl : ∀ ds : List DV, deqDs ds ds = true
 | [] => by unfold deqDs; rfl
 | x :: xs => by unfold deqDs; rw [deqD_refl x, deqDs_refl xs]; rfl
end
section
variable {X : Cx} {pins : List (Addr × Obj)} {σ : St} {H : Hp} {s : Shared}
theorem Inv.noboth (I : Inv X pins σ H s) {a : Addr} {xs ys : List V} (h : SqL X.K H a xs) (h' : SqT X.K H a ys) : False := by
 obtain ⟨its, r, ⟨o, n, e, c, _⟩, _⟩ := I.list h
 obtain ⟨its', r', ⟨o', e', c', _⟩, _⟩ := I.tuple h'
 rw [e] at e'; cases e'
 rw [c] at c'
 exact absurd c' (by decide)
mutual
theorem RepD.inj (I : Inv X pins σ H s) : ∀ {v : V} {d d' : DV}, RepD X.K H v d -> RepD X.K H v d' -> d = d'
 | _, _, _, .non, .non => rfl
 | _, _, _, .bl _, .bl _ => rfl
 | _, _, _, .int _, .int _ => rfl
 | _, _, _, .str _, .str _ => rfl
 | _, _, _, .lst h hs, .lst h' hs' => by
  have e := I.list_inj h h'
  subst e
  rw [RepsD.inj I hs hs']
 | _, _, _, .tup h hs, .tup h' hs' => by
  have e := I.tuple_inj h h'
  subst e
  rw [RepsD.inj I hs hs']
 | _, _, _, .lst h _, .tup h' _ => (I.noboth h h').elim
 | _, _, _, .tup h _, .lst h' _ => (I.noboth h' h).elim
theorem RepsD.inj (I : Inv X pins σ H s) : ∀ {vs : List V} {ds ds' : List DV}, RepsD X.K H vs ds -> RepsD X.K H vs ds' -> ds = ds'
 | _, _, _, .nil, .nil => rfl
 | _, _, _, .cons h hs, .cons h' hs' => by rw [RepD.inj I h h', RepsD.inj I hs hs']
end
theorem in1_units (A : Around) : A.in1.units = A.units + 1 := rfl
theorem eqAt_flatL (I : Inv X pins σ H s) {A : Around} {d1 d2 : DV} {v1 v2 : V} {u1 u2 : Value} (hd : depD d1 <= 0) (hu' : A.units < cLine) (h1 : RepD X.K H v1 d1) (h2 : RepD X.K H v2 d2) (r1 : RelV v1 u1) (r2 : RelV v2 u2) : SeqAt.EqAt A s u1 u2 (deqD d1 d2) := by
 cases h1 with
 | lst h hs => unfold depD at hd; omega
 | tup h hs => unfold depD at hd; omega
 | non =>
  cases (show u1 = Value.none from r1)
  cases h2 with
  | non => cases (show u2 = Value.none from r2); unfold deqD; exact SeqAt.EqAt.same _
  | bl b => cases (show u2 = Value.bool b from r2); unfold deqD; exact SeqAt.EqAt.none_bool b
  | int i => obtain ⟨t, e⟩ := (show ∃ t, u2 = Value.int i t from r2); subst e; unfold deqD; exact SeqAt.EqAt.none_int i t
  | str x => obtain ⟨t, e⟩ := (show ∃ t, u2 = Value.str x t from r2); subst e; unfold deqD; exact SeqAt.EqAt.none_str x t
  | lst h hs => obtain ⟨its, _, p, _⟩ := I.list h; cases r2; unfold deqD; exact SeqAt.EqAt.none_list p.isList hu'
  | tup h hs => obtain ⟨its, _, p, _⟩ := I.tuple h; cases r2; unfold deqD; exact SeqAt.EqAt.none_tuple p hu'
 | bl a =>
  cases (show u1 = Value.bool a from r1)
  cases h2 with
  | non => cases (show u2 = Value.none from r2); unfold deqD; exact SeqAt.EqAt.bool_none a
  | bl b => cases (show u2 = Value.bool b from r2); unfold deqD; exact SeqAt.EqAt.bool_bool a b
  | int i => obtain ⟨t, e⟩ := (show ∃ t, u2 = Value.int i t from r2); subst e; unfold deqD; exact SeqAt.EqAt.bool_int a i t
  | str x => obtain ⟨t, e⟩ := (show ∃ t, u2 = Value.str x t from r2); subst e; unfold deqD; exact SeqAt.EqAt.bool_str a x t
  | lst h hs => obtain ⟨its, _, p, _⟩ := I.list h; cases r2; unfold deqD; exact SeqAt.EqAt.bool_list a p.isList hu'
  | tup h hs => obtain ⟨its, _, p, _⟩ := I.tuple h; cases r2; unfold deqD; exact SeqAt.EqAt.bool_tuple a p hu'
 | int a =>
  obtain ⟨t1, e1⟩ := (show ∃ t, u1 = Value.int a t from r1); subst e1
  cases h2 with
  | non => cases (show u2 = Value.none from r2); unfold deqD; exact SeqAt.EqAt.int_none a t1
  | bl b => cases (show u2 = Value.bool b from r2); unfold deqD; exact SeqAt.EqAt.int_bool a t1 b
  | int i => obtain ⟨t, e⟩ := (show ∃ t, u2 = Value.int i t from r2); subst e; unfold deqD; exact SeqAt.EqAt.int_int a t1 i t
  | str x => obtain ⟨t, e⟩ := (show ∃ t, u2 = Value.str x t from r2); subst e; unfold deqD; exact SeqAt.EqAt.int_str a t1 x t
  | lst h hs => obtain ⟨its, _, p, _⟩ := I.list h; cases r2; unfold deqD; exact SeqAt.EqAt.int_list a t1 p.isList hu'
  | tup h hs => obtain ⟨its, _, p, _⟩ := I.tuple h; cases r2; unfold deqD; exact SeqAt.EqAt.int_tuple a t1 p hu'
 | str a =>
  obtain ⟨t1, e1⟩ := (show ∃ t, u1 = Value.str a t from r1); subst e1
  cases h2 with
  | non => cases (show u2 = Value.none from r2); unfold deqD; exact SeqAt.EqAt.str_none a t1
  | bl b => cases (show u2 = Value.bool b from r2); unfold deqD; exact SeqAt.EqAt.str_bool a t1 b
  | int i => obtain ⟨t, e⟩ := (show ∃ t, u2 = Value.int i t from r2); subst e; unfold deqD; exact SeqAt.EqAt.str_int a t1 i t
  | str x => obtain ⟨t, e⟩ := (show ∃ t, u2 = Value.str x t from r2); subst e; unfold deqD; exact SeqAt.EqAt.str_str a t1 x t
  | lst h hs => obtain ⟨its, _, p, _⟩ := I.list h; cases r2; unfold deqD; exact SeqAt.EqAt.str_list a t1 p.isList hu'
  | tup h hs => obtain ⟨its, _, p, _⟩ := I.tuple h; cases r2; unfold deqD; exact SeqAt.EqAt.str_tuple a t1 p hu'
theorem eqAt_items {A : Around} {vs1 vs2 : List V} {ds1 ds2 : List DV} {its1 its2 : List Value} (r1 : Vals vs1 its1) (r2 : Vals vs2 its2) (h1 : RepsD X.K H vs1 ds1) (h2 : RepsD X.K H vs2 ds2)
  (ih : ∀ (d1 d2 : DV) (v1 v2 : V) (u1 u2 : Value), depD d1 <= depDs ds1 -> RepD X.K H v1 d1 -> RepD X.K H v2 d2 -> RelV v1 u1 -> RelV v2 u2 -> SeqAt.EqAt A s u1 u2 (deqD d1 d2)) :
  ∀ (j : Nat) (a : j < its1.toArray.size) (b : j < its2.toArray.size), SeqAt.EqAt A s its1.toArray[j] its2.toArray[j] (deqD (ds1.getD j .non) (ds2.getD j .non)) := by
 intro j a b
 have l1 := r1.length
 have l2 := r2.length
 have m1 := h1.length
 have m2 := h2.length
 simp only [List.size_toArray] at a b
 have a1 : j < vs1.length := by omega
 have a2 : j < vs2.length := by omega
 have b1 : j < ds1.length := by omega
 have b2 : j < ds2.length := by omega
 obtain ⟨w1, e1, q1⟩ := r1.get (i := j) (x := vs1[j]) (by simp [a1])
 obtain ⟨w2, e2, q2⟩ := r2.get (i := j) (x := vs2[j]) (by simp [a2])
 have z1 : its1.toArray[j] = w1 := by simpa [a] using e1
 have z2 : its2.toArray[j] = w2 := by simpa [b] using e2
 have y1 : ds1.getD j .non = ds1[j] := by simp [List.getD, b1]
 have y2 : ds2.getD j .non = ds2[j] := by simp [List.getD, b2]
 rw [z1, z2, y1, y2]
 exact ih _ _ _ _ _ _ (depDs_get (j := j) (by simp [b1])) (h1.get (j := j) (by simp [a1]) (by simp [b1])) (h2.get (j := j) (by simp [a2]) (by simp [b2])) q1 q2
theorem eqAt_D (I : Inv X pins σ H s) : ∀ (n : Nat) (A : Around) (d1 d2 : DV) (v1 v2 : V) (u1 u2 : Value), depD d1 <= n -> A.units + n < cLine -> RepD X.K H v1 d1 -> RepD X.K H v2 d2 -> RelV v1 u1 -> RelV v2 u2 -> SeqAt.EqAt A s u1 u2 (deqD d1 d2) := by
 intro n
 induction n with
 | zero => exact fun A d1 d2 v1 v2 u1 u2 hd hu h1 h2 r1 r2 => eqAt_flatL I hd (by omega) h1 h2 r1 r2
 | succ n ih =>
  intro A d1 d2 v1 v2 u1 u2 hd hu h1 h2 r1 r2
  have hu' : A.units < cLine := by omega
  have hin : A.in1.units + n < cLine := by rw [in1_units]; omega
  cases h1 with
  | non => exact eqAt_flatL I (by unfold depD; omega) hu' .non h2 r1 r2
  | bl a => exact eqAt_flatL I (by unfold depD; omega) hu' (.bl a) h2 r1 r2
  | int a => exact eqAt_flatL I (by unfold depD; omega) hu' (.int a) h2 r1 r2
  | str a => exact eqAt_flatL I (by unfold depD; omega) hu' (.str a) h2 r1 r2
  | @lst a vs ds h hs =>
   obtain ⟨its, rv, p, _⟩ := I.list h
   cases (show u1 = Value.ref a from r1)
   have hd' : depDs ds <= n := by unfold depD at hd; omega
   cases h2 with
   | non => cases (show u2 = Value.none from r2); unfold deqD; exact SeqAt.EqAt.list_none p.isList hu'
   | bl b => cases (show u2 = Value.bool b from r2); unfold deqD; exact SeqAt.EqAt.list_bool b p.isList hu'
   | int i => obtain ⟨t, e⟩ := (show ∃ t, u2 = Value.int i t from r2); subst e; unfold deqD; exact SeqAt.EqAt.list_int i t p.isList hu'
   | str x => obtain ⟨t, e⟩ := (show ∃ t, u2 = Value.str x t from r2); subst e; unfold deqD; exact SeqAt.EqAt.list_str x t p.isList hu'
   | @lst a2 vs2 ds2 h' hs' =>
    obtain ⟨its2, rv2, p2, _⟩ := I.list h'
    cases (show u2 = Value.ref a2 from r2)
    unfold deqD
    by_cases hne : a = a2
    ·subst hne
     have e := I.list_inj h h'
     subst e
     rw [RepsD.inj I hs hs', deqDs_refl]
     exact SeqAt.EqAt.same _
    ·have l1 := rv.length
     have l2 := rv2.length
     have m1 := hs.length
     have m2 := hs'.length
     by_cases hz : ds.length = ds2.length
     ·rw [deqDs_all _ _ hz]
      have := SeqAt.EqAt.of_refs hne (SeqAt.RcAt.lists (A := A) (e := fun j => deqD (ds.getD j .non) (ds2.getD j .non)) p.isList p2.isList (by simp only [List.size_toArray]; omega) hu'
       (eqAt_items rv rv2 hs hs' fun d1 d2 v1 v2 u1 u2 hdd g1 g2 q1 q2 => ih A.in1 d1 d2 v1 v2 u1 u2 (by omega) hin g1 g2 q1 q2))
      rw [List.size_toArray, show its.length = ds.length by omega] at this
      exact this
     ·rw [deqDs_len _ _ hz]
      exact SeqAt.EqAt.of_refs hne (SeqAt.RcAt.lists_lengths p.isList p2.isList (by simp only [List.size_toArray, bne_iff_ne]; omega) hu')
   | @tup a2 vs2 ds2 h' hs' =>
    obtain ⟨its2, rv2, p2, _⟩ := I.tuple h'
    cases (show u2 = Value.ref a2 from r2)
    unfold deqD
    exact SeqAt.EqAt.list_tuple p.isList p2 hu'
  | @tup a vs ds h hs =>
   obtain ⟨its, rv, p, _⟩ := I.tuple h
   cases (show u1 = Value.ref a from r1)
   have hd' : depDs ds <= n := by unfold depD at hd; omega
   cases h2 with
   | non => cases (show u2 = Value.none from r2); unfold deqD; exact SeqAt.EqAt.tuple_none p hu'
   | bl b => cases (show u2 = Value.bool b from r2); unfold deqD; exact SeqAt.EqAt.tuple_bool b p hu'
   | int i => obtain ⟨t, e⟩ := (show ∃ t, u2 = Value.int i t from r2); subst e; unfold deqD; exact SeqAt.EqAt.tuple_int i t p hu'
   | str x => obtain ⟨t, e⟩ := (show ∃ t, u2 = Value.str x t from r2); subst e; unfold deqD; exact SeqAt.EqAt.tuple_str x t p hu'
   | @lst a2 vs2 ds2 h' hs' =>
    obtain ⟨its2, rv2, p2, _⟩ := I.list h'
    cases (show u2 = Value.ref a2 from r2)
    unfold deqD
    exact SeqAt.EqAt.tuple_list p p2.isList hu'
   | @tup a2 vs2 ds2 h' hs' =>
    obtain ⟨its2, rv2, p2, _⟩ := I.tuple h'
    cases (show u2 = Value.ref a2 from r2)
    unfold deqD
    by_cases hne : a = a2
    ·subst hne
     have e := I.tuple_inj h h'
     subst e
     rw [RepsD.inj I hs hs', deqDs_refl]
     exact SeqAt.EqAt.same _
    ·have l1 := rv.length
     have l2 := rv2.length
     have m1 := hs.length
     have m2 := hs'.length
     have := SeqAt.EqAt.of_refs hne (SeqAt.RcAt.tuples (A := A) (e := fun j => deqD (ds.getD j .non) (ds2.getD j .non)) p p2 hu'
       (eqAt_items rv rv2 hs hs' fun d1 d2 v1 v2 u1 u2 hdd g1 g2 q1 q2 => ih A.in1 d1 d2 v1 v2 u1 u2 (by omega) hin g1 g2 q1 q2))
     simp only [List.size_toArray] at this
     by_cases hz : ds.length = ds2.length
     ·rw [deqDs_all _ _ hz]
      rw [show its.length = ds.length by omega, show its2.length = ds.length by omega, Nat.min_self, beq_self_eq_true, Bool.and_true] at this
      exact this
     ·rw [deqDs_len _ _ hz]
      rw [show (its.length == its2.length) = false from beq_eq_false_iff_ne.mpr (by omega), Bool.and_false] at this
      exact this
def rEqD (K : Fg_) : R2 := fun x y H Q => ∃ d1 d2, RepD K H x d1 /\ RepD K H y d2 /\ 1 <= depD d1 /\ depD d1 <= 20 /\ Q (.bl (deqD d1 d2)) H
def rNeD (K : Fg_) : R2 := fun x y H Q => ∃ d1 d2, RepD K H x d1 /\ RepD K H y d2 /\ 1 <= depD d1 /\ depD d1 <= 20 /\ Q (.bl (!deqD d1 d2)) H
theorem op_eqD {k : Nat} (hr : Room k X.A) : OpR X (compareOp .Eq) (rEqD X.K) := by
 intro pins s σ H x y v u Q I rx ry h
 obtain ⟨d1, d2, h1, h2, hd1, hd, q⟩ := h
 have hr' := hr.units
 have hu' : X.A.units < cLine := by omega
 have hin : X.A.in1.units + 20 < cLine := by rw [in1_units]; omega
 have fin : ∀ b, SeqAt.RcAt X.A s v u b -> b = (deqD d1 d2) -> wpAny (model X.prog X.w) X.A (compareOp .Eq v u) (EP X pins σ Q) X.xe s := fun b hb e => by
  subst e
  exact hb X.prog X.w X.xe _ ⟨.bl _, H, I, rfl, q⟩
 cases h1 with
 | non => unfold depD at hd1; omega
 | bl a => unfold depD at hd1; omega
 | int a => unfold depD at hd1; omega
 | str a => unfold depD at hd1; omega
 | @lst a vs ds h hs =>
  obtain ⟨its, rv, p, _⟩ := I.list h
  cases (show v = Value.ref a from rx)
  have hd' : depDs ds <= 20 := by unfold depD at hd; omega
  cases h2 with
  | non => cases (show u = Value.none from ry); exact fin _ (SeqAt.RcAt.list_none p.isList hu') (by unfold deqD; rfl)
  | bl b => cases (show u = Value.bool b from ry); exact fin _ (SeqAt.RcAt.list_bool b p.isList hu') (by unfold deqD; rfl)
  | int i => obtain ⟨t, e⟩ := (show ∃ t, u = Value.int i t from ry); subst e; exact fin _ (SeqAt.RcAt.list_int i t p.isList hu') (by unfold deqD; rfl)
  | str z => obtain ⟨t, e⟩ := (show ∃ t, u = Value.str z t from ry); subst e; exact fin _ (SeqAt.RcAt.list_str z t p.isList hu') (by unfold deqD; rfl)
  | @tup a2 vs2 ds2 h' hs' =>
   obtain ⟨its2, rv2, p2, _⟩ := I.tuple h'
   cases (show u = Value.ref a2 from ry)
   exact fin _ (SeqAt.RcAt.list_tuple p.isList p2 hu') (by unfold deqD; rfl)
  | @lst a2 vs2 ds2 h' hs' =>
   obtain ⟨its2, rv2, p2, _⟩ := I.list h'
   cases (show u = Value.ref a2 from ry)
   have l1 := rv.length
   have l2 := rv2.length
   have m1 := hs.length
   have m2 := hs'.length
   by_cases hz : ds.length = ds2.length
   ·refine fin _ (SeqAt.RcAt.lists (A := X.A) (e := fun j => deqD (ds.getD j .non) (ds2.getD j .non)) p.isList p2.isList (by simp only [List.size_toArray]; omega) hu'
     (eqAt_items rv rv2 hs hs' fun d1 d2 v1 v2 u1 u2 hdd g1 g2 q1 q2 => eqAt_D I 20 X.A.in1 d1 d2 v1 v2 u1 u2 (by omega) hin g1 g2 q1 q2)) ?_
    rw [deqD_lst, deqDs_all _ _ hz, List.size_toArray, show its.length = ds.length by omega]
   ·refine fin _ (SeqAt.RcAt.lists_lengths p.isList p2.isList (by simp only [List.size_toArray, bne_iff_ne]; omega) hu') ?_
    unfold deqD
    rw [deqDs_len _ _ hz]
    all_goals rfl
 | @tup a vs ds h hs =>
  obtain ⟨its, rv, p, _⟩ := I.tuple h
  cases (show v = Value.ref a from rx)
  have hd' : depDs ds <= 20 := by unfold depD at hd; omega
  cases h2 with
  | non => cases (show u = Value.none from ry); exact fin _ (SeqAt.RcAt.tuple_none p hu') (by unfold deqD; rfl)
  | bl b => cases (show u = Value.bool b from ry); exact fin _ (SeqAt.RcAt.tuple_bool b p hu') (by unfold deqD; rfl)
  | int i => obtain ⟨t, e⟩ := (show ∃ t, u = Value.int i t from ry); subst e; exact fin _ (SeqAt.RcAt.tuple_int i t p hu') (by unfold deqD; rfl)
  | str z => obtain ⟨t, e⟩ := (show ∃ t, u = Value.str z t from ry); subst e; exact fin _ (SeqAt.RcAt.tuple_str z t p hu') (by unfold deqD; rfl)
  | @lst a2 vs2 ds2 h' hs' =>
   obtain ⟨its2, rv2, p2, _⟩ := I.list h'
   cases (show u = Value.ref a2 from ry)
   exact fin _ (SeqAt.RcAt.tuple_list p p2.isList hu') (by unfold deqD; rfl)
  | @tup a2 vs2 ds2 h' hs' =>
   obtain ⟨its2, rv2, p2, _⟩ := I.tuple h'
   cases (show u = Value.ref a2 from ry)
   have l1 := rv.length
   have l2 := rv2.length
   have m1 := hs.length
   have m2 := hs'.length
   refine fin _ (SeqAt.RcAt.tuples (A := X.A) (e := fun j => deqD (ds.getD j .non) (ds2.getD j .non)) p p2 hu'
     (eqAt_items rv rv2 hs hs' fun d1 d2 v1 v2 u1 u2 hdd g1 g2 q1 q2 => eqAt_D I 20 X.A.in1 d1 d2 v1 v2 u1 u2 (by omega) hin g1 g2 q1 q2)) ?_
   rw [deqD_tup]
   simp only [List.size_toArray]
   by_cases hz : ds.length = ds2.length
   ·rw [deqDs_all _ _ hz, show its.length = ds.length by omega, show its2.length = ds.length by omega, Nat.min_self, beq_self_eq_true, Bool.and_true]
   ·rw [deqDs_len _ _ hz, show (its.length == its2.length) = false from beq_eq_false_iff_ne.mpr (by omega), Bool.and_false]
theorem op_neD {k : Nat} (hr : Room k X.A) : OpR X (compareOp .NotEq) (rNeD X.K) := by
 intro pins s σ H x y v u Q I rx ry h
 obtain ⟨d1, d2, h1, h2, hd1, hd, q⟩ := h
 have hr' := hr.units
 have hu' : X.A.units < cLine := by omega
 have hin : X.A.in1.units + 20 < cLine := by rw [in1_units]; omega
 have fin : ∀ b, SeqAt.RcNeAt X.A s v u b -> b = (!deqD d1 d2) -> wpAny (model X.prog X.w) X.A (compareOp .NotEq v u) (EP X pins σ Q) X.xe s := fun b hb e => by
  subst e
  exact hb X.prog X.w X.xe _ ⟨.bl _, H, I, rfl, q⟩
 cases h1 with
 | non => unfold depD at hd1; omega
 | bl a => unfold depD at hd1; omega
 | int a => unfold depD at hd1; omega
 | str a => unfold depD at hd1; omega
 | @lst a vs ds h hs =>
  obtain ⟨its, rv, p, _⟩ := I.list h
  cases (show v = Value.ref a from rx)
  have hd' : depDs ds <= 20 := by unfold depD at hd; omega
  cases h2 with
  | non => cases (show u = Value.none from ry); exact fin _ (SeqAt.RcNeAt.list_none p.isList hu') (by unfold deqD; rfl)
  | bl b => cases (show u = Value.bool b from ry); exact fin _ (SeqAt.RcNeAt.list_bool b p.isList hu') (by unfold deqD; rfl)
  | int i => obtain ⟨t, e⟩ := (show ∃ t, u = Value.int i t from ry); subst e; exact fin _ (SeqAt.RcNeAt.list_int i t p.isList hu') (by unfold deqD; rfl)
  | str z => obtain ⟨t, e⟩ := (show ∃ t, u = Value.str z t from ry); subst e; exact fin _ (SeqAt.RcNeAt.list_str z t p.isList hu') (by unfold deqD; rfl)
  | @tup a2 vs2 ds2 h' hs' =>
   obtain ⟨its2, rv2, p2, _⟩ := I.tuple h'
   cases (show u = Value.ref a2 from ry)
   exact fin _ (SeqAt.RcNeAt.list_tuple p.isList p2 hu') (by unfold deqD; rfl)
  | @lst a2 vs2 ds2 h' hs' =>
   obtain ⟨its2, rv2, p2, _⟩ := I.list h'
   cases (show u = Value.ref a2 from ry)
   have l1 := rv.length
   have l2 := rv2.length
   have m1 := hs.length
   have m2 := hs'.length
   by_cases hz : ds.length = ds2.length
   ·refine fin _ (SeqAt.RcNeAt.lists (A := X.A) (e := fun j => deqD (ds.getD j .non) (ds2.getD j .non)) p.isList p2.isList (by simp only [List.size_toArray]; omega) hu'
     (eqAt_items rv rv2 hs hs' fun d1 d2 v1 v2 u1 u2 hdd g1 g2 q1 q2 => eqAt_D I 20 X.A.in1 d1 d2 v1 v2 u1 u2 (by omega) hin g1 g2 q1 q2)) ?_
    rw [deqD_lst, deqDs_all _ _ hz, List.size_toArray, show its.length = ds.length by omega]
   ·refine fin _ (SeqAt.RcNeAt.lists_lengths p.isList p2.isList (by simp only [List.size_toArray, bne_iff_ne]; omega) hu') ?_
    unfold deqD
    rw [deqDs_len _ _ hz]
    all_goals rfl
 | @tup a vs ds h hs =>
  obtain ⟨its, rv, p, _⟩ := I.tuple h
  cases (show v = Value.ref a from rx)
  have hd' : depDs ds <= 20 := by unfold depD at hd; omega
  cases h2 with
  | non => cases (show u = Value.none from ry); exact fin _ (SeqAt.RcNeAt.tuple_none p hu') (by unfold deqD; rfl)
  | bl b => cases (show u = Value.bool b from ry); exact fin _ (SeqAt.RcNeAt.tuple_bool b p hu') (by unfold deqD; rfl)
  | int i => obtain ⟨t, e⟩ := (show ∃ t, u = Value.int i t from ry); subst e; exact fin _ (SeqAt.RcNeAt.tuple_int i t p hu') (by unfold deqD; rfl)
  | str z => obtain ⟨t, e⟩ := (show ∃ t, u = Value.str z t from ry); subst e; exact fin _ (SeqAt.RcNeAt.tuple_str z t p hu') (by unfold deqD; rfl)
  | @lst a2 vs2 ds2 h' hs' =>
   obtain ⟨its2, rv2, p2, _⟩ := I.list h'
   cases (show u = Value.ref a2 from ry)
   exact fin _ (SeqAt.RcNeAt.tuple_list p p2.isList hu') (by unfold deqD; rfl)
  | @tup a2 vs2 ds2 h' hs' =>
   obtain ⟨its2, rv2, p2, _⟩ := I.tuple h'
   cases (show u = Value.ref a2 from ry)
   have l1 := rv.length
   have l2 := rv2.length
   have m1 := hs.length
   have m2 := hs'.length
   refine fin _ (SeqAt.RcNeAt.tuples (A := X.A) (e := fun j => deqD (ds.getD j .non) (ds2.getD j .non)) p p2 hu'
     (eqAt_items rv rv2 hs hs' fun d1 d2 v1 v2 u1 u2 hdd g1 g2 q1 q2 => eqAt_D I 20 X.A.in1 d1 d2 v1 v2 u1 u2 (by omega) hin g1 g2 q1 q2)) ?_
   rw [deqD_tup]
   simp only [List.size_toArray]
   by_cases hz : ds.length = ds2.length
   ·rw [deqDs_all _ _ hz, show its.length = ds.length by omega, show its2.length = ds.length by omega, Nat.min_self, beq_self_eq_true, Bool.and_true]
   ·rw [deqDs_len _ _ hz, show (its.length == its2.length) = false from beq_eq_false_iff_ne.mpr (by omega), Bool.and_false]
end
end L2
namespace L2
open PySem PySem.Spec PyProof.Rows
section
variable {X : Cx} {K : Fg_} {a b o e : Expr} {ta tb to te : TE} {pos : Pos} {tg : Expr}
theorem ix_listK (hK : X.K = K := by rfl) : IxR X (rIxL K) := hK ▸ ix_list
theorem ix_tupK (hK : X.K = K := by rfl) : IxR X (rIxT K) := hK ▸ ix_tup
theorem sl_tupK (hK : X.K = K := by rfl) : SlR X (rSlT K) := hK ▸ sl_tup
theorem op_inK (hK : X.K = K := by rfl) : OpR X (compareOp .In) (rIn K false) := hK ▸ op_in_seq
theorem op_eqDK {k : Nat} (hr : Room k X.A) (hK : X.K = K := by rfl) : OpR X (compareOp .Eq) (rEqD K) := hK ▸ op_eqD hr
theorem op_neDK {k : Nat} (hr : Room k X.A) (hK : X.K = K := by rfl) : OpR X (compareOp .NotEq) (rNeD K) := hK ▸ op_neD hr
theorem op_catTK (hK : X.K = K := by rfl) : OpR X (binaryOp .Add) (rCatT K) := hK ▸ op_catT
def rLen (K : Fg_) : List V -> Hp -> VK -> Prop := fun xs H Q => ∃ p ys, xs = [.ref p] /\ (SqL K H p ys \/ SqT K H p ys) /\ Q (.int ys.length) H
theorem call_lenK (hK : X.K = K := by rfl) : CallR X (.builtin "len") (rLen K) := hK ▸ call_len_seq
def rSum (K : Fg_) : List V -> Hp -> VK -> Prop := fun xs H Q => ∃ (a : Addr) (ns : List Int), xs = [.ref a] /\ SqL K H a (ns.map V.int) /\ Q (.int ns.sum) H
theorem call_sumK (hc : X.calm = true) (hK : X.K = K := by rfl) : CallR X (.builtin "sum") (rSum K) := hK ▸ call_sumI hc
def rAll (K : Fg_) : List V -> Hp -> VK -> Prop := fun xs H Q => ∃ (a : Addr) (bs : List Bool), xs = [.ref a] /\ SqL K H a (bs.map V.bl) /\ Q (.bl (bs.all id)) H
theorem call_allK (hc : X.calm = true) (hK : X.K = K := by rfl) : CallR X (.builtin "all") (rAll K) := hK ▸ call_allB hc
def rListOf (K : Fg_) : List V -> Hp -> VK -> Prop := fun xs H Q => ∃ p ys, xs = [.ref p] /\ (SqL K H p ys \/ SqT K H p ys) /\ ∀ l, H l = none -> Q (.ref l) (upd H l (.lst ys))
theorem call_listK (hK : X.K = K := by rfl) : CallR X (.type "list") (rListOf K) := hK ▸ call_list_of
def rTupOf (K : Fg_) : List V -> Hp -> VK -> Prop := fun xs H Q => ∃ p ys, xs = [.ref p] /\ ((SqL K H p ys /\ ∀ l, H l = none -> Q (.ref l) (upd H l (.tup ys))) \/ (SqT K H p ys /\ Q (.ref p) H))
theorem call_tupleK (hK : X.K = K := by rfl) : CallR X (.type "tuple") (rTupOf K) := hK ▸ call_tuple_of
def rIsT (K : Fg_) : List V -> Hp -> VK -> Prop := fun xs H Q => ∃ x n t k, xs = [x, .ty n] /\ TyOf K H x t /\ PySem.W.kitOne K t (.type n) = some k /\ Q (.bl k) H
theorem call_isTK (hK : X.K = K := by rfl) : CallR X (.builtin "isinstance") (rIsT K) := hK ▸ call_isinstT
def rMax : List V -> Hp -> VK -> Prop := fun xs H Q => ∃ i j, xs = [.int i, .int j] /\ Q (.int (if j > i then j else i)) H
theorem call_maxK (hc : X.calm = true) : CallR X (.builtin "max") rMax := call_max2 hc
theorem pi_listK (hl : PE X o to) (hK : X.K = K := by rfl) : PI X tg o (iList K to) := hK ▸ pi_list hl
theorem pg_lstK {es : List Expr} {k : Nat} {t : TGs} {n : Nat} (hc : X.calm = true) (h : PGs X es t) (hn : (assignEach es X.env).length = n := by rfl) (hst : (assignEach es X.env).findIdx? (·.1) = none := by rfl) (hK : X.K = K := by rfl) : PG X (.Tuple es k pos) (gLst K n t) := hK ▸ pg_lst hc h hn hst
theorem pg_tupK {es : List Expr} {k : Nat} {t : TGs} {n : Nat} (hc : X.calm = true) (h : PGs X es t) (hn : (assignEach es X.env).length = n := by rfl) (hst : (assignEach es X.env).findIdx? (·.1) = none := by rfl) (hK : X.K = K := by rfl) : PG X (.Tuple es k pos) (gTup K n t) := hK ▸ pg_tup hc h hn hst
theorem pe_fldK {f : Str} (he : PE X e ta) (hb : attributeBase e f X.env (eval e X.env) = eval e X.env) (hK : X.K = K := by rfl) : PE X (.Attribute e f pos) (tFld K ta f) := hK ▸ pe_fld he hb
theorem pe_bmK {T : String} {name : Str} {id : String} {r : V -> List V -> Hp -> VK -> Prop} {es : List Expr} {t : TA} {apos cpos : Pos} (pa : PlainAttrs T) (slot : Slot T name id) (hty : typeOf (.builtin id) = pure (.type "method_descriptor")) (hm : MtR X id r) (ho : PE X o to) (ha : PA X (e :: es) t)
  (hbase : attributeBase o name X.env (eval o X.env) = eval o X.env := by rfl)
  (hfew : ((backTo cpos (starEach (e :: es) X.env)).all (fun x => !x.1) && (backToKw cpos (keywordEach [] X.env)).all (fun x => x.1.isSome)
   && decide ((e :: es).length + ([] : List Keyword).length + (if ([] : List Keyword).isEmpty then 0 else 1) < 30)) = true := by rfl)
  (hline : (apos.endLine == cpos.line) = true := by rfl) (hs : starEach (e :: es) X.env = (false, eval e X.env) :: starEach es X.env := by rfl) (hplain : (backTo cpos (starEach es X.env)).any (·.1) = false := by rfl) (hK : X.K = K := by rfl) :
  PE X (.Call (.Attribute o name apos) (e :: es) [] cpos) (tBM K T r to t) := hK ▸ pe_bm pa slot hty hm ho ha hbase hfew hline hs hplain
end
section
variable {K : Fg_} {H : Hp} {Q : VK} {p : Addr} {x y : V}
theorem ap_noIf {σ : St} {QB : Bool -> Hp -> Prop} : tNoIf σ H QB = QB true H := rfl
theorem ap_rLen : rLen K [.ref p] H Q = ∃ ys, (SqL K H p ys \/ SqT K H p ys) /\ Q (.int (ys.length : Int)) H := by simp [rLen]
theorem ap_rSum : rSum K [.ref p] H Q = ∃ ns : List Int, SqL K H p (ns.map V.int) /\ Q (.int ns.sum) H := by simp [rSum]
theorem ap_rAll : rAll K [.ref p] H Q = ∃ bs : List Bool, SqL K H p (bs.map V.bl) /\ Q (.bl (bs.all id)) H := by simp [rAll]
theorem ap_rListOf : rListOf K [.ref p] H Q = ∃ ys, (SqL K H p ys \/ SqT K H p ys) /\ ∀ l, H l = none -> Q (.ref l) (upd H l (.lst ys)) := by simp [rListOf]
theorem ap_rIsT {n : String} : rIsT K [x, .ty n] H Q = ∃ t k, TyOf K H x t /\ PySem.W.kitOne K t (.type n) = some k /\ Q (.bl k) H := propext ⟨fun ⟨x', n', t, k, e, h⟩ => by
  injection e with e1 e2
  injection e2 with e2 _
  injection e2 with e2
  subst e1 e2
  exact ⟨t, k, h⟩, fun ⟨t, k, h⟩ => ⟨x, n, t, k, rfl, h⟩⟩
theorem ap_append : rAppend (.ref p) [y] H Q = ∃ xs, H p = some (.lst xs) /\ xs.length < sizeLine /\ Q .non (upd H p (.lst (xs ++ [y]))) := by simp [rAppend]
theorem ap_rCat {l b : Addr} : rCat (.ref l) (.ref b) H Q = ∃ xs zs, H l = some (.lst xs) /\ H b = some (.lst zs) /\ xs.length + zs.length <= sizeLine /\ ∀ p, H p = none -> Q (.ref p) (upd H p (.lst (xs ++ zs))) := by simp [rCat]
theorem ap_rMax {i j : Int} : rMax [.int i, .int j] H Q = Q (.int (if j > i then j else i)) H := propext ⟨fun ⟨i', j', e, h⟩ => by cases e; exact h, fun h => ⟨i, j, rfl, h⟩⟩
end
end L2
namespace L2
open PySem PySem.Spec PyProof.Rows
section
variable {K : Fg_} {a : Addr} {xs : List V} {g : TG} {tb : TS} {D : Ends} {σ : St} {H : Hp} {wi : TI} {cap : List (Option Nat)} {tt : TT} {te tl : TE} {Q : VK} {ta : TA} {R : It -> Hp -> Prop}
def ForP (J : It) (g : TG) (tb : TS) (D : Ends) (σ : St) (H1 : Hp) : Prop := ∃ W : Nat -> Nat -> St -> Hp -> Prop, (∃ m, W 0 m σ H1) /\ ∀ i m σ H, W i m σ H ->
 (J.stop i H /\ D.nx σ H) \/ (J.go i H /\ ∃ N : St -> Hp -> Prop, (∀ σ' H', N σ' H' -> ∃ m', m' < m /\ W (i + 1) m' σ' H') /\ ∀ x H', J.yld i H x H' -> g x σ H' fun σ2 H2 => tb { D with nx := N, ct := N, bk := D.nx } σ2 H2)
theorem ap_for : tFor wi g tb D σ H = wi σ H fun J H1 => ForP J g tb D σ H1 := rfl
theorem ForP.list (Pv : Nat -> St -> Hp -> Prop) (h0 : Pv 0 σ H) (hl : ∀ i σ H, i <= xs.length -> Pv i σ H -> SqL K H a xs)
  (hs : ∀ i x σ H, xs[i]? = some x -> Pv i σ H -> g x σ H fun σ2 H2 => tb { D with nx := Pv (i + 1), ct := Pv (i + 1), bk := D.nx } σ2 H2) (hd : ∀ σ H, Pv xs.length σ H -> D.nx σ H) : ForP (Itl K a) g tb D σ H := for_list Pv h0 hl hs hd
theorem ap_iList : iList K tl σ H R = tl σ H fun x H1 => ∃ a, x = .ref a /\ (∃ xs, SqL K H1 a xs) /\ R (Itl K a) H1 := rfl
def CompP (cap : List (Option Nat)) (J : It) (g : TG) (tt : TT) (te : TE) (σ : St) (H1 : Hp) (Q : VK) : Prop := ∀ D, H1 D = Option.none ->
 ∃ W : Nat -> Nat -> List V -> St -> Hp -> Prop, (∃ m, W 0 m [] (capSt σ cap) (upd H1 D (.lst []))) /\ ∀ i m acc σ1 H2, W i m acc σ1 H2 -> H2 D = some (.lst acc) ->
  (J.stop i H2 /\ Q (.ref D) H2) \/ (J.go i H2 /\ ∀ x H3, J.yld i H2 x H3 -> g x σ1 H3 fun σ4 H4 => tt σ4 H4 fun b H5 =>
   if b = true then te σ4 H5 fun v H6 => ∃ acc', H6 D = some (.lst acc') /\ acc'.length < sizeLine /\ ∃ m', m' < m /\ W (i + 1) m' (acc' ++ [v]) σ4 (upd H6 D (.lst (acc' ++ [v])))
   else ∃ m', m' < m /\ ∃ acc', H5 D = some (.lst acc') /\ W (i + 1) m' acc' σ4 H5)
theorem ap_comp : tComp cap wi g tt te σ H Q = wi σ H fun J H1 => CompP cap J g tt te σ H1 Q := rfl
theorem CompP.list (Sσ : St -> Prop) (p : V -> Bool) (F : V -> V) (hS : SqL K H a xs) (h0 : Sσ (capSt σ cap)) (hz : xs.length <= sizeLine)
  (hs : ∀ x ∈ xs, ∀ (σ : St) (H5 : Hp) (R1 : St -> VK) (R2 : St -> Hp -> Prop), Sσ σ -> Same H H5 -> (p x = true -> ∀ σ4 H6, Sσ σ4 -> Same H5 H6 -> R1 σ4 (F x) H6) -> (p x = false -> ∀ σ4 H6, Sσ σ4 -> Same H5 H6 -> R2 σ4 H6) ->
   g x σ H5 fun σ4 H4 => tt σ4 H4 fun b H5 => if b = true then te σ4 H5 (R1 σ4) else R2 σ4 H5)
  (k : ∀ D H', H D = Option.none -> Same H H' -> H' D = some (.lst ((xs.filter p).map F)) -> Q (.ref D) H') : CompP cap (Itl K a) g tt te σ H Q :=
 fun D hD => comp_list Sσ p F hS hD h0 hz hs fun H' s e => k D H' hD s e
theorem cut_none (xs : List V) (n : Nat) : cutV xs none (some (n : Int)) = xs.take n := by
 unfold cutV
 rw [HT.sIx_none, HT.sIx_nat, List.drop_zero, Nat.sub_zero]
 rcases Nat.le_total n xs.length with h | h
 ·rw [Nat.min_eq_left h]
 ·rw [Nat.min_eq_right h, List.take_of_length_le h, List.take_of_length_le (Nat.le_refl _)]
end
end L2
namespace L2
open PySem PySem.Spec PyProof.Rows
structure LeE (D D' : Ends) : Prop where
 nx : ∀ σ H, D.nx σ H -> D'.nx σ H
 rt : ∀ v H, D.rt v H -> D'.rt v H
 bk : ∀ σ H, D.bk σ H -> D'.bk σ H
 ct : ∀ σ H, D.ct σ H -> D'.ct σ H
end L2
namespace L2
open PySem PySem.Spec PyProof.Rows
section
variable {X : Cx} {pins : List (Addr × Obj)} {σ : St} {H : Hp} {s : Shared} {h' : Heap}
theorem Inv.turnedN {t' : Nat} {fp : List Addr} (I : Inv X pins σ H s) (hf : ∀ b ∈ fp, FpOk X pins H b) (k : ∀ b o, b ∉ fp -> s.heap.get? b = some o -> h'.get? b = some o) : Inv X pins σ H { s with heap := h', toks := t' } := by
 have nit : ∀ b u, H b = some u -> b ∉ fp := fun b u e z => by rw [(hf b z).1] at e; cases e
 refine I.step (g' := s.gens) (d' := s.drawn) (ch := fp) (fun b hb => ⟨(hf b hb).2.2.2.1, (hf b hb).2.1, (hf b hb).2.2.2.2.1, (hf b hb).2.2.2.2.2⟩) (fun b o _ _ hc e _ => k b o hc e) (fun b o _ _ hc e _ => ⟨o.slots, k b o hc e⟩) (fun _ _ _ _ n => n)
  (fun b o hc e => ⟨o, k b o hc e⟩) (fun _ _ e => e) (fun _ _ _ e => e) (fun b ps e => ⟨#[], by rw [e]; simp⟩) (fun m hm => ?_) (fun b u e => ?_) I.bare
 ·obtain ⟨o, es, ep, ho, r⟩ := hm
  exact ⟨o, es, ep, k _ o (fun z => (hf _ z).2.1 rfl) ho, r⟩
 ·refine (I.hok b u e).stay (fun c v hc q => k c v ?_ q) (fun _ q => q) fun _ _ q => q
  rcases hc with z | z
  ·rw [z]; exact nit b u e
  ·exact nit c _ z
end
end L2
namespace L2
open PySem PySem.Spec PyProof.Rows
def DK (h h' : Heap) : Prop := ∀ b o, h.get? b = some o -> ∃ o', h'.get? b = some o' /\ o'.dict = o.dict
theorem DK.refl {h : Heap} : DK h h := fun b o e => ⟨o, e, rfl⟩
theorem DK.trans {h h1 h2 : Heap} (a : DK h h1) (b : DK h1 h2) : DK h h2 := fun c o e => by
 obtain ⟨o1, e1, d1⟩ := a c o e
 obtain ⟨o2, e2, d2⟩ := b c o1 e1
 exact ⟨o2, e2, d2.trans d1⟩
structure KD {α : Type} (t : Sem α) : Prop where
 out : ∀ (M : Model) (Γ : PySem.Ctx) (P : α -> Pos -> Shared -> Prop) (E : Value -> Pos -> Shared -> Prop) (p : Pos) (s : Shared), Sem.wp M Γ t P E p s -> Sem.wp M Γ t (fun a p' s' => P a p' s' /\ DK s.heap s'.heap) E p s
theorem KD.bind {α β : Type} {m : Sem α} {f : α -> Sem β} (h : KD m) (k : ∀ a, KD (f a)) : KD (m >>= f) := ⟨fun M Γ P E p s hw => by
 have hw : Sem.wp M Γ (m.bind f) P E p s := hw
 show Sem.wp M Γ (m.bind f) _ E p s
 rw [Sem.wp_bind] at hw ⊢
 refine Sem.wp_mono M Γ m (fun a p1 s1 h1 => ?_) (fun _ _ _ z => z) p s (h.out M Γ _ E p s hw)
 exact Sem.wp_mono M Γ (f a) (fun b p2 s2 h2 => ⟨h2.1, h1.2.trans h2.2⟩) (fun _ _ _ z => z) p1 s1 ((k a).out M Γ P E p1 s1 h1.1)⟩
theorem KD.pure {α : Type} (a : α) : KD (Pure.pure a : Sem α) := ⟨fun M Γ P E p s h => ⟨h, DK.refl⟩⟩
theorem KD.uns {α : Type} (w : String) : KD (unsupported w : Sem α) := ⟨fun M Γ P E p s h => h⟩
theorem KD.load (a : Addr) : KD (load a) := ⟨fun M Γ P E p s ⟨o, e, h⟩ => ⟨o, e, h, DK.refl⟩⟩
theorem KD.stack : KD PySem.stack := ⟨fun M Γ P E p s h => ⟨h, DK.refl⟩⟩
theorem KD.alloc (o : Obj) : KD (alloc o) := ⟨fun M Γ P E p s h => ⟨h, fun b o' e => ⟨o', Heap.get?_push_of_some o e, rfl⟩⟩⟩
theorem get_nf {h : Heap} {a : Addr} {o : Obj} (e : h.get? a = some o) : o.isFreed = false := by
 unfold Heap.get? at e
 split at e
 ·cases e
 ·rename_i hn
  obtain ⟨c, dd, da, sl⟩ := o
  cases da <;> first | rfl | exact (hn _ _ _ e).elim
theorem KD.update (a : Addr) (f : Obj -> Obj) (hf : ∀ o, o.isFreed = false -> (f o).isFreed = false /\ (f o).dict = o.dict) : KD (update a f) := ⟨fun M Γ P E p s ⟨e, h⟩ => ⟨e, h, fun b o eb => by
 by_cases hb : b = a
 ·subst hb
  obtain ⟨f1, f2⟩ := hf o (get_nf eb)
  exact ⟨f o, Heap.get?_update_self f eb f1, f2⟩
 ·exact ⟨o, Heap.get?_update_of_ne f (Ne.symm hb) eb, rfl⟩⟩⟩
theorem wpAny_kd {α : Type} {M : Model} {A : Around} {t : Sem α} {Q : α -> Shared -> Prop} {E : Value -> Shared -> Prop} {s : Shared} (k : KD t) (h : wpAny M A t Q E s) : wpAny M A t (fun a s' => Q a s' /\ DK s.heap s'.heap) E s := fun Γ p hA => k.out M Γ _ _ p s (h Γ p hA)
theorem KD.fieldsOf (v : Value) : KD (fieldsOf v) := by
 unfold PySem.fieldsOf
 split
 ·refine (KD.load _).bind fun o => ?_
  split
  ·exact .pure _
  ·exact .uns _
 ·exact .uns _
theorem KD.field (v : Value) (i : Nat) : KD (field v i) := by
 unfold PySem.field
 refine (KD.fieldsOf v).bind fun o => ?_
 split
 ·exact .pure _
 ·exact .uns _
theorem KD.updateField (a : Addr) (i : Nat) (v : Value) : KD (updateField a i v) := by
 unfold PySem.updateField
 refine (KD.load _).bind fun o => ?_
 split
 ·split
  ·refine KD.update _ _ fun o h => ?_
   unfold Obj.mapFields
   split
   ·exact ⟨rfl, rfl⟩
   ·exact ⟨h, rfl⟩
  ·exact .uns _
 ·exact .uns _
theorem KD.setField (v : Value) (i : Nat) (x : Value) : KD (setField v i x) := by
 unfold PySem.setField
 split
 ·exact KD.updateField _ _ _
 ·exact .uns _
theorem KD.setFlight (e : Value) (f : Option Addr) : KD (setFlight e f) := by
 unfold PySem.setFlight
 refine (KD.field _ _).bind fun tb => ?_
 split
 ·exact KD.setField _ _ _
 ·exact .pure _
theorem KD.readyFrames : ∀ l, KD (readyFrames l)
 | [] => by rw [readyFrames.eq_1]; exact .pure _
 | env :: l => by
  rw [readyFrames.eq_2]
  split
  ·refine (KD.load _).bind fun o => ?_
   split
   ·exact .pure _
   ·refine KD.bind ?_ fun im => KD.bind ?_ fun bk => KD.bind (KD.update _ _ fun o h => ⟨by obtain ⟨c, dd, da, sl⟩ := o; cases da <;> first | rfl | exact h, rfl⟩) fun _ => KD.readyFrames l
    ·unfold behindIsImport
     split
     ·exact .pure _
     ·split
      ·exact .pure _
      ·exact (KD.field _ _).bind fun _ => .pure _
    ·unfold keptBack
     split
     ·split
      ·exact .pure _
      ·refine KD.bind ?_ fun _ => .pure _
       unfold underTheClaimsCaller
       exact KD.stack.bind fun _ => .pure _
     ·exact .pure _
  ·exact .uns _
theorem KD.frameOf (env : Env) : KD (frameOf env) := by
 unfold PySem.frameOf
 refine KD.bind ?_ fun l => KD.bind ?_ fun f => ?_
 ·unfold frameEnvs
  exact KD.stack.bind fun _ => .pure _
 ·unfold frameObject
  split
  ·exact .pure _
  ·exact (KD.readyFrames _).bind fun _ => .pure _
 ·split
  ·exact .pure _
  ·exact .uns _
theorem KD.entryPlaceOf (f : Addr) (b : Bool) : KD (entryPlaceOf f b) := by
 unfold PySem.entryPlaceOf
 refine KD.stack.bind fun acts => ?_
 split <;> exact .pure _
theorem KD.newRec (ty : String) (vs : Array Value) : KD (newObj (.type ty) (.fields vs)) := by
 have h : KD (newObjAsIs (.type ty) (.fields vs)) := (KD.alloc _).bind fun _ => .pure _
 unfold newObj
 dsimp only
 split
 ·exact KD.bind (.uns _) fun _ => h
 ·exact h
theorem KD.newEntry (a b c d e : Value) (l : List Value) : KD (EntryCells.newEntry a b c d e l) := by
 unfold EntryCells.newEntry newFields
 exact KD.newRec _ _
theorem KD.noteFrame (e : Value) (env : Env) : KD (noteFrame e env) := by
 unfold PySem.noteFrame
 split
 ·refine (KD.field _ _).bind fun head => ?_
  have jp : ∀ f, KD (do
   let a <- PySem.frameOf env
   let pl <- PySem.entryPlaceOf f (head != Value.none)
   let b <- EntryCells.newEntry head a Value.none (rawInt f) Value.none pl
   PySem.setField e 1 b) := fun f => (KD.frameOf env).bind fun _ => (KD.entryPlaceOf _ _).bind fun _ => (KD.newEntry _ _ _ _ _ _).bind fun _ => KD.setField _ _ _
  dsimp only
  split
  ·refine (KD.field _ _).bind fun x => ?_
   split
   ·exact .pure _
   ·exact (KD.setField _ _ _).bind fun _ => jp _
  ·exact jp _
 ·exact .uns _
theorem KD.leaving (env : Env) (e : Value) : KD (leaving env e) := by
 unfold PySem.leaving
 exact (KD.noteFrame _ _).bind fun _ => KD.setFlight _ _
def DictIs (h : Heap) (e : Addr) (dd : Option Addr) : Prop := ∃ o, h.get? e = some o /\ o.dict = dd
theorem DictIs.dk {h h' : Heap} {e : Addr} {dd : Option Addr} (x : DictIs h e dd) (k : DK h h') : DictIs h' e dd := by
 obtain ⟨o, e1, e2⟩ := x
 obtain ⟨o', e3, e4⟩ := k e o e1
 exact ⟨o', e3, e4.trans e2⟩
end L2
namespace L2
open PySem PySem.Spec PyProof.Rows
theorem ObjOk.there {P : Program} {w : World} {H : Hp} {h : Heap} {a : Addr} {o : HO} (x : ObjOk P w H h a o) : ∃ u, h.get? a = some u := by
 induction o with
 | lst xs => obtain ⟨z, its, n, r, e⟩ := x; exact ⟨_, e⟩
 | tup xs => obtain ⟨z, its, r, ob, e, c⟩ := x; exact ⟨_, e⟩
 | dK kvs => obtain ⟨z, y, vs, r, ob, es, ep, e, c⟩ := x; exact ⟨_, e⟩
 | dT kvs => obtain ⟨z, y, xs, r, ob, es, ep, e, c⟩ := x; exact ⟨_, e⟩
 | set S n => obtain ⟨ob, es, ep, t, e, c⟩ := x; exact ⟨_, e⟩
 | ins C dx fs => obtain ⟨d, z, ne, e, mA, _⟩ := x; exact ⟨_, e⟩
 | own y => exact x
 | xd fs => obtain ⟨mA, ⟨od, es, ep, e, c⟩, r⟩ := x; exact ⟨_, e⟩
 | rng lo hi => obtain ⟨t, u, v, e⟩ := x; exact ⟨_, e⟩
 | frz ob u ih => obtain ⟨e, q⟩ := x; exact ⟨_, e⟩
 | tbl ps => exact ⟨_, (show h.get? a = some _ from x)⟩
 | met f y => exact ⟨_, (show h.get? a = some _ from x)⟩
 | ext φ => obtain ⟨p, e, st⟩ := x; exact e
theorem Inv.untracked {X : Cx} {pins : List (Addr × Obj)} {σ : St} {H : Hp} {s : Shared} {a : Addr} (I : Inv X pins σ H s) (e : s.heap.get? a = none) : H a = none := by
 cases q : H a with
 | none => rfl
 | some o =>
  obtain ⟨u, z⟩ := (I.hok a o q).there
  rw [e] at z; cases z
def CX1 (P : Program) (w : World) : CXT := fun outer H s E e s' => ∃ (ea C : Addr) (a0 : Value) (H' : Hp) (B : Heap) (dd : Option Addr), e = .ref ea /\ s'.os = s.os /\ AllBare s'.gens /\ Un (frs outer) [] H H' s.heap s'.heap /\ HOk P w H' B /\
 Heap.FlyingW B outer ea (.ref C) a0 s'.heap /\ (∀ b o, s.heap.get? b = some o -> H b = none -> b ∉ frs outer -> B.get? b = some o) /\ (∀ b o, s.heap.get? b = some o -> b ∉ frs outer -> ∃ o', B.get? b = some o') /\ H' ea = none /\ DictIs s'.heap ea dd /\ E (.ref C) dd H'
theorem pass1 {P : Program} {w : World} {X : Cx} : Passes (CX1 P w) X E0 := fun _ _ _ _ _ _ _ ⟨_, _, _, _, _, _, _, _, _, _, _, _, _, _, _, _, h⟩ => h.elim
section
variable {P : Program} {w : World} {K : Fg_} {mg : Str -> Option Value} {base : Heap} {N : List Str} {qual : Str} {scope : Scope} {f : Addr} {cd : Value} {A : Around} {outer : List Env} {s₀ : Shared} {H₀ : Hp} {E : XK}
def Raises (X : Cx) (E : XK) : Prop := ∀ (pins : List (Addr × Obj)) (σ : St) (H : Hp) (s : Shared) (e C : Addr) (args : List Value) (h' : Heap), Inv X pins σ H s -> Heap.MadeExcOf s.heap h' e (.ref C) args -> E (.ref C) none H -> X.xe (.ref e) { s with heap := h' }
theorem raise_core {pins : List (Addr × Obj)} {σ : St} {H : Hp} {s : Shared} {e C : Addr} {oe : Obj} {vs : Array Value} {a0 : Value} (I : Inv (cxOf (CX1 P w) P w K mg base N qual scope f cd A outer s₀ H₀ E) pins σ H s) (he : s.heap.get? e = some oe) (hcl : oe.cls = .ref C) (hda : oe.data = .fields vs) (h1 : vs[1]? = some .none) (h0 : vs[0]? = some a0)
  (hH : H e = none) (hs0 : s₀.heap.get? e = none) (hE : E (.ref C) oe.dict H) : (cxOf (CX1 P w) P w K mg base N qual scope f cd A outer s₀ H₀ E).xe (.ref e) s := by
 have hstk : (cxOf (CX1 P w) P w K mg base N qual scope f cd A outer s₀ H₀ E).stack = envOfC qual scope s₀.heap.objs.size f cd :: outer := rfl
 have fr := I.ok.frames
 have nfr : ∀ b o, s₀.heap.get? b = some o -> b ∉ frs outer -> b ∉ frs (envOfC qual scope s₀.heap.objs.size f cd :: outer) := fun b o q n hb => by
  rcases List.mem_cons.mp (I.stkSub b hb) with z | z
  ·exact absurd (Heap.lt_size q) (by rw [z]; exact Nat.lt_irrefl _)
  ·exact n z
 have hin : ∀ env ∈ (envOfC qual scope s₀.heap.objs.size f cd :: outer), ∀ b, env.frame = some b -> b ∈ e :: frs (envOfC qual scope s₀.heap.objs.size f cd :: outer) := fun env he b hb => List.mem_cons_of_mem _ (List.mem_filterMap.mpr ⟨env, he, hb⟩)
 have stk : s.heap.FunFrames (PySem.W.hideAll s.heap (e :: frs (envOfC qual scope s₀.heap.objs.size f cd :: outer))) (envOfC qual scope s₀.heap.objs.size f cd :: outer) := PySem.W.funFrames_hide I.stack hin
 have hB : ∀ b o, s.heap.get? b = some o -> b ≠ e -> b ∉ frs (envOfC qual scope s₀.heap.objs.size f cd :: outer) -> (PySem.W.hideAll s.heap (e :: frs (envOfC qual scope s₀.heap.objs.size f cd :: outer))).get? b = some o := fun b o q ne n => PySem.W.hideAll_get _ q fun z => (List.mem_cons.mp z).elim ne n
 have hBe : (PySem.W.hideAll s.heap (e :: frs (envOfC qual scope s₀.heap.objs.size f cd :: outer))).get? e = none := PySem.W.hideAll_none _ List.mem_cons_self
 refine wpAny_mono (wpAny_kd (KD.leaving _ _) (wpAny_leaving_firstW (base := PySem.W.hideAll s.heap (e :: frs (envOfC qual scope s₀.heap.objs.size f cd :: outer))) (Q := fun _ s2 => ∃ h2, s2 = { s with heap := h2 } /\ Heap.LeftW (PySem.W.hideAll s.heap (e :: frs (envOfC qual scope s₀.heap.objs.size f cd :: outer))) (envOfC qual scope s₀.heap.objs.size f cd :: outer) e oe.cls a0 s.heap h2) fr stk rfl he (fun b o q => PySem.W.of_hideAll _ q) hBe hda h1 h0 fun h2 lw => ⟨h2, rfl, lw⟩)) (fun _ s2 z => ?_) (fun _ _ z => z)
 obtain ⟨⟨h2, rfl, st, ff, tr, ups⟩, dk⟩ := z
 rw [hcl] at tr
 have ne0 : ∀ b o, s₀.heap.get? b = some o -> b ≠ e := fun b o q z => by rw [z, hs0] at q; cases q
 have k1 : ∀ b o, s₀.heap.get? b = some o -> H₀ b = none -> b ∉ frs outer -> (PySem.W.hideAll s.heap (e :: frs (envOfC qual scope s₀.heap.objs.size f cd :: outer))).get? b = some o := fun b o q n hb => hB b o (I.base.keep b o q n hb (by simp [cxOf])) (ne0 b o q) (nfr b o q hb)
 have k2 : ∀ b o, s₀.heap.get? b = some o -> b ∉ frs outer -> ∃ o', (PySem.W.hideAll s.heap (e :: frs (envOfC qual scope s₀.heap.objs.size f cd :: outer))).get? b = some o' := fun b o q hb => by
  obtain ⟨o', q'⟩ := I.base.there b o q (by simp [cxOf])
  exact ⟨o', hB b o' q' (ne0 b o q) (nfr b o q hb)⟩
 have k3 : ∀ b o, s₀.heap.get? b = some o -> b ∈ frs outer -> ∃ o1, s.heap.get? b = some o1 /\ (H₀ b = none -> ∃ sl, o1 = { o with slots := sl }) /\ ∃ sl, h2.get? b = some { o1 with slots := sl } := fun b o q hb => by
  obtain ⟨o1, q1⟩ := I.base.there b o q (by simp [cxOf])
  have hm : b ∈ frs (envOfC qual scope s₀.heap.objs.size f cd :: outer) := by
   obtain ⟨env, he, hf⟩ := List.mem_filterMap.mp hb
   exact List.mem_filterMap.mpr ⟨env, List.mem_cons_of_mem _ he, hf⟩
  obtain ⟨_, o2, q2, nd⟩ := stk.mem hm
  rw [q1] at q2; cases q2
  refine ⟨o1, q1, fun n => ?_, ups b o1 q1 nd⟩
  obtain ⟨sl, q3⟩ := I.base.slot b o q n hb (by simp [cxOf])
  rw [q1] at q3
  exact ⟨sl, Option.some.inj q3⟩
 have fo : h2.FunFrames (PySem.W.hideAll s.heap (e :: frs (envOfC qual scope s₀.heap.objs.size f cd :: outer))) outer := ff.2.2
 refine ⟨e, C, a0, H, _, oe.dict, rfl, I.os, I.bare, ⟨fun b o q n hb _ => st b o (k1 b o q n hb), fun b o q n hb _ => ?_, fun b o q n _ => I.base.free b o q n (by simp [cxOf]), fun b o q _ => ?_, I.base.tups, I.base.frzs, I.base.tbls⟩, fun a o q => ?_, ⟨st, hBe, fo, tr⟩, k1, k2, hH, DictIs.dk ⟨oe, he, rfl⟩ dk, hE⟩
 ·obtain ⟨o1, _, e1, sl, e2⟩ := k3 b o q hb
  obtain ⟨sl1, rfl⟩ := e1 n
  exact ⟨sl, e2⟩
 ·by_cases hb : b ∈ frs outer
  ·obtain ⟨o1, _, _, sl, e2⟩ := k3 b o q hb
   exact ⟨_, e2⟩
  ·obtain ⟨o', q'⟩ := k2 b o q hb
   exact ⟨o', st b o' q'⟩
 ·have nf : ∀ b u, H b = some u -> b ∉ frs (envOfC qual scope s₀.heap.objs.size f cd :: outer) := fun b u z hb => by
   have := I.stkFree b hb
   rw [this] at z; cases z
  have nn : ∀ b u, H b = some u -> b ≠ e := fun b u z hb => by rw [hb, hH] at z; cases z
  refine (I.hok a o q).stay (fun b u hb z => ?_) (fun _ z => z) fun _ _ z => z
  rcases hb with z1 | z1
  ·subst z1; exact hB b u z (nn b o q) (nf b o q)
  ·exact hB b u z (nn b _ z1) (nf b _ z1)
theorem raises_cx : Raises (cxOf (CX1 P w) P w K mg base N qual scope f cd A outer s₀ H₀ E) E := by
 intro pins σ H s e C args h' I hx hE
 obtain ⟨t, g1, g2, g3⟩ := hx.there
 have I' : Inv (cxOf (CX1 P w) P w K mg base N qual scope f cd A outer s₀ H₀ E) pins σ H { s with heap := h' } := I.kept (t' := s.toks) hx.keeps
 refine raise_core I' g1 rfl rfl rfl rfl (I.untracked hx.new) ?_ hE
 cases q : s₀.heap.get? e with
 | none => rfl
 | some o =>
  obtain ⟨o', q'⟩ := I.base.there e o q (by simp [cxOf])
  have := hx.new
  rw [q'] at this; cases this
theorem passes_cx : Passes (CX1 P w) (cxOf (CX1 P w) P w K mg base N qual scope f cd A outer s₀ H₀ E) E := by
 intro pins σ H s e s' I h
 obtain ⟨ea, C, a0, H', B, dd, rfl, os, bare, un, hok, fl, k1, k2, hn, hdd, hE⟩ := h
 have hstk : (cxOf (CX1 P w) P w K mg base N qual scope f cd A outer s₀ H₀ E).stack = envOfC qual scope s₀.heap.objs.size f cd :: outer := rfl
 rw [hstk] at un fl k1 k2
 have nfr : ∀ b o, s₀.heap.get? b = some o -> b ∉ frs outer -> b ∉ frs (envOfC qual scope s₀.heap.objs.size f cd :: outer) := fun b o q n hb => by
  rcases List.mem_cons.mp (I.stkSub b hb) with z | z
  ·exact absurd (Heap.lt_size q) (by rw [z]; exact Nat.lt_irrefl _)
  ·exact n z
 refine wpAny_mono (wpAny_kd (KD.leaving _ _) (wpAny_leaves_onW (Q := fun _ s2 => ∃ h2, s2 = { s' with heap := h2 } /\ Heap.FlyingW B outer ea (.ref C) a0 h2 /\ Heap.UpToSlots s'.heap h2) I.ok.frames rfl fl fun h2 fl2 ups => ⟨h2, rfl, fl2, ups⟩)) (fun _ s2 z => ?_) (fun _ _ z => z)
 obtain ⟨⟨h2, rfl, fl2, ups⟩, dk⟩ := z
 have st : ∀ b o, B.get? b = some o -> h2.get? b = some o := fl2.1
 have q1 : ∀ b o, s₀.heap.get? b = some o -> H₀ b = none -> b ∉ frs outer -> B.get? b = some o := fun b o q n hb => k1 b o (I.base.keep b o q n hb (by simp [cxOf])) (I.base.free b o q n (by simp [cxOf])) (nfr b o q hb)
 have q2 : ∀ b o, s₀.heap.get? b = some o -> b ∉ frs outer -> ∃ o', B.get? b = some o' := fun b o q hb => by
  obtain ⟨o', q'⟩ := I.base.there b o q (by simp [cxOf])
  exact k2 b o' q' (nfr b o q hb)
 have q3 : ∀ b o, s₀.heap.get? b = some o -> b ∈ frs outer -> ∃ o1, s'.heap.get? b = some o1 /\ (H₀ b = none -> ∃ sl, o1 = { o with slots := sl }) /\ ∃ sl, h2.get? b = some { o1 with slots := sl } := fun b o q hb => by
  have hm : b ∈ frs (envOfC qual scope s₀.heap.objs.size f cd :: outer) := by
   obtain ⟨env, he, hf⟩ := List.mem_filterMap.mp hb
   exact List.mem_filterMap.mpr ⟨env, List.mem_cons_of_mem _ he, hf⟩
  obtain ⟨_, o1, z1, nd⟩ := fl.2.2.1.mem hm
  refine ⟨o1, z1, fun n => ?_, ups b o1 z1 nd⟩
  obtain ⟨sl, y1⟩ := I.base.slot b o q n hb (by simp [cxOf])
  obtain ⟨sl2, y2⟩ := un.slot b _ y1 (I.base.free b o q n (by simp [cxOf])) hm (by simp)
  rw [z1] at y2
  exact ⟨sl2, Option.some.inj y2⟩
 refine ⟨ea, C, a0, H', B, dd, rfl, os.trans I.os, bare, ⟨fun b o q n hb _ => st b o (q1 b o q n hb), fun b o q n hb _ => ?_, fun b o q n _ => ?_, fun b o q _ => ?_, fun b xs z => un.tups b xs (I.base.tups b xs z), fun b o xs z => un.frzs b o xs (I.base.frzs b o xs z), fun b ps z => ?_⟩, hok, fl2, q1, q2, hn, hdd.dk dk, hE⟩
 ·obtain ⟨o1, _, e1, sl, e2⟩ := q3 b o q hb
  obtain ⟨sl1, rfl⟩ := e1 n
  exact ⟨sl, e2⟩
 ·obtain ⟨o', q'⟩ := I.base.there b o q (by simp [cxOf])
  exact un.free b o' q' (I.base.free b o q n (by simp [cxOf])) (by simp)
 ·by_cases hb : b ∈ frs outer
  ·obtain ⟨o1, _, _, sl, e2⟩ := q3 b o q hb
   exact ⟨_, e2⟩
  ·obtain ⟨o', q'⟩ := q2 b o q hb
   exact ⟨o', st b o' q'⟩
 ·obtain ⟨m1, e1⟩ := I.base.tbls b ps z
  obtain ⟨m2, e2⟩ := un.tbls b _ e1
  exact ⟨m1 ++ m2, by rw [e2, Array.append_assoc]⟩
end
end L2
namespace L2
open PySem PySem.Spec PyProof.Rows
structure XCls (K : Fg_) (C : Addr) : Prop where
 ex : PySem.W.excIn K C [.type "ValueError", .type "Exception", .type "BaseException", .type "object"] "ValueError.__new__" = true
theorem XCls.obj {K : Fg_} {C : Addr} {h : Heap} (c : XCls K C) (X : K.In h) : ∃ bm N nm qn bs hdc sn sub ab col dd k0 k1 k2 k3 k5 mN, h.get? C = some (excClassObj nm qn C N bs bm hdc sn sub ab col dd k0 k1 k2 k3 k5 "ValueError.__new__") /\ h.Ns N mN /\ mN "__init__" = none /\
  OwnTail h [.type "ValueError", .type "Exception", .type "BaseException", .type "object"] bm := by
 have z := c.ex
 unfold PySem.W.excIn at z
 split at z
 ·rename_i dd cd sl hlook
  split at z
  ·rename_i C2 tl k0 k1 k2 k3 nn k5 hmro hsl
   simp only [Bool.and_eq_true, beq_iff_eq, Bool.not_eq_true'] at z
   obtain ⟨⟨⟨⟨⟨e1, e2⟩, e3⟩, e4⟩, e5⟩, e6⟩ := z
   subst e1 e2
   obtain ⟨nm, bs, mro, ns, qn, hdc, sn, sub, ab, col, del⟩ := cd
   dsimp only at hmro e3 e5 e6
   subst hmro e3
   obtain ⟨lst⟩ := sl
   dsimp only at hsl
   subst hsl
   exact ⟨tl, ns, nm, qn, bs, hdc, sn, sub, ab, col, dd, k0, k1, k2, k3, k5, _, X _ _ hlook, .of_isNs (PySem.W.isNs_of_in X e5), PySem.W.nsMap_none_of_in X e5 e6, PySem.W.tail_of_in X e4⟩
  ·cases z
 ·cases z
def tRaise (C : Addr) (E : XK) (t : TA) : TS := fun _ σ H => t σ H fun vs H1 => vs.length <= sizeLine /\ E (.ref C) none H1
section
variable {X : Cx} {x : Str} {C : Addr} {E : XK} {e : Expr} {es : List Expr} {t : TA} {np cpos pos : Pos}
theorem ps_raise (hr : Raises X E) (hc : X.calm = true) (c : XCls X.K C) (hg : Gl X x) (hm : X.mg x = some (.ref C)) (ha : PA X (e :: es) t) (hd : (x == ("__debug__" : Str)) = false := by decide)
  (he : starEach (e :: es) X.env = (false, eval e X.env) :: starEach es X.env := by rfl) (hpl : (backTo cpos (starEach es X.env)).any (·.1) = false := by rfl) :
  PS X (.Raise (some (.Call (.Name x np) (e :: es) [] cpos)) none pos) (tRaise C E t) := by
 intro pins s σ H D I h
 obtain ⟨bm, N, nm, qn, bs, hdc, sn, sub, ab, col, dd, k0, k1, k2, k3, k5, mN, g1, g2, g3, g4⟩ := c.obj I.ok.mod.kin
 refine wpAny_Raise_call_subT (C := C) (nm := nm) (q := qn) (N := N) (bs := bs) (bm := bm) (hdct := hdc) (sn := sn) (sub := sub) (ab := ab) (col := col) (dd := dd) (k0 := k0) (k1 := k1) (k2 := k2) (k3 := k3) (k5 := k5)
  PySem.F.excBase_ValueError (mN := mN) (g4.hasType PySem.F.excBase_ValueError.hasBase) (I.ok.hd hc) (by rw [he]; show (false || (backTo cpos (starEach es X.env)).any (·.1)) = false; rw [hpl]; rfl) g3 (ld_glob I hg hm ⟨rfl, ?_⟩ hd)
 have ha' := ha cpos pins s σ H _ I h
 rw [he] at ha' ⊢
 refine Calls.evalArgs_plain (thn ha' fun us s2 ⟨vs, H2, I2, rv, hz, hE⟩ => ⟨rfl, by show us.length <= sizeLine; rw [<- rv.length]; exact hz, I2.bk _ _ g1, g2.keeps I2.bk, g4.keeps I2.bk, fun h' ea made => ?_⟩)
 exact hr pins σ H2 s2 ea C us h' I2 made hE
theorem Fun.okX {P : Program} {w : World} {K : Fg_} {mg : Str -> Option Value} {base : Heap} {x qual : Str} {st : Stmt} {f : Addr} {fd : FuncData} {N ps : List Str} {k : Nat} {sp : Sp} (F : Fun K x qual st f fd) (S : FnScope N ps (defScope st)) (len : ∀ vs H Q E, sp vs H Q E -> vs.length = ps.length)
  (hbody : ∀ (cdv : Value) (A : Around) (outer : List Env) (s : Shared) (H : Hp) (vs : List V) (Q : VK) (E : XK), Room k (A.deeper (envOfC qual (defScope st) s.heap.objs.size f cdv)) -> sp vs H Q E ->
   ∃ t, PSs (cxOf (CX1 P w) P w K mg base N qual (defScope st) f cdv A outer s H E) (defBody st) t /\ t { nx := fun _ H' => Q .non H', rt := Q } (start N vs) H) : FnOk P w K mg base (CX1 P w) (k + 1) f fd ps sp := by
 obtain ⟨oc, od, kV, doc, pm, an, cdv, ct, osl, rfl, lk, hcd⟩ := F.ex
 exact fn_of lk hcd S len fun A outer s H vs Q E hr hsp => hbody cdv A outer s H vs Q E hr hsp
end
end L2
namespace L2
open PySem PySem.Spec PyProof.Rows
section
variable {prog : Program} {w : World} {A : Around} {E : Value -> Shared -> Prop} {h : Heap} {g : Array GenState} {d : Drawn} {t : Nat} {os : OsState} {a : Addr} {o : Obj}
 {nm q : Str} {C N : Addr} {bs bm : List Value} {hdct : Bool} {sn : List Str} {sub : List Value} {ab : Bool} {col : Option Bool} {dd : Option Addr} {k0 k1 k2 k3 k5 : Option Value} {newId : String} {K : Fg_}
theorem xc_get {R : Result -> Shared -> Prop} (hC : h.get? C = some (excClassObj nm q C N bs bm hdct sn sub ab col dd k0 k1 k2 k3 k5 newId)) (hob : bm.contains (.type "object") = true)
  (hx : h.get? a = some o) (hc : o.cls = .ref C) (hq : R (.ok (.ret (.ref C))) ⟨h, g, d, t, os⟩) :
  codeAny (model prog w) A (.call (.builtin "getset_descriptor.__get__") ⟨[.builtin "object.__class__", .ref a, .ref C], []⟩) R ⟨h, g, d, t, os⟩ := by
 have hT5 : (⟨h, g, d, t, os⟩ : Shared).TypeIs (.builtin "object.__class__") "getset_descriptor" := F.typeOf_object_class
 have hcB : (Value.ref C :: bm).contains (.type (".".intercalate ("object.__class__".cutAt '.').dropLast)) = true := by
  rw [show (".".intercalate ("object.__class__".cutAt '.').dropLast) = "object" by decide +kernel, List.contains_cons, hob, Bool.or_true]
 refine codeAny_call_builtin F.slot_gs_get.plain F.entry_gs_get (F.slot_gs_get.check _ _ _ _ _ _ _ _ hT5 (F.args_gs_get _ _ _) ?_)
 repeat (any_goals (first | assumption | (with_reducible refine wpAny_loadPart_at hx ?_; rw [hc]) | (with_reducible refine wpAny_isSubtype_exc hC ?_; rw [hcB]) | wp_step))
 refine ⟨Code.quiet_builtin _ (by decide +kernel), codeAny_builtin F.entry_object_class ?_⟩
 repeat (any_goals (first | assumption | (with_reducible refine wpAny_loadPart_at hx ?_; rw [hc]) | wp_step))
structure XAsk (K : Fg_) (C : Addr) : Prop where
 cl : PySem.W.findIn K (.ref C) "__class__" = some (some (.builtin "object.__class__"))
 ga : PySem.W.findIn K (.ref C) "__getattribute__" = some (some (.builtin "BaseException.__getattribute__"))
 gh : PySem.W.findIn K (.ref C) "__getattr__" = some none
theorem xc_entry {tk : Tok} {Q : Fin -> Shared -> Prop} (KX : K.In h) (Z : XAsk K C) (hC : h.get? C = some (excClassObj nm q C N bs bm hdct sn sub ab col dd k0 k1 k2 k3 k5 newId)) (hob : bm.contains (.type "object") = true)
  (hx : h.get? a = some o) (hc : o.cls = .ref C) (hq : Q (.done (.ret (.ref C))) ⟨h, g, d, t, os⟩) :
  wpAny (model prog w) A (Builtin.«object.__getattribute__» ⟨[.ref a, .str "__class__" tk], []⟩) Q E ⟨h, g, d, t, os⟩ := by
 have hT5 : (⟨h, g, d, t, os⟩ : Shared).TypeIs (.builtin "object.__class__") "getset_descriptor" := F.typeOf_object_class
 have f5 := F.typeOf_object_class
 have f6 := F.slot_gs_get.lookup
 have f7 := F.slot_gs_set.lookup
 have LK := PySem.W.looks_findIn (M := model prog w) KX Z.cl
 repeat (any_goals (first | assumption | (with_reducible refine wpAny_loadPart_at hx ?_; rw [hc]) | with_reducible refine LK.at ?_ | wp_step))
 refine xc_get hC hob hx hc ?_
 repeat (any_goals (first | assumption | wp_step))
theorem xc_call {tk : Tok} {R : Result -> Shared -> Prop} (KX : K.In h) (Z : XAsk K C) (hC : h.get? C = some (excClassObj nm q C N bs bm hdct sn sub ab col dd k0 k1 k2 k3 k5 newId)) (hob : bm.contains (.type "object") = true) (hbe : bm.contains (.type "BaseException") = true)
  (hx : h.get? a = some o) (hc : o.cls = .ref C) (hq : R (.ok (.ret (.ref C))) ⟨h, g, d, t, os⟩) :
  codeAny (model prog w) A (.call (.builtin "BaseException.__getattribute__") ⟨[.ref a, .str "__class__" tk], []⟩) R ⟨h, g, d, t, os⟩ := by
 have hcB : (Value.ref C :: bm).contains (.type "BaseException") = true := by rw [List.contains_cons, hbe, Bool.or_true]
 have hk : builtinKind "BaseException.__getattribute__" = some .slot := by decide +kernel
 have hsplit : splitId "BaseException.__getattribute__" = some ("BaseException", "__getattribute__") := by decide +kernel
 have hargs := F.args_bexc_ga (.ref a) (.str "__class__" tk)
 have ck : ∀ {M : Model} {A' : Around} {E' : Value -> Shared -> Prop} {Q' : Unit -> Shared -> Prop}, Q' () ⟨h, g, d, t, os⟩ -> wpAny M A' (checkBuiltinCall "BaseException.__getattribute__" ⟨[.ref a, .str "__class__" tk], []⟩) Q' E' ⟨h, g, d, t, os⟩ := by
  intro M A' E' Q' hq'
  simp only [checkBuiltinCall, hk, hsplit]
  refine wpAny_bind ?_
  unfold isInstance
  repeat (first | (with_reducible refine wpAny_loadPart_at hx ?_; rw [hc]) | (with_reducible refine wpAny_isSubtype_exc hC ?_; rw [hcB]) | wp_step)
  exact hq'
 exact codeAny_call_builtin (by decide +kernel) F.entry_bexc_ga (ck (xc_entry KX Z hC hob hx hc hq))
theorem xc_by {tk : Tok} {Q : Value -> Shared -> Prop} (KX : K.In h) (Z : XAsk K C) (hC : h.get? C = some (excClassObj nm q C N bs bm hdct sn sub ab col dd k0 k1 k2 k3 k5 newId)) (hob : bm.contains (.type "object") = true) (hbe : bm.contains (.type "BaseException") = true)
  (hx : h.get? a = some o) (hc : o.cls = .ref C) (hq : Q (.ref C) ⟨h, g, d, t, os⟩) :
  wpAny (model prog w) A (getAttrBy (.ref a) (.str "__class__" tk) false) Q E ⟨h, g, d, t, os⟩ := by
 have f3 := PySem.F.excAttr_ValueError.ga.bind (.ref a)
 have hx0 : (false && onTheHeap (Value.builtin "BaseException.__getattribute__")) = false := rfl
 have hx2 : (Value.builtin "BaseException.__getattribute__" == Value.builtin "object.__getattribute__") = false := by decide +kernel
 have hx1 : (onTheHeap (Value.ref C) && Value.builtin "BaseException.__getattribute__" == Value.builtin "object.__getattribute__") = false := by rw [hx2]; rfl
 have L1 := PySem.W.looks_findIn (M := model prog w) KX Z.ga
 have L2 := PySem.W.looks_findIn (M := model prog w) KX Z.gh
 repeat (any_goals (first | assumption | (with_reducible refine wpAny_loadPart_at hx ?_; rw [hc]) | with_reducible refine L1.at ?_ | with_reducible refine L2.at ?_ | wp_step))
 refine xc_call KX Z hC hob hbe hx hc ?_
 repeat (any_goals (first | assumption | wp_step))
theorem xc_attr {Q : Option Value -> Shared -> Prop} (KX : K.In h) (Z : XAsk K C) (hC : h.get? C = some (excClassObj nm q C N bs bm hdct sn sub ab col dd k0 k1 k2 k3 k5 newId)) (hob : bm.contains (.type "object") = true) (hbe : bm.contains (.type "BaseException") = true)
  (hx : h.get? a = some o) (hc : o.cls = .ref C) (hq : Q (some (.ref C)) ⟨h, g, d, t + 1, os⟩) : wpAny (model prog w) A (getAttr? (.ref a) "__class__") Q E ⟨h, g, d, t, os⟩ := by
 unfold getAttr? getAttrBy?
 repeat (any_goals (first | assumption | with_reducible apply xc_by KX Z hC hob hbe hx hc | wp_step))
theorem kitx_exc {a C : Addr} (c : XCls K C) (Z : XAsk K C) : PySem.W.KitX K (.ref a) (.ref C) (fun h => ∃ o, h.get? a = some o /\ o.cls = .ref C) where
 ty := fun M h _ ⟨o, e1, e2⟩ => e2 ▸ (PySem.W.Looks.ld e1).andThen .now
 it := fun M h X _ => by
  obtain ⟨bm, N, nm, qn, bs, hdc, sn, sub, ab, col, dd, k0, k1, k2, k3, k5, mN, g1, _⟩ := c.obj X
  intro A' Q' E' s' k q
  unfold isType loadHead
  exact wpAny_bind (wpAny_loadPart (k _ _ g1) (wpAny_pure q))
 ne := fun h tp dd its n sl X htp => by
  obtain ⟨bm, N, nm, qn, bs, hdc, sn, sub, ab, col, dd, k0, k1, k2, k3, k5, mN, g1, _⟩ := c.obj X
  refine Bool.eq_false_iff.mpr fun z => ?_
  have e : C = tp := Value.ref.inj (beq_iff_eq.mp z)
  subst e
  rw [g1] at htp
  exact absurd (show Value.type "type" = Value.type "tuple" from congrArg Obj.cls (Option.some.inj htp)) (by simp)
 ca := fun {prog w A E Q s} X ⟨o, e1, e2⟩ k => by
  obtain ⟨bm, N, nm, qn, bs, hdc, sn, sub, ab, col, dd, k0, k1, k2, k3, k5, mN, g1, g2, g3, g4⟩ := c.obj X
  obtain ⟨h, g, d, t, os⟩ := s
  exact xc_attr X Z g1 (g4.hasType rfl) (g4.hasType rfl) e1 e2 k
end
end L2
namespace L2
open PySem PySem.Spec PyProof.Rows
abbrev TX := St -> Hp -> VK -> XK -> Prop
def PEx (X : Cx) (CX : CXT) (e : Expr) (t : TX) : Prop :=
 ∀ (pins : List (Addr × Obj)) (s : Shared) (σ : St) (H : Hp) (Q : VK) (E : XK), Inv X pins σ H s -> t σ H Q E -> wpAny (model X.prog X.w) X.A (eval e X.env) (EP X pins σ Q) (fun ev s' => ∃ H1 s1, Inv X pins σ H1 s1 /\ CX X.stack H1 s1 E ev s') s
def xCall (sp : Sp) (dvs : List V) (t : TA) : TX := fun σ H Q E => t σ H fun vs H1 => sp (vs ++ dvs) H1 Q E
section
variable {X : Cx} {CX : CXT} {k : Nat} {f C : Addr} {fd : FuncData} {ps : List Str} {sp : Sp} {dvs : List V} {ds : List Value} {x : Str} {p pos : Pos} {e : Expr} {es : List Expr} {t : TA}
theorem run_fnx {pins : List (Addr × Obj)} {σ : St} {H : Hp} {s : Shared} {Q : VK} {E : XK} {us : List Value} {vs : List V} (F : FnOk X.prog X.w X.K X.mg X.base CX k f fd ps sp) (hr : Room k X.A) (hb : Binds X.K fd ps ds) (hd : Vals dvs ds)
  (I : Inv X pins σ H s) (r : Vals vs us) (h : sp (vs ++ dvs) H Q E) : wpAny (model X.prog X.w) X.A (call (.ref f) us) (EP X pins σ Q) (fun ev s' => ∃ H1 s1, Inv X pins σ H1 s1 /\ CX X.stack H1 s1 E ev s') s := by
 have r2 : Vals (vs ++ dvs) (us ++ ds) := r.append hd
 have hl : (us ++ ds).length = ps.length := by rw [<- r2.length]; exact F.len _ _ _ _ h
 refine wpAny_call (codeAny_mono (F.run X.A X.stack s H ⟨us, []⟩ (us ++ ds) (vs ++ dvs) Q E hr I.env0 (hb s us I.kIn hl) r2 h) fun r s' hq => ?_)
 cases r with
 | error e => exact ⟨H, s, I, hq⟩
 | ok fl =>
  cases fl with
  | ret u => exact I.after hq
  | next => exact False.elim hq
  | brk => exact False.elim hq
  | cont => exact False.elim hq
theorem pex_call (F : FnOk X.prog X.w X.K X.mg X.base CX k f fd ps sp) (hr : Room k X.A) (hg : Gl X x) (hm : X.mg x = some (.ref f)) (hk : PySem.W.keepIn X.K (.ref f) = true) (hb : Binds X.K fd ps ds) (hd : Vals dvs ds)
  (ha : PA X.nox (e :: es) t) (hdb : (x == ("__debug__" : Str)) = false := by decide) (he : starEach (e :: es) X.env = (false, eval e X.env) :: starEach es X.env := by rfl) (hpl : (backTo pos (starEach es X.env)).any (·.1) = false := by rfl) :
  PEx X CX (.Call (.Name x p) (e :: es) [] pos) (xCall sp dvs t) := by
 intro pins s σ H Q E I h
 refine wpAny_Call_Name_kw (ld_glob I hg hm ?_ hdb)
 refine PySem.W.callWith_K (h₀ := X.base) I.ok.mod.kin hk (wpAny_mono (ha pos pins s σ H _ (I.wish _) h) (fun us s1 ⟨vs, H1, I1, r, q⟩ => ⟨I1.unwish.kIn, ?_⟩) fun _ _ z => False.elim z) he hpl
 exact run_fnx F hr hb hd I1.unwish r q
def excO (C ea : Addr) : HO := .ext fun h => ∃ o, h.get? ea = some o /\ o.cls = .ref C
abbrev Cx.inSuite (X : Cx) (ea : Addr) : Cx := { X with A := X.A.mark (some (.ref ea)), calm := false, xe := fun _ _ => False }
theorem Inv.inSuite {pins : List (Addr × Obj)} {σ : St} {H : Hp} {s : Shared} (I : Inv X pins σ H s) (ea : Addr) : Inv (X.inSuite ea) pins σ H s :=
 ⟨⟨I.ok.mod, I.ok.kind, I.ok.glob, I.ok.blt, I.ok.above, I.ok.inj, I.ok.has, I.ok.cab, fun z => (nomatch z), I.ok.frames, I.ok.stk, I.ok.exf, I.ok.bs, I.ok.bsz, I.ok.noex, I.ok.exfs, I.ok.funs, I.ok.frf⟩, I.os, I.bare, I.base, I.loc, I.cell, I.free, I.freeC, I.pin, I.hok, I.len⟩
theorem Inv.outSuite {pins : List (Addr × Obj)} {σ : St} {H : Hp} {s : Shared} {ea : Addr} (ok : X.Ok) (I : Inv (X.inSuite ea) pins σ H s) : Inv X pins σ H s :=
 ⟨ok, I.os, I.bare, I.base, I.loc, I.cell, I.free, I.freeC, I.pin, I.hok, I.len⟩
def tTry (te : TX) (C : Addr) (i : Nat) (ts : TS) : TS := fun D σ H => te σ H (fun _ H1 => D.nx σ H1) fun cls _ H1 => cls = .ref C /\ ∀ ea, H1 ea = none ->
 ts { nx := fun σ2 H2 => D.nx (σ2.set i none) H2, rt := D.rt, bk := fun σ2 H2 => D.bk (σ2.set i none) H2, ct := fun σ2 H2 => D.ct (σ2.set i none) H2 } (σ.set i (some (.ref ea))) (upd H1 ea (excO C ea))
theorem Inv.gone {pins : List (Addr × Obj)} {σ : St} {H : Hp} {s : Shared} {i : Nat} {n : Str} {Q : Unit -> Shared -> Prop} {M : Model} {A : Around} {E : Value -> Shared -> Prop} {hpos : Pos} (I : Inv X pins σ H s) (hN : X.N.Nodup) (hi : X.N[i]? = some n) (hk : X.env.kindOf n = some .local)
  (h : ∀ s', Inv X pins (σ.set i none) H s' -> Q () s') : wpAny M A (do bindName X.env n .none; unbindBehindTheSuite X.env n hpos) Q E s := by
 obtain ⟨m, hn, hl⟩ := id I.loc
 obtain ⟨oL, _, _, hoL, _⟩ := id hn
 refine wpAny_nameGoes_keeps hk hn (by rw [I.ok.kind]; rfl) fun h' v hn' hs => h _ ?_
 have iL : ∀ b o, X.s₀.heap.get? b = some o -> b ≠ X.env.locals := fun b o e => Nat.ne_of_lt (Nat.lt_of_lt_of_le (Heap.lt_size e) I.ok.above)
 refine ⟨I.ok, I.os, I.bare, ⟨fun b o e n hb hx => (hs.2 b (iL b o e)).trans (I.base.keep b o e n hb hx), fun b o e n hb hx => ?_, I.base.free, fun b o e hx => ?_, I.base.tups, I.base.frzs, I.base.tbls⟩, ⟨_, hn', fun j y v' e1 e2 e3 => ?_⟩, fun y c e => ?_, I.free, I.freeC, fun p hp => ?_, fun b ob e => ?_, by simpa using I.len⟩
 ·obtain ⟨sl, e1⟩ := I.base.slot b o e n hb hx
  exact ⟨sl, (hs.2 b (iL b o e)).trans e1⟩
 ·obtain ⟨o', e1⟩ := I.base.there b o e hx
  exact ⟨o', (hs.2 b (iL b o e)).trans e1⟩
 ·by_cases hj : j = i
  ·subst hj
   by_cases hz : j < σ.length
   ·rw [List.getElem?_set_self hz] at e2; cases e2
   ·rw [List.getElem?_eq_none (by simpa using hz)] at e2; cases e2
  ·rw [List.getElem?_set_ne (Ne.symm hj)] at e2
   obtain ⟨u', r', q⟩ := hl j y v' e1 e2 e3
   refine ⟨u', r', ?_⟩
   have ny : y ≠ n := fun e => hj (nodup_ix hN e1 (e ▸ hi))
   rcases q with ⟨k, e⟩ | ⟨k, c, e, z⟩
   ·exact .inl ⟨k, by show (if y = n then v else m y) = some u'; rw [if_neg ny]; exact e⟩
   ·exact .inr ⟨k, c, e, z.sameBut hs (I.cne y c e)⟩
 ·obtain ⟨w', z⟩ := I.cell y c e
  exact ⟨w', z.sameBut hs (I.cne y c e)⟩
 ·obtain ⟨e, n, ne, nf, d⟩ := I.pin p hp
  exact ⟨(hs.2 p.1 ne).trans e, n, ne, nf, d⟩
 ·refine (I.hok b ob e).stay (fun c w' hc q => (hs.2 c ?_).trans q) (fun _ q => q) fun _ _ q => q
  rintro rfl
  rcases hc with z | z
  ·rw [<- z, I.free] at e; cases e
  ·rw [I.free] at z; cases z
theorem Inv.landed {pins : List (Addr × Obj)} {σ : St} {H1 H' : Hp} {s1 s' : Shared} {ea C : Addr} {a0 : Value} {B h6 : Heap} (I : Inv X pins σ H1 s1) (os : s'.os = s1.os) (bare : AllBare s'.gens) (un : Un (frs X.stack) [] H1 H' s1.heap s'.heap) (hok : HOk X.prog X.w H' B)
  (fl : Heap.FlyingW B X.stack ea (.ref C) a0 s'.heap) (k1 : ∀ b o, s1.heap.get? b = some o -> H1 b = none -> b ∉ frs X.stack -> B.get? b = some o) (k2 : ∀ b o, s1.heap.get? b = some o -> b ∉ frs X.stack -> ∃ o', B.get? b = some o') (hn : H' ea = none)
  (fl6 : Heap.FlyingW B X.stack ea (.ref C) a0 h6) (ups : s'.heap.UpToSlots h6) : Inv X pins σ (upd H' ea (excO C ea)) { s' with heap := h6 } := by
 have st : ∀ b o, B.get? b = some o -> h6.get? b = some o := fl6.1
 have nea : ∀ b o, s1.heap.get? b = some o -> b ≠ ea := fun b o q z => by
  subst z
  by_cases hb : b ∈ frs X.stack
  ·obtain ⟨_, o2, q2, nd⟩ := fl6.2.2.1.mem hb
   obtain ⟨oe, vs, q3, _, dd, _⟩ := fl6.first
   rw [q2] at q3; cases q3
   exact nd vs dd
  ·obtain ⟨o', q'⟩ := k2 b o q hb
   rw [fl6.2.1] at q'; cases q'
 have q3 : ∀ b o, s1.heap.get? b = some o -> b ∈ frs X.stack -> ∃ o1, s'.heap.get? b = some o1 /\ (H1 b = none -> ∃ sl, o1 = { o with slots := sl }) /\ ∃ sl, h6.get? b = some { o1 with slots := sl } := fun b o q hb => by
  obtain ⟨_, o1, z1, nd⟩ := fl.2.2.1.mem hb
  refine ⟨o1, z1, fun n => ?_, ups b o1 z1 nd⟩
  obtain ⟨sl2, y2⟩ := un.slot b _ q n hb (by simp)
  rw [z1] at y2
  exact ⟨sl2, Option.some.inj y2⟩
 refine I.call' (ch := []) (s' := { s' with heap := h6 }) os ⟨fun b o q n hb _ => st b o (k1 b o q n hb), fun b o q n hb _ => ?_, fun b o q n _ => ?_, fun b o q _ => ?_, fun b xs z => ?_, fun b o xs z => ?_, fun b ps z => ?_⟩ (fun b u q => ?_) bare (fun b hb => absurd hb (by simp))
 ·obtain ⟨o1, _, e1, sl, e2⟩ := q3 b o q hb
  obtain ⟨sl1, rfl⟩ := e1 n
  exact ⟨sl, e2⟩
 ·rw [upd_ne (nea b o q)]
  exact un.free b o q n (by simp)
 ·by_cases hb : b ∈ frs X.stack
  ·obtain ⟨o1, _, _, sl, e2⟩ := q3 b o q hb
   exact ⟨_, e2⟩
  ·obtain ⟨o', q'⟩ := k2 b o q hb
   exact ⟨o', st b o' q'⟩
 ·have z' := un.tups b xs z
  rw [upd_ne (ne_of_none z' hn)]; exact z'
 ·have z' := un.frzs b o xs z
  rw [upd_ne (ne_of_none z' hn)]; exact z'
 ·obtain ⟨mo, z'⟩ := un.tbls b ps z
  exact ⟨mo, by rw [upd_ne (ne_of_none z' hn)]; exact z'⟩
 ·by_cases hb : b = ea
  ·subst hb
   rw [upd_same] at q; cases q
   obtain ⟨oe, vs, q3, cc, dd, _⟩ := fl6.first
   exact ⟨⟨oe, q3, cc⟩, ⟨oe, q3⟩, fun h1 h2 ⟨o, e1, e2⟩ k => ⟨o, k o e1, e2⟩⟩
  ·rw [upd_ne hb] at q
   exact (hok b u q).stay (fun c v _ z => st c v z) (fun c z => by rw [upd_ne (ne_of_none z hn)]; exact z) fun c xs z => by rw [upd_ne (ne_of_none z hn)]; exact z
theorem ps_try {te : TX} {i : Nat} {n : Str} {ts : TS} {b₀ : Stmt} {suite : List Stmt} {np epos hpos pos : Pos} (h : PEx X (CX1 X.prog X.w) e te) (c : XCls X.K C) (hg : Gl X x) (hm : X.mg x = some (.ref C)) (hfr : X.env.frame = some X.env.locals) (hst : X.stack = X.env :: X.outer)
  (hN : X.N.Nodup) (hi : X.N[i]? = some n) (hk : X.env.kindOf n = some .local) (hsu : ∀ ea, PSs (X.inSuite ea) (b₀ :: suite) ts) (hd : (x == ("__debug__" : Str)) = false := by decide)
  (hs : swapsWith e none epos.line X.env = pure false := by rfl) :
  PS X (.Try [.Expr e epos] [.ExceptHandler (some (.Name x np)) (some n) (b₀ :: suite) hpos] [] [] pos) (tTry te C i ts) := by
 intro pins s σ H D I hw
 refine wpAny_Try_except (wpAny_execs_cons (wpAny_Expr_any (wpAny_mono (h pins s σ H _ _ I hw) (fun v s1 ⟨y, H1, I1, r1, q1⟩ => wpAny_execs_nil (wpAny_execs_nil ⟨σ, H1, I1, q1⟩)) fun ev s' hx => ?_) I.quiet hs))
 obtain ⟨H1, s1, I1, ea, C', a0, H', B, dd, rfl, os, bare, un, hok, fl, k1, k2, hn, _, hC, hE⟩ := hx
 have hcc : C' = C := Value.ref.inj hC
 subst hcc
 have fl' := fl
 rw [hst] at fl'
 have frm : X.A.frames = some (X.env :: X.outer) := by rw [<- hst]; exact I.ok.frames
 refine wpAny_looks_onW frm hfr fl' fun h4 held4 up4 => ?_
 refine wpAny_landsW held4 fun h5 fl5 up5 => ?_
 have up5' := up4.trans up5
 have I5 : Inv X pins σ (upd H' ea (excO C' ea)) { s' with heap := h5 } := I1.landed os bare un hok fl k1 k2 hn (by rw [hst]; exact fl5) up5'
 obtain ⟨bm, N, nm, qn, bs, hdc, sn, sub, ab, col, dd, g0, g1', g2', g3', g5', mN, gC, gN, gi, gT⟩ := c.obj I5.kIn
 obtain ⟨ob, hob, hobc⟩ := fl5.there
 refine wpAny_handleBy_cons (codeAny_handlers_test (ld_glob (X := X.inSuite ea) (I5.inSuite ea) hg hm ?_ hd)) (by intro q; cases q)
 refine wpAny_excMatches_sub_self gC hob hobc (gT.hasType rfl) (codeAny_handlers_suite_as ?_)
 refine lands_againW fl5 fun h6 fl6 up6 => ?_
 have I6 : Inv X pins σ (upd H' ea (excO C' ea)) { s' with heap := h6 } := I1.landed os bare un hok fl k1 k2 hn (by rw [hst]; exact fl6) (up5'.trans up6)
 refine store_ok (X := X) I6 hN hi (.inl hk) (v := .ref ea) rfl (fun s7 I7 => ?_) (.inr hk)
 refine wpAny_mono (hsu ea pins s7 _ _ _ (I7.inSuite ea) (hE ea hn)) (fun f s8 hf => ?_) fun _ _ z => False.elim z
 cases f with
 | next =>
  obtain ⟨σ8, H8, I8, q8⟩ := hf
  exact (I8.outSuite I.ok).gone hN hi hk fun s9 I9 => ⟨_, H8, I9, q8⟩
 | brk =>
  obtain ⟨σ8, H8, I8, q8⟩ := hf
  exact (I8.outSuite I.ok).gone hN hi hk fun s9 I9 => ⟨_, H8, I9, q8⟩
 | cont =>
  obtain ⟨σ8, H8, I8, q8⟩ := hf
  exact (I8.outSuite I.ok).gone hN hi hk fun s9 I9 => ⟨_, H8, I9, q8⟩
 | ret u =>
  obtain ⟨v8, σ8, H8, I8, r8, q8⟩ := hf
  exact (I8.outSuite I.ok).gone hN hi hk fun s9 I9 => ⟨v8, _, H8, I9, r8, q8⟩
def rIsX (K : Fg_) : List V -> Hp -> VK -> Prop := fun xs H Q => ∃ ea C c k, xs = [.ref ea, c] /\ H ea = some (excO C ea) /\ XCls K C /\ XAsk K C /\ ((∃ D, c = .ref D /\ PySem.W.kitOne K (.ref C) (.ref D) = some k) \/ (∃ T, c = .ty T /\ PySem.W.kitOne K (.ref C) (.type T) = some k)) /\ Q (.bl k) H
theorem call_isX : CallR X (.builtin "isinstance") (rIsX X.K) := by
 intro pins s σ H vs us Q I r h
 obtain ⟨ea, C, c, k, rfl, hE, xc, xa, hk, q⟩ := h
 obtain ⟨u, v, rfl, ru, rv⟩ := vals2 r
 cases ru
 obtain ⟨hφ, _, _⟩ := (show ObjOk X.prog X.w H s.heap ea (excO C ea) from I.hok ea _ hE)
 rcases hk with ⟨D, rfl, e⟩ | ⟨T, rfl, e⟩
 ·cases rv
  exact PySem.W.kia_one (kitx_exc xc xa) I.kIn hφ e (fun z => nomatch z) fun tk => ⟨.bl k, H, I.tok _, rfl, q⟩
 ·cases rv
  exact PySem.W.kia_one (kitx_exc xc xa) I.kIn hφ e (fun z => nomatch z) fun tk => ⟨.bl k, H, I.tok _, rfl, q⟩
def rIsXs (K : Fg_) : List V -> Hp -> VK -> Prop := fun xs H Q => ∃ (ea C p : Addr) (cs : List Addr) (k : Bool), xs = [.ref ea, .ref p] /\ H ea = some (excO C ea) /\ XCls K C /\ XAsk K C /\ H p = some (.tup (cs.map V.ref)) /\ PySem.W.kitAny K (.ref C) (cs.map Value.ref) = some k /\ Q (.bl k) H
theorem vals_refs : ∀ {cs : List Addr} {its : List Value}, Vals (cs.map V.ref) its -> its = cs.map Value.ref
 | [], _, .nil => rfl
 | c :: r, _, .cons h t => by
  cases h
  rw [vals_refs t]
  rfl
theorem call_isXs : CallR X (.builtin "isinstance") (rIsXs X.K) := by
 intro pins s σ H vs us Q I r h
 obtain ⟨ea, C, p, cs, k, rfl, hE, xc, xa, hp, e, q⟩ := h
 obtain ⟨u, v, rfl, ru, rv⟩ := vals2 r
 cases ru
 cases rv
 obtain ⟨hφ, _, _⟩ := (show ObjOk X.prog X.w H s.heap ea (excO C ea) from I.hok ea _ hE)
 obtain ⟨_, its, rit, o, ho, hcls, nn, hdat⟩ := (show ObjOk X.prog X.w H s.heap p (.tup (cs.map V.ref)) from I.hok p _ hp)
 have ei := vals_refs rit
 subst ei
 obtain ⟨oc, od, odt, osl⟩ := o
 dsimp only at hcls hdat
 subst hcls hdat
 exact PySem.W.kia_tup (kitx_exc xc xa) I.kIn hφ ho e (fun z => nomatch z) fun tk => ⟨.bl k, H, I.tok _, rfl, q⟩
end
end L2
namespace L2
open PySem PySem.Spec PyProof.Rows
section
variable {X : Cx} {K : Fg_}
theorem call_isXK (hK : X.K = K := by rfl) : CallR X (.builtin "isinstance") (rIsX K) := hK ▸ call_isX
theorem call_isXsK (hK : X.K = K := by rfl) : CallR X (.builtin "isinstance") (rIsXs K) := hK ▸ call_isXs
variable {σ : St} {H : Hp} {Q : VK} {D : Ends} {t : TA} {E : XK} {C ea p : Addr} {te : TX} {i : Nat} {ts : TS} {sp : Sp} {dvs : List V} {c : V}
theorem ap_raise : tRaise C E t D σ H = t σ H fun vs H1 => vs.length <= sizeLine /\ E (.ref C) none H1 := rfl
theorem ap_xCall : xCall sp dvs t σ H Q E = t σ H fun vs H1 => sp (vs ++ dvs) H1 Q E := rfl
theorem ap_try : tTry te C i ts D σ H = te σ H (fun _ H1 => D.nx σ H1) fun cls _ H1 => cls = .ref C /\ ∀ ea, H1 ea = none ->
 ts { nx := fun σ2 H2 => D.nx (σ2.set i none) H2, rt := D.rt, bk := fun σ2 H2 => D.bk (σ2.set i none) H2, ct := fun σ2 H2 => D.ct (σ2.set i none) H2 } (σ.set i (some (.ref ea))) (upd H1 ea (excO C ea)) := rfl
theorem ap_isX : rIsX K [.ref ea, c] H Q = ∃ C k, H ea = some (excO C ea) /\ XCls K C /\ XAsk K C /\ ((∃ D, c = .ref D /\ PySem.W.kitOne K (.ref C) (.ref D) = some k) \/ (∃ T, c = .ty T /\ PySem.W.kitOne K (.ref C) (.type T) = some k)) /\ Q (.bl k) H := propext
 ⟨fun ⟨ea', C, c', k, e, r⟩ => by cases e; exact ⟨C, k, r⟩, fun ⟨C, k, r⟩ => ⟨ea, C, c, k, rfl, r⟩⟩
theorem ap_isXs : rIsXs K [.ref ea, .ref p] H Q = ∃ (C : Addr) (cs : List Addr) (k : Bool), H ea = some (excO C ea) /\ XCls K C /\ XAsk K C /\ H p = some (.tup (cs.map V.ref)) /\ PySem.W.kitAny K (.ref C) (cs.map Value.ref) = some k /\ Q (.bl k) H := propext
 ⟨fun ⟨ea', C, p', cs, k, e, r⟩ => by cases e; exact ⟨C, cs, k, r⟩, fun ⟨C, cs, k, r⟩ => ⟨ea, C, p, cs, k, rfl, r⟩⟩
end
end L2
namespace L2
open PySem PySem.Spec PyProof.Rows
section
variable {κ : Type} [DecidableEq κ]
def valV (kvs : List (κ × V)) (k : κ) : Option V := (kvs.find? fun kv => decide (kv.1 = k)).map (·.2)
def putK (kvs : List (κ × V)) (k : κ) (v : V) : List (κ × V) :=
 if (kvs.any fun kv => decide (kv.1 = k)) = true then kvs.map (fun kv => if kv.1 = k then (kv.1, v) else kv) else kvs ++ [(k, v)]
theorem valV_pos {p : κ × V} {r : List (κ × V)} {k : κ} (e : p.1 = k) : valV (p :: r) k = some p.2 := by simp [valV, List.find?_cons, e]
theorem valV_neg {p : κ × V} {r : List (κ × V)} {k : κ} (e : ¬ p.1 = k) : valV (p :: r) k = valV r k := by simp [valV, List.find?_cons, e]
theorem valV_any (k : κ) : ∀ kvs : List (κ × V), (kvs.any fun kv => decide (kv.1 = k)) = (valV kvs k).isSome
 | [] => rfl
 | p :: r => by
  rw [List.any_cons]
  by_cases e : p.1 = k
  ·simp only [valV_pos e, decide_eq_true e, Bool.true_or, Option.isSome_some]
  ·rw [valV_neg e, decide_eq_false e, Bool.false_or]; exact valV_any k r
theorem valV_map (k j : κ) (y : V) : ∀ kvs : List (κ × V), valV (kvs.map fun kv => if kv.1 = k then (kv.1, y) else kv) j = (valV kvs j).map fun x => if j = k then y else x
 | [] => rfl
 | p :: r => by
  have ih := valV_map k j y r
  rw [List.map_cons]
  by_cases h : p.1 = k
  ·rw [if_pos h]
   by_cases e : p.1 = j
   ·rw [valV_pos (p := (p.1, y)) e, valV_pos e, Option.map_some, if_pos (e.symm.trans h)]
   ·rw [valV_neg (p := (p.1, y)) e, valV_neg e, ih]
  ·rw [if_neg h]
   by_cases e : p.1 = j
   ·rw [valV_pos (p := p) e, valV_pos e, Option.map_some, if_neg (fun z => h (e.trans z))]
   ·rw [valV_neg (p := p) e, valV_neg e, ih]
theorem valV_snoc (k j : κ) (y : V) : ∀ kvs : List (κ × V), valV kvs k = none -> valV (kvs ++ [(k, y)]) j = if j = k then some y else valV kvs j
 | [], _ => by
  by_cases e : k = j
  ·rw [if_pos e.symm]; exact valV_pos (p := (k, y)) e
  ·rw [if_neg (fun z => e z.symm)]; exact valV_neg (p := (k, y)) e
 | p :: r, hn => by
  rw [List.cons_append]
  have hk : ¬ p.1 = k := fun z => by rw [valV_pos z] at hn; cases hn
  rw [valV_neg hk] at hn
  have ih := valV_snoc k j y r hn
  by_cases e : p.1 = j
  ·rw [valV_pos e, valV_pos e, if_neg (fun z => hk (e.trans z))]
  ·rw [valV_neg e, valV_neg e, ih]
theorem valV_put (kvs : List (κ × V)) (k j : κ) (y : V) : valV (putK kvs k y) j = if j = k then some y else valV kvs j := by
 unfold putK
 by_cases a : (kvs.any fun kv => decide (kv.1 = k)) = true
 ·rw [if_pos a, valV_map]
  rw [valV_any] at a
  by_cases e : j = k
  ·obtain ⟨x, hx⟩ := Option.isSome_iff_exists.mp a
   rw [if_pos e, e, hx, Option.map_some, if_pos rfl]
  ·rw [if_neg e]
   cases valV kvs j with
   | none => rfl
   | some x => rw [Option.map_some, if_neg e]
 ·rw [if_neg a]
  refine valV_snoc k j y kvs ?_
  rw [valV_any] at a
  cases q : valV kvs k with
  | none => rfl
  | some x => rw [q] at a; exact (a rfl).elim
theorem length_putK (kvs : List (κ × V)) (k : κ) (v : V) : (putK kvs k v).length <= kvs.length + 1 := by
 unfold putK
 split
 ·rw [List.length_map]; omega
 ·rw [List.length_append, List.length_cons, List.length_nil]; omega
theorem RelO.isSome_eq {o : Option V} {u : Option Value} (r : RelO o u) : o.isSome = u.isSome := by
 cases o with
 | none => cases u with
  | none => rfl
  | some _ => exact (show False from r).elim
 | some _ => cases u with
  | none => exact (show False from r).elim
  | some _ => rfl
theorem KV.val {kvs : List (κ × V)} {vs : List (κ × Value)} (r : KV kvs vs) (k : κ) : RelO (valV kvs k) (valueAt vs k) := by
 unfold KV at r
 induction r with
 | nil => exact True.intro
 | @cons p q ps qs h t ih =>
  obtain ⟨h1, h2⟩ := h
  by_cases e : p.1 = k
  ·have e' : q.1 = k := h1.symm.trans e
   have b : valueAt (q :: qs) k = some q.2 := by simp [valueAt, List.find?_cons, e']
   rw [valV_pos e, b]; exact h2
  ·have e' : ¬ q.1 = k := fun z => e (h1.trans z)
   have b : valueAt (q :: qs) k = valueAt qs k := by simp [valueAt, List.find?_cons, e']
   rw [valV_neg e, b]; exact ih
theorem KV.any {kvs : List (κ × V)} {vs : List (κ × Value)} (r : KV kvs vs) (k : κ) : (kvs.any fun kv => decide (kv.1 = k)) = vs.any fun kv => decide (kv.1 = k) := by
 unfold KV at r
 induction r with
 | nil => rfl
 | cons h t ih => rw [List.any_cons, List.any_cons, ih, h.1]
theorem KV.repl {kvs : List (κ × V)} {vs : List (κ × Value)} (r : KV kvs vs) (k : κ) {y : V} {u : Value} (ry : RelV y u) :
  KV (kvs.map fun kv => if kv.1 = k then (kv.1, y) else kv) (vs.map fun kv => if kv.1 = k then (kv.1, u) else kv) := by
 unfold KV at r ⊢
 induction r with
 | nil => exact .nil
 | @cons p q ps qs h t ih =>
  rw [List.map_cons, List.map_cons]
  refine .cons ?_ ih
  obtain ⟨h1, h2⟩ := h
  by_cases e : p.1 = k
  ·rw [if_pos e, if_pos (h1.symm.trans e)]; exact ⟨h1, ry⟩
  ·rw [if_neg e, if_neg (fun z => e (h1.trans z))]; exact ⟨h1, h2⟩
theorem KV.put {kvs : List (κ × V)} {vs : List (κ × Value)} (r : KV kvs vs) (k : κ) {y : V} {u : Value} (ry : RelV y u) : KV (putK kvs k y) (stored vs k u) := by
 unfold putK stored
 rw [r.any k]
 by_cases e : (vs.any fun kv => decide (kv.1 = k)) = true
 ·rw [if_pos e, if_pos e]; exact r.repl k ry
 ·rw [if_neg e, if_neg e]; exact Paired.snoc r ⟨rfl, ry⟩
theorem KV.keys {kvs : List (κ × V)} {vs : List (κ × Value)} (r : KV kvs vs) : kvs.map (·.1) = vs.map (·.1) := by
 unfold KV at r
 induction r with
 | nil => rfl
 | cons h t ih => rw [List.map_cons, List.map_cons, ih, h.1]
theorem KV.length {kvs : List (κ × V)} {vs : List (κ × Value)} (r : KV kvs vs) : kvs.length = vs.length := Paired.length r
end
theorem kV_is {P : Program} {w : World} {k : Key} {u : Value} (r : RelV (kV k) u) : (mixKind P w).is k u = true := by
 cases k with
 | inl i => obtain ⟨t, e⟩ := (show ∃ t, u = Value.int i t from r); subst e; exact mixKind_int P w i t
 | inr x => obtain ⟨t, e⟩ := (show ∃ t, u = Value.str x t from r); subst e; exact mixKind_str P w x t
theorem items_are {P : Program} {w : World} : ∀ {ks : List Key} {us : List Value}, Vals (ks.map kV) us -> ItemsAre (mixKind P w) ks us
 | [], _, r => by rw [List.map_nil] at r; cases r; exact .nil
 | k :: ks, _, r => by
  rw [List.map_cons] at r
  cases r with
  | cons h t => exact .cons (kV_is h) (items_are t)
abbrev KT (H : Hp) : List (List Key × V) -> List (List Key × Addr × Value) -> Prop := Paired fun p q => p.1 = q.1 /\ H q.2.1 = some (.tup (p.1.map kV)) /\ RelV p.2 q.2.2
theorem KT.val {H : Hp} {kvs : List (List Key × V)} {xs : List (List Key × Addr × Value)} (r : KT H kvs xs) (k : List Key) : RelO (valV kvs k) ((atKey xs k).map (·.2)) := by
 induction r with
 | nil => exact True.intro
 | @cons p q ps qs h t ih =>
  obtain ⟨h1, _, h2⟩ := h
  by_cases e : p.1 = k
  ·have e' : q.1 = k := h1.symm.trans e
   have b : atKey (q :: qs) k = some q.2 := by simp [atKey, List.find?_cons, e']
   rw [valV_pos e, b]; exact h2
  ·have e' : ¬ q.1 = k := fun z => e (h1.trans z)
   have b : atKey (q :: qs) k = atKey qs k := by simp [atKey, List.find?_cons, e']
   rw [valV_neg e, b]; exact ih
theorem KT.repl {H : Hp} {kvs : List (List Key × V)} {xs : List (List Key × Addr × Value)} (r : KT H kvs xs) (k : List Key) {y : V} {u : Value} (ry : RelV y u) :
  KT H (kvs.map fun kv => if kv.1 = k then (kv.1, y) else kv) (xs.map (putAt k u)) := by
 induction r with
 | nil => exact .nil
 | @cons p q ps qs h t ih =>
  rw [List.map_cons, List.map_cons]
  refine .cons ?_ ih
  obtain ⟨h1, h2, h3⟩ := h
  unfold putAt
  by_cases e : p.1 = k
  ·rw [if_pos e, if_pos (h1.symm.trans e)]; exact ⟨h1, h2, ry⟩
  ·rw [if_neg e, if_neg (fun z => e (h1.trans z))]; exact ⟨h1, h2, h3⟩
theorem KT.put {H : Hp} {kvs : List (List Key × V)} {xs : List (List Key × Addr × Value)} (r : KT H kvs xs) (k : List Key) {b : Addr} {y : V} {u : Value} (hb : H b = some (.tup (k.map kV))) (ry : RelV y u) :
  KT H (putK kvs k y) (storedH xs k b u) := by
 have e : (kvs.any fun kv => decide (kv.1 = k)) = (atKey xs k).isSome := by
  rw [valV_any, (r.val k).isSome_eq, Option.isSome_map]
 unfold putK storedH
 rw [e]
 by_cases q : (atKey xs k).isSome = true
 ·rw [if_pos q, if_pos q]; exact r.repl k ry
 ·rw [if_neg q, if_neg q]; exact Paired.snoc r ⟨rfl, hb, ry⟩
theorem KT.keeps {H H' : Hp} {kvs : List (List Key × V)} {xs : List (List Key × Addr × Value)} (r : KT H kvs xs) (ht : ∀ b ys, H b = some (.tup ys) -> H' b = some (.tup ys)) : KT H' kvs xs :=
 Paired.mapP r fun _ _ z => ⟨z.1, ht _ _ z.2.1, z.2.2⟩
section
variable {P : Program} {w : World} {H : Hp} {h : Heap} {a : Addr}
theorem rd_of {u : HO} (ok : HOk P w H h) (e : Rd H a u) : ObjOk P w H h a u := e.ok ok
theorem dk_rd {kvs : List (Key × V)} (ok : HOk P w H h) (e : Rd H a (.dK kvs)) : kvs.length <= sizeLine /\ (a == sysModules) = false /\ ∃ vs, KV kvs vs /\ h.DictOf (mixKind P w) a vs :=
 show ObjOk P w H h a (.dK kvs) from rd_of ok e
theorem dk_of {kvs : List (Key × V)} (ok : HOk P w H h) (e : H a = some (.dK kvs)) : kvs.length <= sizeLine /\ (a == sysModules) = false /\ ∃ vs, KV kvs vs /\ h.DictOf (mixKind P w) a vs := dk_rd ok (.inl e)
theorem key_of {ks : List Key} (ok : HOk P w H h) (e : H a = some (.tup (ks.map kV))) : (tupleKind (mixKind P w)).is h ks a := by
 obtain ⟨_, its, r, o, h1, h2, n, h3⟩ := (show ObjOk P w H h a (.tup (ks.map kV)) from ok a _ e)
 exact ⟨o, its.toArray, n, h1, h2, h3, by simpa using items_are r⟩
theorem dt_rd {kvs : List (List Key × V)} (ok : HOk P w H h) (e : Rd H a (.dT kvs)) : kvs.length <= sizeLine /\ (a == sysModules) = false /\
  ∃ xs, KT H kvs xs /\ h.DictOfH (tupleKind (mixKind P w)) a xs := by
 obtain ⟨z, y, xs, r, o, es, ep, h1, h2, h3, h4, h5⟩ := (show ObjOk P w H h a (.dT kvs) from rd_of ok e)
 refine ⟨z, y, xs, r, o, es, ep, h1, h2, h3, h4, fun x hx => ?_, h5⟩
 have all : ∀ {l : List (List Key × V)} {m : List (List Key × Addr × Value)}, KT H l m -> ∀ x ∈ m, (tupleKind (mixKind P w)).is h x.1 x.2.1 := by
  intro l m q
  induction q with
  | nil => intro x hx; exact nomatch hx
  | @cons p q ps qs hq t ih =>
   intro x hx
   rcases List.mem_cons.mp hx with e | hx
   ·subst e
    exact key_of ok (by rw [<- hq.1]; exact hq.2.1)
   ·exact ih x hx
 exact all r x hx
theorem dt_of {kvs : List (List Key × V)} (ok : HOk P w H h) (e : H a = some (.dT kvs)) : kvs.length <= sizeLine /\ (a == sysModules) = false /\
  ∃ xs, KT H kvs xs /\ h.DictOfH (tupleKind (mixKind P w)) a xs := dt_rd ok (.inl e)
end
def DGet (H : Hp) (a : Addr) (y : V) (r : Option V) : Prop :=
 (∃ kvs k, Rd H a (.dK kvs) /\ y = kV k /\ r = valV kvs k) \/ ∃ kvs k b, Rd H a (.dT kvs) /\ y = .ref b /\ H b = some (.tup (k.map kV)) /\ r = valV kvs k
def DPut (H : Hp) (a : Addr) (y v : V) (H' : Hp) : Prop :=
 (∃ kvs k, H a = some (.dK kvs) /\ y = kV k /\ kvs.length < sizeLine /\ H' = upd H a (.dK (putK kvs k v))) \/
 ∃ kvs k b, H a = some (.dT kvs) /\ y = .ref b /\ H b = some (.tup (k.map kV)) /\ kvs.length < sizeLine /\ H' = upd H a (.dT (putK kvs k v))
theorem DGet.k {H : Hp} {a : Addr} {kvs : List (Key × V)} {k : Key} (e : H a = some (.dK kvs)) : DGet H a (kV k) (valV kvs k) := .inl ⟨kvs, k, .inl e, rfl, rfl⟩
theorem DPut.k {H : Hp} {a : Addr} {kvs : List (Key × V)} {k : Key} {v : V} (e : H a = some (.dK kvs)) (hl : kvs.length < sizeLine) : DPut H a (kV k) v (upd H a (.dK (putK kvs k v))) := .inl ⟨kvs, k, e, rfl, hl, rfl⟩
section
variable {X : Cx} {pins : List (Addr × Obj)} {σ : St} {H : Hp} {s : Shared} {a : Addr} {y v : V} {u r : Value} {o : Option V} {A : Around} {E : Value -> Shared -> Prop}
theorem Inv.big (I : Inv X pins σ H s) : sysModules < s.heap.objs.size := by
 have h : mainGlobals < s.heap.objs.size := (I.mod.glob.keeps I.bk).lt
 exact Nat.lt_trans (by decide) h
theorem d_getItem {Q : Value -> Shared -> Prop} (hu : A.units + 1 < cLine) (I : Inv X pins σ H s) (g : DGet H a y (some v)) (ry : RelV y u) (h : ∀ w' s', Inv X pins σ H s' -> RelV v w' -> Q w' s') :
  wpAny (model X.prog X.w) A (getItem (.ref a) u) Q E s := by
 rcases g with ⟨kvs, k, e, ey, l⟩ | ⟨kvs, k, b, e, ey, eb, l⟩
 ·subst ey
  obtain ⟨z, hd, vs, rel, dd⟩ := dk_rd I.hok e
  obtain ⟨w', hw, rw'⟩ := RelO.some_of (v := v) (o := valueAt vs k) (by rw [l]; exact rel.val k)
  exact wpAny_getItem_of (kV_is ry) dd.mapOf hw (h w' _ (I.tok _) rw')
 ·subst ey
  cases (show u = Value.ref b from ry)
  obtain ⟨z, hd, xs, rel, dd⟩ := dt_rd I.hok e
  obtain ⟨w', hw, rw'⟩ := RelO.some_of (v := v) (o := (atKey xs k).map (·.2)) (by rw [l]; exact rel.val k)
  obtain ⟨p, hp, hp2⟩ := Option.map_eq_some_iff.mp hw
  refine wpAny_getItem_heap (tupleKind_room_in1 hu) (key_of I.hok eb) dd hp ?_
  rw [hp2]
  exact h w' _ (I.tok _) rw'
theorem d_in {Q : Value -> Shared -> Prop} (hu : A.units + 1 < cLine) (I : Inv X pins σ H s) (g : DGet H a y o) (ry : RelV y u) (h : ∀ s', Inv X pins σ H s' -> Q (.bool o.isSome) s') :
  wpAny (model X.prog X.w) A (compareOp .In u (.ref a)) Q E s := by
 rcases g with ⟨kvs, k, e, ey, l⟩ | ⟨kvs, k, b, e, ey, eb, l⟩
 ·subst ey
  obtain ⟨z, hd, vs, rel, dd⟩ := dk_rd I.hok e
  refine wpAny_in_of (kV_is ry) hd dd.mapOf ?_
  rw [<- (rel.val k).isSome_eq, <- l]
  exact h _ (I.tok _)
 ·subst ey
  cases (show u = Value.ref b from ry)
  obtain ⟨z, hd, xs, rel, dd⟩ := dt_rd I.hok e
  refine wpAny_in_heap (tupleKind_room_in1 hu) (key_of I.hok eb) hd dd ?_
  have q := (rel.val k).isSome_eq
  rw [Option.isSome_map] at q
  rw [<- q, <- l]
  exact h _ (I.tok _)
theorem d_write {h' : Heap} {t' : Nat} {ob : HO} (I : Inv X pins σ H s) (mu : Mut (H a)) (hs : Heap.SameBut a s.heap h') (he : ∃ q, h'.get? a = some q) (new : ObjOk X.prog X.w (upd H a ob) h' a ob) :
  Inv X pins σ (upd H a ob) { s with heap := h', toks := t' } :=
 I.write (x := a) (e := a) mu (.inl rfl) (fun b q hb z => (hs.2 b hb).trans z) he new
theorem dk_new {P : Program} {w : World} {H' : Hp} {h' : Heap} {kvs : List (Key × V)} {vs : List (Key × Value)} (z : kvs.length <= sizeLine) (hd : (a == sysModules) = false) (rel : KV kvs vs) (dd : h'.DictOf (mixKind P w) a vs) :
  ObjOk P w H' h' a (.dK kvs) := ⟨z, hd, vs, rel, dd⟩
theorem d_setItem {H' : Hp} {Q : Unit -> Shared -> Prop} (hu : A.units + 1 < cLine) (I : Inv X pins σ H s) (g : DPut H a y v H') (ry : RelV y u) (rv : RelV v r) (h : ∀ s', Inv X pins σ H' s' -> Q () s') :
  wpAny (model X.prog X.w) A (setItem (.ref a) u r) Q E s := by
 rcases g with ⟨kvs, k, e, ey, l, eH⟩ | ⟨kvs, k, b, e, ey, eb, l, eH⟩
 ·subst ey eH
  obtain ⟨z, hd, vs, rel, dd⟩ := dk_of I.hok e
  have hz : vs.length <= sizeLine := by rw [<- rel.length]; exact z
  have hl : (putK kvs k v).length <= sizeLine := by have := length_putK kvs k v; omega
  refine wpAny_setItem_pairs (hsz := hz) (kV_is ry) dd fun h' dd' hs => h _ ?_
  have he : ∃ q, h'.get? a = some q := let ⟨q, _, _, hq, _⟩ := dd'; ⟨q, hq⟩
  exact d_write I (by rw [e]; exact True.intro) hs he (dk_new hl hd (rel.put k rv) dd')
 ·subst ey eH
  cases (show u = Value.ref b from ry)
  obtain ⟨z, hd, xs, rel, dd⟩ := dt_of I.hok e
  have hz : xs.length <= sizeLine := by rw [<- Paired.length rel]; exact z
  have hl : (putK kvs k v).length <= sizeLine := by have := length_putK kvs k v; omega
  refine wpAny_setItem_heap (hsz := hz) (tupleKind_room_in1 hu) (key_of I.hok eb) dd fun h' dd' hs => h _ ?_
  obtain ⟨q, es, ep, hq, h2, h3, h4, _, h5⟩ := dd'
  refine d_write I (by rw [e]; exact True.intro) hs ⟨q, hq⟩ ⟨hl, hd, _, (rel.put k eb rv).keeps fun c ys ec => ?_, q, es, ep, hq, h2, h3, h4, h5⟩
  rw [upd_ne (ne_of ec e (fun z => nomatch z))]
  exact ec
end
def NoSl (i : Expr) : Prop := ∀ ov iv, subscripted i false ov iv = operate [ov, iv] (getItem ov iv)
theorem subD_of {prog : Program} {w : World} {A : Around} {E : Value -> Shared -> Prop} {s : Shared} {env : Env} {value slice : Expr} {pos : Pos} {T id : String} {Q : Value -> Shared -> Prop}
  (hl : typeLookup (.type T) "__getitem__" = pure (some (.builtin id))) (hs : NoSl slice)
  (h : wpAny (model prog w) A (eval value env) (fun o s₁ => wpAny (model prog w) A (eval slice env) (fun i s₂ => s₂.TypeIs o T /\ wpAny (model prog w) A (getItem o i) Q E s₂) E s₁) E s) :
  wpAny (model prog w) A (eval (.Subscript value slice pos) env) Q E s := by
 refine Subscript_ (wpAny_mono h (fun o s₁ h₁ => wpAny_mono h₁ (fun i s₂ h₂ => ?_) fun _ _ x => x) fun _ _ x => x)
 obtain ⟨hT, h₂⟩ := h₂
 unfold subscriptTail
 refine wpAny_bind ?_
 rw [getitemInPython_of_ne hT.not_modules]
 refine wpAny_bind (wpAny_specialOf hT hl ?_)
 have fin : wpAny (model prog w) A (subscripted slice false o i) (fun r s₃ => wpAny (model prog w) A (letTemporaryGo value o r >>= fun _ => pure r) Q E s₃) E s₂ := by
  rw [hs o i]
  exact wpAny_operating (wpAny_mono h₂ (fun r s₃ h₃ => wpAny_bind (wpAny_letTemporaryGo (wpAny_pure h₃))) fun _ _ x => x)
 first
  | exact wpAny_pure (wpAny_bind fin)
  | exact wpAny_bind (wpAny_pure (wpAny_bind fin))
  | exact wpAny_bind fin
theorem dict_typeIs {X : Cx} {pins : List (Addr × Obj)} {σ : St} {H : Hp} {s : Shared} {a : Addr} {y : V} {o : Option V} (I : Inv X pins σ H s) (g : DGet H a y o) : s.TypeIs (.ref a) "dict" := by
 rcases g with ⟨kvs, k, e, _, _⟩ | ⟨kvs, k, b, e, _, _, _⟩
 ·obtain ⟨_, _, vs, _, dd⟩ := dk_rd I.hok e
  exact dd.typeIs
 ·obtain ⟨_, _, xs, _, dd⟩ := dt_rd I.hok e
  exact dd.typeIs
def tDGet (td ty : TE) : TE := fun σ H Q => td σ H fun x H1 => ty σ H1 fun y H2 => ∃ a v, x = .ref a /\ DGet H2 a y (some v) /\ Q v H2
def sDPut (td ty tv : TE) : TS := fun D σ H => tv σ H fun v H1 => td σ H1 fun x H2 => ty σ H2 fun y H3 => ∃ a H4, x = .ref a /\ DPut H3 a y v H4 /\ D.nx σ H4
section
variable {X : Cx} {o i e value : Expr} {pos pos' tpos : Pos} {td ty tv : TE}
theorem pe_dget (hu : X.A.units + 1 < cLine) (ho : PE X o td) (hi : PE X i ty) (hs : NoSl i) : PE X (.Subscript o i pos) (tDGet td ty) := by
 intro pins s σ H Q I h
 refine subD_of PySem.F.slot_dict_getitem.lookup hs (thn (ho pins s σ H _ I h) fun u s1 ⟨x, H1, I1, rx, q1⟩ => thn (hi pins s1 σ H1 _ I1 q1) fun iv s2 ⟨y, H2, I2, ry, a, v, ex, g, q2⟩ => ?_)
 subst ex
 obtain rfl : u = Value.ref a := rx
 exact ⟨dict_typeIs I2 g, d_getItem hu I2 g ry fun w' s3 I3 rw' => ⟨v, H2, I3, rw', q2⟩⟩
theorem ps_dput (hu : X.A.units + 1 < cLine) (ho : PE X o td) (hi : PE X i ty) (hv : PE X value tv) (hs : swapsWith value (some (.Subscript o i pos')) pos.line X.env = pure false) :
  PS X (.Assign [.Subscript o i pos'] value pos) (sDPut td ty tv) := by
 intro pins s σ H D I h
 refine wpAny_Assign_Subscript (thn (hv pins s σ H _ I h) fun r s1 ⟨v, H1, I1, rv, q1⟩ => thn (ho pins s1 σ H1 _ I1 q1) fun u s2 ⟨x, H2, I2, rx, q2⟩ => thn (hi pins s2 σ H2 _ I2 q2) fun iv s3 ⟨y, H3, I3, ry, a, H4, ex, g, q3⟩ => ?_) hs
 subst ex
 obtain rfl : u = Value.ref a := rx
 exact d_setItem hu I3 g ry rv fun s4 I4 => ⟨σ, H4, I4, q3⟩
end
theorem dk_empty {P : Program} {w : World} {H : Hp} (h : Heap) (hb : sysModules < h.objs.size) : ObjOk P w H (h.push { cls := .type "dict", data := .dict #[] }) h.objs.size (.dK []) :=
 ⟨Nat.zero_le _, beq_eq_false_iff_ne.mpr (Ne.symm (Nat.ne_of_lt hb)), [], .nil, Heap.DictOf.new h⟩
def tDNewK : TE := fun _ H Q => ∀ p, H p = none -> Q (.ref p) (upd H p (.dK []))
section
variable {X : Cx} {pos : Pos}
theorem pe_dnewK : PE X (.Dict [] [] pos) tDNewK := fun pins s σ H Q I h =>
 wpAny_Dict_empty ⟨.ref s.heap.objs.size, _, I.laid (a := s.heap.objs.size) (o := .dK []) (t' := s.toks) (fun _ _ q => Heap.get?_push_of_some _ q) (Nat.le_refl _) (dk_empty s.heap I.big), rfl, h _ (I.hok.fresh (Nat.le_refl _))⟩
end
def tPairs : List (TE × TE) -> St -> Hp -> (List (V × V) -> Hp -> Prop) -> Prop
 | [], _, H, Q => Q [] H
 | (tk, tv) :: r, σ, H, Q => tk σ H fun x H1 => tv σ H1 fun y H2 => tPairs r σ H2 fun ps H3 => Q ((x, y) :: ps) H3
abbrev VV : List (V × V) -> List (Value × Value) -> Prop := Paired fun p q => RelV p.1 q.1 /\ RelV p.2 q.2
def PPs (X : Cx) (pos : Pos) (keys : List (Option Expr)) (values : List Expr) (trs : List (TE × TE)) : Prop :=
 ∀ (pins : List (Addr × Obj)) (s : Shared) (σ : St) (H : Hp) (Q : List (V × V) -> Hp -> Prop), Inv X pins σ H s -> tPairs trs σ H Q ->
  wpAny (model X.prog X.w) X.A (evalPairs (pairTrees keys values X.env pos)) (fun vs s' => ∃ ps H', Inv X pins σ H' s' /\ VV ps vs /\ Q ps H') X.xe s
theorem pps_nil {X : Cx} {pos : Pos} : PPs X pos [] [] [] := fun pins s σ H Q I h => pairTrees_nil_walk ⟨[], H, I, .nil, h⟩
theorem pps_cons {X : Cx} {pos : Pos} {k v : Expr} {ks : List (Option Expr)} {vs : List Expr} {tk tv : TE} {trs : List (TE × TE)} (hk : PE X k tk) (hv : PE X v tv) (hr : PPs X pos ks vs trs) :
  PPs X pos (some k :: ks) (v :: vs) ((tk, tv) :: trs) := fun pins s σ H Q I h =>
 pairTrees_cons_walk (thn (hk pins s σ H _ I h) fun u s1 ⟨x, H1, I1, rx, q1⟩ => thn (hv pins s1 σ H1 _ I1 q1) fun w2 s2 ⟨y, H2, I2, ry, q2⟩ =>
  thn (hr pins s2 σ H2 _ I2 q2) fun ws s3 ⟨ps, H3, I3, rel, q3⟩ => ⟨(x, y) :: ps, H3, I3, .cons ⟨rx, ry⟩ rel, q3⟩)
def mergeK (kvs more : List (Key × V)) : List (Key × V) := more.foldl (fun acc kv => putK acc kv.1 kv.2) kvs
theorem KV.merge : ∀ {more : List (Key × V)} {rs : List (Key × Value)} {kvs : List (Key × V)} {vs : List (Key × Value)}, KV more rs -> KV kvs vs -> KV (mergeK kvs more) (merged vs rs) := by
 intro more rs kvs vs r
 unfold KV at r
 induction r generalizing kvs vs with
 | nil => intro q; exact q
 | @cons p q ps qs h t ih =>
  intro r0
  have e : KV (putK kvs p.1 p.2) (stored vs q.1 q.2) := by
   have := r0.put p.1 h.2
   rw [<- h.1]; exact this
  exact ih e
theorem length_mergeK : ∀ (more kvs : List (Key × V)), (mergeK kvs more).length <= kvs.length + more.length
 | [], kvs => by show kvs.length <= kvs.length + 0; omega
 | p :: r, kvs => by
  have h1 := length_mergeK r (putK kvs p.1 p.2)
  have h2 := length_putK kvs p.1 p.2
  show (mergeK (putK kvs p.1 p.2) r).length <= _
  rw [List.length_cons]; omega
theorem carries_of {P : Program} {w : World} : ∀ {kvs : List (Key × V)} {ws : List (Value × Value)}, VV (kvs.map fun kv => (kV kv.1, kv.2)) ws -> ∃ rs, Carries (mixKind P w) ws rs /\ KV kvs rs
 | [], _, r => by rw [List.map_nil] at r; cases r; exact ⟨[], True.intro, .nil⟩
 | p :: kvs, _, r => by
  rw [List.map_cons] at r
  cases r with
  | @cons a b as bs h t =>
   obtain ⟨rs, c, q⟩ := carries_of (P := P) (w := w) t
   obtain ⟨b1, b2⟩ := b
   exact ⟨(p.1, b2) :: rs, ⟨kV_is h.1, rfl, c⟩, .cons ⟨rfl, h.2⟩ q⟩
def tDisp (trs : List (TE × TE)) : TE := fun σ H Q => ∀ p, H p = none -> tPairs trs σ (upd H p (.dK [])) fun ps H2 => H2 p = some (.dK []) /\ ∃ kvs : List (Key × V), ps = kvs.map (fun kv => (kV kv.1, kv.2)) /\ kvs.length <= 15 /\ Q (.ref p) (upd H2 p (.dK (mergeK [] kvs)))
theorem pe_disp {X : Cx} {pos : Pos} {keys : List (Option Expr)} {values : List Expr} {trs : List (TE × TE)} (h : PPs X pos keys values trs) (hall : keys.all (·.isSome) = true) (hl : keys.length = values.length) (h0 : keys ≠ [])
  (h15 : keys.length <= 15) : PE X (.Dict keys values pos) (tDisp trs) := by
 intro pins s σ H Q I q
 have hn := I.hok.fresh (Nat.le_refl s.heap.objs.size)
 have I1 := I.laid (a := s.heap.objs.size) (o := .dK []) (h' := s.heap.push { cls := .type "dict", data := .dict #[] }) (t' := s.toks) (fun _ _ q => Heap.get?_push_of_some _ q) (Nat.le_refl _) (dk_empty s.heap I.big)
 refine wpAny_Dict_walk (knd := mixKind X.prog X.w) hall hl h0 h15 (thn (h pins _ σ _ _ I1 (q _ hn)) fun ws s2 ⟨ps, H2, I2, rel, e, kvs, ep, lk, q2⟩ => ?_)
 subst ep
 obtain ⟨rs, c, rk⟩ := carries_of (P := X.prog) (w := X.w) rel
 obtain ⟨z, hd, vs0, r0, dd⟩ := dk_of I2.hok e
 cases r0
 refine ⟨rs, c, dd, fun h' dd' hs => ⟨.ref s.heap.objs.size, _, ?_, rfl, q2⟩⟩
 have hz : (mergeK [] kvs).length <= sizeLine := by
  have h1 := length_mergeK kvs []
  rw [List.length_nil] at h1
  rw [sizeLine_eq]; omega
 have he : ∃ q, h'.get? s.heap.objs.size = some q := let ⟨q, _, _, hq, _⟩ := dd'; ⟨q, hq⟩
 exact d_write I2 (by rw [e]; exact True.intro) hs he (dk_new hz hd (rk.merge .nil) dd')
structure M1 (X : Cx) (o : Expr) (m : Str) (apos : Pos) (e : Expr) (cpos : Pos) : Prop where
 base : attributeBase o m X.env (eval o X.env) = eval o X.env
 few : ((backTo cpos (starEach [e] X.env)).all (fun x => !x.1) && (backToKw cpos (keywordEach [] X.env)).all (fun x => x.1.isSome)
  && decide (([e] : List Expr).length + ([] : List Keyword).length + (if ([] : List Keyword).isEmpty then 0 else 1) < 30)) = true
 line : (apos.endLine == cpos.line) = true
 trees : backTo cpos (starEach [e] X.env) = [(false, eval e X.env)]
structure M2 (X : Cx) (o : Expr) (m : Str) (apos : Pos) (e f : Expr) (cpos : Pos) : Prop where
 base : attributeBase o m X.env (eval o X.env) = eval o X.env
 few : ((backTo cpos (starEach [e, f] X.env)).all (fun x => !x.1) && (backToKw cpos (keywordEach [] X.env)).all (fun x => x.1.isSome)
  && decide (([e, f] : List Expr).length + ([] : List Keyword).length + (if ([] : List Keyword).isEmpty then 0 else 1) < 30)) = true
 line : (apos.endLine == cpos.line) = true
 trees : backTo cpos (starEach [e, f] X.env) = [(false, eval e X.env), (false, eval f X.env)]
end L2
namespace L2
open PySem PySem.Spec PyProof.Rows
structure FunD (K : Fg_) (x qual : Str) (st : Stmt) (f : Addr) (fd : FuncData) (dvs : List V) : Prop where
 ex : ∃ (oc : Value) (od : Option Addr) (Td : Addr) (kV doc pm : Value) (an : Option Addr) (cdv ct : Value) (osl : Array (Option Value)) (ot : Obj) (its : List Value) (nt : Nat),
  fd = PySem.W.fnOf x qual (defArgs st) (defBody st) (defScope st) (.ref Td) kV doc pm an cdv ct /\ K.lookup f = some ⟨oc, od, .func fd, osl⟩ /\ PySem.W.codeIn K cdv qual = true /\ K.lookup Td = some ot /\ ot.data = .seq its.toArray nt /\ Vals dvs its
 kp : PySem.W.keepIn K (.ref f) = true
section
variable {P : Program} {w : World} {K : Fg_} {mg : Str -> Option Value} {base : Heap}
theorem FunD.ok {x qual : Str} {st : Stmt} {f : Addr} {fd : FuncData} {N ps : List Str} {k : Nat} {sp : Sp} {dvs : List V} (F : FunD K x qual st f fd dvs) (S : FnScope N ps (defScope st)) (len : ∀ vs H Q E, sp vs H Q E -> vs.length = ps.length)
  (hbody : ∀ (cdv : Value) (A : Around) (outer : List Env) (s : Shared) (H : Hp) (vs : List V) (Q : VK) (E : XK), Room k (A.deeper (envOfC qual (defScope st) s.heap.objs.size f cdv)) -> sp vs H Q E ->
   ∃ t, PSs (cxOf CX0 P w K mg base N qual (defScope st) f cdv A outer s H E).nox (defBody st) t /\ t { nx := fun _ H' => Q .non H', rt := Q } (start N vs) H) : FnOk P w K mg base CX0 (k + 1) f fd ps sp := by
 obtain ⟨oc, od, Td, kV, doc, pm, an, cdv, ct, osl, ot, its, nt, rfl, lk, hcd, _⟩ := F.ex
 refine fn_of lk hcd S len fun A outer s H vs Q E hr hsp => ?_
 obtain ⟨t, h, q⟩ := hbody cdv A outer s H vs Q E hr hsp
 exact ⟨t, h.nox, q⟩
theorem FunD.okX {x qual : Str} {st : Stmt} {f : Addr} {fd : FuncData} {N ps : List Str} {k : Nat} {sp : Sp} {dvs : List V} (F : FunD K x qual st f fd dvs) (S : FnScope N ps (defScope st)) (len : ∀ vs H Q E, sp vs H Q E -> vs.length = ps.length)
  (hbody : ∀ (cdv : Value) (A : Around) (outer : List Env) (s : Shared) (H : Hp) (vs : List V) (Q : VK) (E : XK), Room k (A.deeper (envOfC qual (defScope st) s.heap.objs.size f cdv)) -> sp vs H Q E ->
   ∃ t, PSs (cxOf (CX1 P w) P w K mg base N qual (defScope st) f cdv A outer s H E) (defBody st) t /\ t { nx := fun _ H' => Q .non H', rt := Q } (start N vs) H) : FnOk P w K mg base (CX1 P w) (k + 1) f fd ps sp := by
 obtain ⟨oc, od, Td, kV, doc, pm, an, cdv, ct, osl, ot, its, nt, rfl, lk, hcd, _⟩ := F.ex
 exact fn_of lk hcd S len fun A outer s H vs Q E hr hsp => hbody cdv A outer s H vs Q E hr hsp
theorem FunD.binds {x qual : Str} {st : Stmt} {f : Addr} {fd : FuncData} {ps : List Str} {dvs : List V} (F : FunD K x qual st f fd dvs) (n : Nat)
  (h : ∀ (Td : Addr) (kV doc pm : Value) (an : Option Addr) (cdv ct : Value) (its us : List Value), its.length = dvs.length -> (us ++ its.drop n).length = ps.length ->
   ∃ k, bindArgs (PySem.W.fnOf x qual (defArgs st) (defBody st) (defScope st) (.ref Td) kV doc pm an cdv ct) ⟨us, []⟩ = (seqItems? (.ref Td) >>= k) /\ k (some its.toArray) = pure (ps.zip (us ++ its.drop n))) : ∃ ds, Binds K fd ps ds /\ Vals (dvs.drop n) ds := by
 obtain ⟨oc, od, Td, kV, doc, pm, an, cdv, ct, osl, ot, its, nt, rfl, lk, hcd, lt, hdt, hv⟩ := F.ex
 refine ⟨its.drop n, fun s us X hl => ?_, hv.drop n⟩
 obtain ⟨k, e1, e2⟩ := h Td kV doc pm an cdv ct its us hv.length.symm hl
 exact PySem.W.binds_K X rfl lt hdt e1 e2
theorem funD_mk {x qual : Str} {st : Stmt} {f Td : Addr} {oc : Value} {od an : Option Addr} {osl : Array (Option Value)} {kV doc pm cdv ct : Value} {dvs : List V} {ot : Obj} {its : List Value} {nt : Nat} (l : K.lookup f = some ⟨oc, od, .func (PySem.W.fnOf x qual (defArgs st) (defBody st) (defScope st) (.ref Td) kV doc pm an cdv ct), osl⟩)
  (c : PySem.W.codeIn K cdv qual = true) (k : PySem.W.keepIn K (.ref f) = true) (lt : K.lookup Td = some ot) (hd : ot.data = .seq its.toArray nt) (hv : Vals dvs its) : FunD K x qual st f (PySem.W.fnOf x qual (defArgs st) (defBody st) (defScope st) (.ref Td) kV doc pm an cdv ct) dvs :=
 ⟨⟨oc, od, Td, kV, doc, pm, an, cdv, ct, osl, ot, its, nt, rfl, l, c, lt, hd, hv⟩, k⟩
end
structure ClsFn (K : Fg_) (C : Addr) (m : Str) (f : Addr) : Prop where
 ga : PySem.W.specialIn K (.ref C) "__getattribute__" = some (some (.builtin "type.__getattribute__"))
 rd : PySem.W.readsIn K C (.type "type") = true
 fi : PySem.W.findCls K (.ref C) (.type "type") m = some (.val (.ref f))
section
variable {X : Cx} {CX : CXT} {k : Nat} {f C : Addr} {fd : FuncData} {ps ks : List Str} {sp : Sp} {dvs : List V} {ds : List Value} {E : XK} {x m : Str} {p pos apos : Pos} {e o : Expr} {es : List Expr} {ta : TE} {t tk : TA} {kws : List Keyword}
theorem pe_clsCall {pl : Sem Bool} (Z : ClsFn X.K C m f) (F : FnOk X.prog X.w X.K X.mg X.base CX k f fd ps sp) (hr : Room k X.A) (hg : Gl X x) (hm : X.mg x = some (.ref C)) (hk : PySem.W.keepIn X.K (.ref f) = true) (hb : Binds X.K fd ps ds) (hd : Vals dvs ds) (hx : Passes CX X E)
  (ha : PA X (e :: es) t) (hdb : (x == ("__debug__" : Str)) = false := by decide) (he : starEach (e :: es) X.env = (false, eval e X.env) :: starEach es X.env := by rfl) (hpl : (backTo pos (starEach es X.env)).any (·.1) = false := by rfl)
  (ht : eval (.Call (.Attribute (.Name x p) m apos) (e :: es) [] pos) X.env = (do
   let ov <- eval (.Name x p) X.env
   standAt apos.atName
   let (f, first) <- holding [ov] (getMethod ov m pl)
   callWith pos f first (backTo pos (starEach (e :: es) X.env)) (backToKw pos (keywordEach [] X.env))) := by rfl) :
  PE X (.Call (.Attribute (.Name x p) m apos) (e :: es) [] pos) (tCall sp dvs E t) := by
 intro pins s σ H Q I h
 refine PySem.W.methodCall_KW (pl := pl) (ld_glob I hg hm ?_ hdb) ht
 refine PySem.W.method_cls I.kIn Z.ga (PySem.W.cls_value I.kIn Z.rd Z.fi rfl ?_)
 have I' : Inv X pins σ H { s with toks := s.toks + 1 } := I.tok _
 refine PySem.W.callWith_K (first := []) (h₀ := X.base) I.ok.mod.kin hk (thn (ha pos pins _ σ H _ I' h) fun us s1 ⟨vs, H1, I1, r, q⟩ => ⟨I1.kIn, ?_⟩) he hpl
 exact run_fn F hr hb hd hx I1 r q
inductive MTab (X : Cx) (CX : CXT) (m : Str) : List (Addr × Sp) -> Prop
 | nil : MTab X CX m []
 | cons {C f : Addr} {fd : FuncData} {ps : List Str} {sp : Sp} {k : Nat} {r : List (Addr × Sp)} (c : Cls X.K C) (hm : Meth X.K C m f) (F : FnOk X.prog X.w X.K X.mg X.base CX k f fd ps sp) (hr : Room k X.A) (hb : Binds X.K fd ps []) (t : MTab X CX m r) : MTab X CX m ((C, sp) :: r)
theorem MTab.get {tab : List (Addr × Sp)} (T : MTab X CX m tab) {C : Addr} {sp : Sp} (h : (C, sp) ∈ tab) : ∃ f fd ps k, Cls X.K C /\ Meth X.K C m f /\ FnOk X.prog X.w X.K X.mg X.base CX k f fd ps sp /\ Room k X.A /\ Binds X.K fd ps [] := by
 induction T with
 | nil => cases h
 | cons c hm F hr hb t ih =>
  rcases List.mem_cons.mp h with z | z
  ·cases z
   exact ⟨_, _, _, _, c, hm, F, hr, hb⟩
  ·exact ih z
def tMethD (tab : List (Addr × Sp)) (m : Str) (E : XK) (ta : TE) (t : TA) : TE := fun σ H Q => ta σ H fun x H1 => ∃ a C dx fs sp, x = .ref a /\ H1 a = some (.ins C dx fs) /\ (C, sp) ∈ tab /\ fs.lookup m = none /\ t σ H1 fun vs H2 => sp (x :: vs) H2 Q E
theorem pe_methD0 {pl : Sem Bool} {tab : List (Addr × Sp)} (he : PE X o ta) (T : MTab X CX m tab) (hx : Passes CX X E)
  (ht : eval (.Call (.Attribute o m apos) [] [] pos) X.env = (do
   let ov <- eval o X.env
   standAt apos.atName
   let (f, first) <- holding [ov] (getMethod ov m pl)
   callWith pos f first (backTo pos (starEach [] X.env)) (backToKw pos (keywordEach [] X.env))) := by rfl) :
  PE X (.Call (.Attribute o m apos) [] [] pos) (tMethD tab m E ta tNil) := by
 intro pins s σ H Q I h
 refine PySem.W.methodCall_KW (pl := pl) (thn (he pins s σ H _ I h) fun u s1 ⟨y, H1, I1, rx, a, C, dx, fs, sp, ex, ea, hmem, l, q⟩ => ?_) ht
 subst ex
 obtain rfl : u = Value.ref a := rx
 obtain ⟨f, fd, ps, k, c, hm, F, hr, hb⟩ := T.get hmem
 refine getmeth_ok I1 ea c hm l ?_
 exact PySem.W.callWith_K0 (first := [.ref a]) I1.kIn hm.kp (run_fn (us := [.ref a]) (vs := [.ref a]) (dvs := []) (ds := []) F hr hb .nil hx I1 (.cons rfl .nil) q)
variable {g : List Value -> List Value -> List Value} {gV : List V -> List V -> List V}
end
theorem putF_new (f : Str) (v : V) : ∀ {fs : List (Str × V)}, (fs.map (·.1)).contains f = false -> putF f v fs = fs ++ [(f, v)]
 | [], _ => rfl
 | (g, x) :: r, h => by
  rw [List.map_cons, List.contains_cons] at h
  have h1 : ¬ g = f := fun e => by rw [e] at h; simp at h
  have h2 : (r.map (·.1)).contains f = false := (Bool.or_eq_false_iff.mp h).2
  show (if g = f then (g, v) :: r else (g, x) :: putF f v r) = _
  rw [if_neg h1, putF_new f v h2]
  rfl
structure InsTy (K : Fg_) (C : Addr) : Prop where
 cl : Cls K C
 ha : PySem.W.findIn K (.ref C) "__class__" = some (some (.builtin "object.__class__"))
 hn : PySem.W.specialIn K (.builtin "object.__class__") "__get__" = some (some (.builtin "getset_descriptor.__get__"))
 htk : PySem.W.takesIn K (.builtin "object.__class__") = some true
 hm : PySem.W.mroIn K C (.type "object") = some true
theorem InsTy.of {K : Fg_} {C a dx : Addr} {H : Hp} {fs : List (Str × V)} (z : InsTy K C) (h : H a = some (.ins C dx fs)) : TyOf K H (.ref a) (.ref C) := .ins h z.cl z.ha z.hn z.htk z.hm
end L2
namespace L2
open PySem PySem.Spec PyProof.Rows
def signs (x : Str) : List V := x.cps.toList.map fun c => V.str ⟨#[c]⟩
def Itst (x : Str) : It := ⟨fun i _ => i < x.cps.size, fun i H v H' => H' = H /\ (signs x)[i]? = some v, fun i _ => x.cps.size <= i⟩
theorem turn_str {P : Program} {w : World} {K : Fg_} {tg : Expr} {ty : String} (hty : ty = "str_ascii_iterator" \/ ty = "str_iterator") (it : Addr) (x : Str) (t : Tok) : Turn P w K tg (Itst x) [it] it (fun i h => h.IsStrIter it ty x t i) where
 mem := by simp
 obj := fun i h st b hb => by
  have e : b = it := by simpa using hb
  subst e
  obtain ⟨o, e, c, d⟩ := st
  exact ⟨o, e, fun v z => by rw [d] at z; cases z⟩
 keep := fun i h h' st k => by
  obtain ⟨o, e, r⟩ := st
  exact ⟨o, k it (by simp) o e, r⟩
 item := by
  intro X hP hw hK hc i pins s σ H E I hf st hg
  subst hP hw hK
  have hi : i < x.cps.size := hg
  have hx : x.cps[i]? = some x.cps[i] := Array.getElem?_eq_getElem hi
  have hs : (signs x)[i]? = some (.str ⟨#[x.cps[i]]⟩) := by
   unfold signs
   rw [List.getElem?_map, Array.getElem?_toList, hx]
   rfl
  rcases hty with rfl | rfl
  ·refine wpAny_pyNext_ascii_item st hx fun h' st' sb => ?_
   obtain ⟨o, e, c, d⟩ := id st'
   exact ⟨_, rfl, go_of (s := { s with heap := h', toks := s.toks + 1 }) e c d (by decide) ⟨.str ⟨#[x.cps[i]]⟩, H, I.turnedN hf fun b o hb q => (sb.2 b (by simpa using hb)).trans q, ⟨_, rfl⟩, ⟨rfl, hs⟩, st', fun b hb => (hf b hb).1⟩⟩
  ·refine wpAny_pyNext_wide_item st hx fun h' st' sb => ?_
   obtain ⟨o, e, c, d⟩ := id st'
   exact ⟨_, rfl, go_of (s := { s with heap := h', toks := s.toks + 1 }) e c d (by decide) ⟨.str ⟨#[x.cps[i]]⟩, H, I.turnedN hf fun b o hb q => (sb.2 b (by simpa using hb)).trans q, ⟨_, rfl⟩, ⟨rfl, hs⟩, st', fun b hb => (hf b hb).1⟩⟩
 done := by
  intro X hP hw hK hc i pins s σ H E I hf st hg
  subst hP hw hK
  have hx : x.cps[i]? = none := Array.getElem?_eq_none hg
  rcases hty with rfl | rfl
  ·exact wpAny_pyNext_ascii_end (I.ok.hd hc) st hx fun h' eb => ⟨rfl, I.turnedN (t' := s.toks) hf fun b o hb q => eb b o (by simpa using hb) q⟩
  ·exact wpAny_pyNext_wide_end (I.ok.hd hc) st hx fun h' eb => ⟨rfl, I.turnedN (t' := s.toks) hf fun b o hb q => eb b o (by simpa using hb) q⟩
 self := fun _ _ _ _ _ st h => by
  rcases hty with rfl | rfl
  ·exact wpAny_pyIter_striter_ascii st h
  ·exact wpAny_pyIter_striter_wide st h
section
variable {X : Cx} {K : Fg_} {tg : Expr}
def iStr (tl : TE) : TI := fun σ H R => tl σ H fun x H1 => ∃ z, x = .str z /\ R (Itst z) H1
theorem pi_str {l : Expr} {tl : TE} (hl : PE X l tl) : PI X tg l (iStr tl) := by
 intro pins s σ H R I h
 refine thn (hl pins s σ H _ I h) fun v s1 ⟨x, H1, I1, r1, q1⟩ => ?_
 obtain ⟨z, e, q⟩ := q1
 subst e
 obtain ⟨t, rfl⟩ := r1
 have fin : ∀ (ty : String) (hty : ty = "str_ascii_iterator" \/ ty = "str_iterator"), PIE X pins σ tg R (.ref s1.heap.objs.size) { s1 with heap := s1.heap.push { cls := .type ty, data := .fields #[.str z t, .int 0 0] } } := fun ty hty => by
  refine ⟨s1.heap.objs.size, [s1.heap.objs.size], _, _, H1, rfl, I1.kept (t' := s1.toks) fun b o e => Heap.get?_push_of_some _ e, turn_str hty _ z t, ⟨_, Heap.get?_push_size _ rfl, rfl, rfl⟩, fun b hb => ?_, q⟩
  have e : b = s1.heap.objs.size := by simpa using hb
  subst e
  exact I1.fpOk (Nat.le_refl _) (I1.hok.fresh (Nat.le_refl _))
 cases ha : z.cps.all (· < 128)
 ·exact wpAny_pyIter_wide ha (fin _ (.inr rfl))
 ·exact wpAny_pyIter_ascii ha (fin _ (.inl rfl))
variable {σ : St} {H : Hp} {R : It -> Hp -> Prop} {tl : TE} {cap : List (Option Nat)} {g : TG} {tt : TT} {te : TE} {Q : VK} {x : Str}
theorem ap_iStr : iStr tl σ H R = tl σ H fun x H1 => ∃ z, x = .str z /\ R (Itst z) H1 := rfl
theorem CompP.str (Sσ : St -> Prop) (p : V -> Bool) (F : V -> V) (h0 : Sσ (capSt σ cap)) (hz : x.cps.size <= sizeLine)
  (hs : ∀ y ∈ signs x, ∀ (σ : St) (H5 : Hp) (R1 : St -> VK) (R2 : St -> Hp -> Prop), Sσ σ -> Same H H5 -> (p y = true -> ∀ σ4 H6, Sσ σ4 -> Same H5 H6 -> R1 σ4 (F y) H6) -> (p y = false -> ∀ σ4 H6, Sσ σ4 -> Same H5 H6 -> R2 σ4 H6) ->
   g y σ H5 fun σ4 H4 => tt σ4 H4 fun b H5 => if b = true then te σ4 H5 (R1 σ4) else R2 σ4 H5)
  (k : ∀ D H', H D = Option.none -> Same H H' -> H' D = some (.lst (((signs x).filter p).map F)) -> Q (.ref D) H') : CompP cap (Itst x) g tt te σ H Q := fun D hD => by
 have hl : (signs x).length = x.cps.size := by simp [signs]
 refine comp_step (xs := signs x) (Itst x) Sσ p F hD h0 (by omega) (fun i y H' hy sm => ?_) (fun H' sm => ?_) hs fun H' s e => k D H' hD s e
 ·have hi : i < (signs x).length := (List.getElem?_eq_some_iff.mp hy).1
  exact ⟨by show i < x.cps.size; omega, fun z H2 hz => ⟨Option.some.inj (hz.2.symm.trans hy), hz.1⟩⟩
 ·show x.cps.size <= _
  omega
def rLeS : R2 := fun x y H Q => ∃ i j, x = .str i /\ y = .str j /\ Q (.bl (!decide (j.cps.toList < i.cps.toList))) H
theorem op_le_str : OpR X (compareOp .LtE) rLeS := by
 intro pins s σ H x y v u Q I rx ry h
 obtain ⟨i, j, rfl, rfl, q⟩ := h
 obtain ⟨t, rfl⟩ := rx
 obtain ⟨t', rfl⟩ := ry
 exact PySem.P.le_str ⟨.bl _, H, I, rfl, q⟩
def rInD (neg : Bool) : R2 := fun y x H Q => ∃ a o, x = .ref a /\ DGet H a y o /\ Q (.bl (if neg then !o.isSome else o.isSome)) H
theorem op_inDict (hu : X.A.units + 1 < cLine) : OpR X (compareOp .In) (rInD false) := by
 intro pins s σ H y x v u Q I ry rx h
 obtain ⟨a, o, rfl, g, q⟩ := h
 cases rx
 exact d_in hu I g ry fun s' I' => ⟨.bl _, H, I', rfl, q⟩
theorem ps_fldK {o value : Expr} {f : Str} {ta tv : TE} {pos pos' : Pos} (ha : PE X o ta) (hv : PE X value tv) (hs : swapsWith value (some (.Attribute o f pos')) pos.line X.env = pure false) (hK : X.K = K := by rfl) : PS X (.Assign [.Attribute o f pos'] value pos) (sFld K ta tv f) := hK ▸ ps_fld ha hv hs
variable {ta tv ty td tx : TE} {f : Str} {D : Ends} {C : Addr} {tab : List (Addr × Sp)} {m : Str} {E : XK} {t tk : TA} {sp : Sp} {dvs : List V} {gV : List V -> List V -> List V}
theorem ap_fldK : tFld K ta f σ H Q = ta σ H fun x H1 => ∃ a C dx fs v, x = .ref a /\ H1 a = some (.ins C dx fs) /\ Cls K C /\ NoAttr K C f /\ fs.lookup f = some v /\ Q v H1 := rfl
theorem ap_sFld : sFld K ta tv f D σ H = tv σ H fun y H1 => ta σ H1 fun x H2 => ∃ a C dx fs, x = .ref a /\ H2 a = some (.ins C dx fs) /\ Cls K C /\ NoAttr K C f /\ fs.length < 1000 /\ D.nx σ (upd H2 a (.ins C dx (putF f y fs))) := rfl
theorem ap_methD : tMethD tab m E ta t σ H Q = ta σ H fun x H1 => ∃ a C dx fs sp, x = .ref a /\ H1 a = some (.ins C dx fs) /\ (C, sp) ∈ tab /\ fs.lookup m = none /\ t σ H1 fun vs H2 => sp (x :: vs) H2 Q E := rfl
theorem ap_make : tMake C sp dvs E t σ H Q = t σ H fun vs H1 => ∀ x dx, H1 x = none -> H1 dx = none -> dx ≠ x -> sp (.ref x :: (vs ++ dvs)) (upd (upd H1 dx (.own x)) x (.ins C dx [])) (fun v H2 => v = .non /\ Q (.ref x) H2) E := rfl
theorem ap_dget : tDGet td ty σ H Q = td σ H fun x H1 => ty σ H1 fun y H2 => ∃ a v, x = .ref a /\ DGet H2 a y (some v) /\ Q v H2 := rfl
theorem ap_dput : sDPut td ty tv D σ H = tv σ H fun v H1 => td σ H1 fun x H2 => ty σ H2 fun y H3 => ∃ a H4, x = .ref a /\ DPut H3 a y v H4 /\ D.nx σ H4 := rfl
theorem ap_dnewK : tDNewK σ H Q = ∀ p, H p = none -> Q (.ref p) (upd H p (.dK [])) := rfl
theorem ap_inD {neg : Bool} {x y : V} : rInD neg y x H Q = ∃ a o, x = .ref a /\ DGet H a y o /\ Q (.bl (if neg then !o.isSome else o.isSome)) H := rfl
theorem ap_leS {i j : Str} : rLeS (.str i) (.str j) H Q = Q (.bl (!decide (j.cps.toList < i.cps.toList))) H := propext ⟨fun ⟨i', j', e1, e2, q⟩ => by cases e1; cases e2; exact q, fun q => ⟨i, j, rfl, rfl, q⟩⟩
theorem ap_ixT {x y : V} : rIxT K x y H Q = ∃ p xs i v, x = .ref p /\ y = .int i /\ SqT K H p xs /\ atI xs i = some v /\ Q v H := rfl
theorem ap_slT {x : V} {lo hi : Option Int} : rSlT K x lo hi H Q = ∃ a xs, x = .ref a /\ SqT K H a xs /\ ¬ (HT.sIx xs.length 0 lo = 0 /\ HT.sIx xs.length xs.length hi = xs.length) /\ ∀ p, H p = none -> Q (.ref p) (upd H p (.tup (cutV xs lo hi))) := rfl
theorem ap_rTupOf {p : Addr} : rTupOf K [.ref p] H Q = ∃ ys, ((SqL K H p ys /\ ∀ l, H l = none -> Q (.ref l) (upd H l (.tup ys))) \/ (SqT K H p ys /\ Q (.ref p) H)) := by simp [rTupOf]
theorem ap_rIn {neg : Bool} {x y : V} : rIn K neg x y H Q = ∃ p xs, y = .ref p /\ (SqL K H p xs \/ SqT K H p xs) /\ flatV x = true /\ xs.all flatV = true /\ Q (.bl (if neg then !inV x xs else inV x xs)) H := rfl
theorem ap_lenS {z : Str} : (fun (xs : List V) (H : Hp) (Q : VK) => ∃ z, xs = [V.str z] /\ z.length <= sizeLine /\ Q (.int z.length) H) [.str z] H Q = (z.length <= sizeLine /\ Q (.int z.length) H) := propext ⟨fun ⟨z', e, r⟩ => by cases e; exact r, fun r => ⟨z, rfl, r⟩⟩
end
end L2
namespace L2
open PySem PySem.W PySem.Spec PyProof.Rows
def But (D : Addr) (H H' : Hp) : Prop := ∀ b u, b ≠ D -> H b = some u -> H' b = some u
section
variable {K : Fg_} {a : Addr} {xs : List V} {g : TG} {te : TE} {σ : St} {H : Hp} {Q : VK} {cap : List (Option Nat)}
theorem CompP.listE (Sσ : St -> Prop) (F : Nat -> V -> Hp -> Prop) (hS : SqL K H a xs) (h0 : Sσ (capSt σ cap)) (hz : xs.length <= sizeLine)
  (hs : ∀ D i x, xs[i]? = some x -> ∀ (σ : St) (H5 : Hp) (R : St -> VK), Sσ σ -> Same H H5 -> H D = Option.none -> (∃ acc, H5 D = some (.lst acc)) -> (∀ v σ4 H6, Sσ σ4 -> Same H5 H6 -> (∀ H', But D H6 H' -> F i v H') -> R σ4 v H6) ->
   g x σ H5 fun σ4 H4 => te σ4 H4 (R σ4))
  (k : ∀ D H' acc, H D = Option.none -> Same H H' -> H' D = some (.lst acc) -> acc.length = xs.length -> (∀ i v, acc[i]? = some v -> F i v H') -> Q (.ref D) H') : CompP cap (Itl K a) g tNoIf te σ H Q := by
 intro D hD
 refine ⟨fun i m acc σ H2 => m = xs.length - i /\ i <= xs.length /\ Sσ σ /\ Same H H2 /\ acc.length = i /\ ∀ j v, acc[j]? = some v -> ∀ H', But D H2 H' -> F j v H', ⟨xs.length, rfl, Nat.zero_le _, h0, Same.new hD, rfl, fun j v e => by simp at e⟩, ?_⟩
 rintro i m acc σ1 H2 ⟨rfl, hi, hσ, sm, hal, hF⟩ hA
 by_cases hlt : i < xs.length
 ·have hx : xs[i]? = some xs[i] := by simp [hlt]
  refine .inr ⟨⟨xs, xs[i], sm.seq hS, hx⟩, fun y H3 hy => ?_⟩
  obtain rfl : H3 = H2 := hy.1
  obtain rfl : y = xs[i] := Option.some.inj ((hy.2 xs (sm.seq hS)).symm.trans hx)
  simp only [ap_noIf, if_true]
  refine hs D i _ hx σ1 H3 _ hσ sm hD ⟨_, hA⟩ fun v σ4 H6 hσ4 s6 hF6 => ?_
  have hA6 := s6 _ _ hA
  refine ⟨acc, hA6, by omega, xs.length - (i + 1), by omega, rfl, hlt, hσ4, (sm.trans s6).upd hD, by rw [List.length_append, hal]; rfl, fun j u hj H' hb => ?_⟩
  have hb6 : But D H6 H' := fun b o hne e => hb b o hne ((upd_ne hne).trans e)
  by_cases hjl : j < acc.length
  ·rw [List.getElem?_append_left hjl] at hj
   exact hF j u hj H' fun b o hne e => hb6 b o hne (s6 _ _ e)
  ·rw [List.getElem?_append_right (by omega)] at hj
   have hj0 : j - acc.length = 0 := by
    have := (List.getElem?_eq_some_iff.mp hj).1
    simp at this
    omega
   rw [hj0] at hj
   cases hj
   obtain rfl : j = i := by omega
   exact hF6 H' hb6
 ·obtain rfl : i = xs.length := by omega
  exact .inl ⟨⟨xs, sm.seq hS, Nat.le_refl _⟩, k D H2 acc hD sm hA hal fun j v e => hF j v e H2 fun b o _ e => e⟩
end
end L2
namespace L2
open PySem PySem.Spec PyProof.Rows
structure Mk0 (K : Fg_) (C : Addr) : Prop where
 makes : PySem.W.makesIn K C = true
 init : PySem.W.findIn K (.ref C) "__init__" = some (some (.builtin "object.__init__"))
 kp : PySem.W.keepIn K (.ref C) = true
end L2
namespace PySem
open PySem.Spec PyProof.Rows
end PySem
namespace L2
open PySem PySem.W PySem.Spec PySem.Calls PyProof.Rows
def SameX (Pt : Addr) (H H' : Hp) : Prop := ∀ b o, b ≠ Pt -> H b = some o -> H' b = some o
theorem SameX.of {Pt : Addr} {H H' : Hp} (h : Same H H') : SameX Pt H H' := fun b o _ e => h b o e
theorem SameX.trans {Pt : Addr} {H H1 H2 : Hp} (h : SameX Pt H H1) (k : SameX Pt H1 H2) : SameX Pt H H2 := fun b o n e => k b o n (h b o n e)
end L2
namespace L2
open PySem PySem.W PySem.Spec PySem.Calls PyProof.Rows
structure Apart3 (z TI TO i1 i2 i3 l1 l2 l3 : Addr) : Prop where
 zz : TI ≠ z /\ TO ≠ z /\ i1 ≠ z /\ i2 ≠ z /\ i3 ≠ z /\ l1 ≠ z /\ l2 ≠ z /\ l3 ≠ z
 to : TI ≠ TO /\ i1 ≠ TO /\ i2 ≠ TO /\ i3 ≠ TO /\ l1 ≠ TO /\ l2 ≠ TO /\ l3 ≠ TO
 ii : i1 ≠ i2 /\ i1 ≠ i3 /\ i2 ≠ i3
 j1 : TI ≠ i1 /\ l1 ≠ i1 /\ l2 ≠ i1 /\ l3 ≠ i1
 j2 : TI ≠ i2 /\ l1 ≠ i2 /\ l2 ≠ i2 /\ l3 ≠ i2
 j3 : TI ≠ i3 /\ l1 ≠ i3 /\ l2 ≠ i3 /\ l3 ≠ i3
end L2
namespace L2
open PySem PySem.W PySem.Spec PySem.Calls PyProof.Rows
theorem kV_rel {P : Program} {w : World} {k : Key} {u : Value} (h : (mixKind P w).is k u = true) : RelV (kV k) u := by
 rcases keyIs_shape h with ⟨i, t, rfl, rfl⟩ | ⟨x, t, rfl, rfl⟩
 ·exact ⟨t, rfl⟩
 ·exact ⟨t, rfl⟩
end L2
namespace L2
open PySem PySem.Spec PyProof.Rows
section
variable {prog : Program} {w : World} {A : Around} {E : Value -> Shared -> Prop} {h : Heap} {g : Array GenState} {d : Drawn} {t : Nat} {os : OsState} {a : Addr} {o : Obj}
 {nm q : Str} {C N : Addr} {bs bm bmB : List Value} {hdct : Bool} {sn : List Str} {sub : List Value} {ab : Bool} {col : Option Bool} {dd : Option Addr} {k0 k1 k2 k3 k5 : Option Value} {B newId initId : String} {K : Fg_}
end
end L2
namespace L2
open PySem PySem.Spec PyProof.Rows
structure XClsI (K : Fg_) (C fI : Addr) : Prop where
 ex : ∃ (nm qn : Str) (N : Addr) (bs bm : List Value) (sn : List Str) (sub : List Value) (ab : Bool) (col : Option Bool) (dd : Option Addr) (k0 k1 k2 k3 k5 : Option Value), K.lookup C = some (excClassObj nm qn C N bs bm true sn sub ab col dd k0 k1 k2 k3 k5 "ValueError.__new__") /\ PySem.W.tailIn K [.type "ValueError", .type "Exception", .type "BaseException", .type "object"] bm = true
 ini : PySem.W.findIn K (.ref C) "__init__" = some (some (.ref fI))
 fn : PySem.W.isFn K (.ref fI) = true
 sa : PySem.W.findIn K (.ref C) "__setattr__" = some (some (.builtin "object.__setattr__"))
 kp : PySem.W.keepIn K (.ref C) = true
def del (H : Hp) (a : Addr) : Hp := fun b => if b = a then none else H b
section
variable {X : Cx} {CX : CXT} {k : Nat} {f C : Addr} {fd : FuncData} {ps ks : List Str} {sp : Sp} {dvs : List V} {ds : List Value} {E : XK} {x m fn : Str} {p np cpos pos apos : Pos} {e o : Expr} {es : List Expr} {ta tv : TE} {t tk : TA}
structure XIni (K : Fg_) (B : Addr) : Prop where
 ga : PySem.W.specialIn K (.ref B) "__getattribute__" = some (some (.builtin "type.__getattribute__"))
 rd : PySem.W.readsIn K B (.type "type") = true
 fi : PySem.W.findCls K (.ref B) (.type "type") "__init__" = some (.val (.builtin "ValueError.__init__"))
def tFI (t : TE) : TE := fun σ H Q => t σ H fun v H1 => ∃ i : Int, v = .int i /\ i.natAbs < 2 ^ 300 /\ ∀ z : Str, z.length <= 10000 -> Q (.str z) H1
theorem int_text_len {i : Int} (h : i.natAbs < 2 ^ 300) : (Str.ofString (toString i)).length <= 400 := by
 have hn : i.natAbs.repr.length <= 300 := nat_repr_length_le (by decide) h
 have hl : ∀ s : String, (Str.ofString s).length = s.length := fun s => PySem.ofString_length s
 rw [hl]
 cases i with
 | ofNat n =>
  have : (toString (Int.ofNat n)) = n.repr := rfl
  rw [this]
  have hn : n.repr.length <= 300 := hn
  omega
 | negSucc n =>
  have : (toString (Int.negSucc n)) = "-" ++ (n + 1).repr := rfl
  rw [this, String.length_append]
  have hn : (n + 1).repr.length <= 300 := hn
  have : "-".length = 1 := rfl
  omega
theorem pe_fstrI3 {y z : Str} {j1 j2 : Nat} {p1 p2 p3 : Pos} {te : TE} (he : PE X e te) (h1 : y.length <= 1000 := by decide +kernel) (h2 : z.length <= 1000 := by decide +kernel) : PE X (.JoinedStr [.Constant (.str y) j1 p1, .FormattedValue e (-1) none p2, .Constant (.str z) j2 p3] pos) (tFI te) := by
 intro pins s σ H Q I h
 have e0 : ∀ z : Str, (Str.empty ++ z) = z := fun z => by
  show Str.mk (#[] ++ z.cps) = z
  rw [Array.empty_append]
 have la : ∀ y z : Str, (y ++ z).length = y.length + z.length := fun y z => by
  show (y.cps ++ z.cps).size = _
  rw [Array.size_append]; rfl
 refine wpAny_JoinedStr (Joins_cons (Calls.Constant_str ⟨y, _, rfl, ?_, Joins_cons (wpAny_FormattedValue_plain ?_)⟩))
 ·rw [e0, sizeLine_eq]; omega
 ·rw [e0]
  refine thn (he pins _ σ H _ (I.tok _) h) fun v s1 ⟨w, H1, I1, r1, i, ei, hi, q⟩ => ?_
  subst ei
  obtain ⟨t1, rfl⟩ := r1
  have hl := int_text_len hi
  have hlog : i.natAbs.log2 < 1920 := by
   by_cases h0 : i.natAbs = 0
   ·rw [h0]; decide
   ·have := (Nat.log2_lt h0 (k := 300)).mpr hi
    omega
  refine wpAny_formatField_int hlog ⟨_, _, rfl, by rw [la, sizeLine_eq]; omega, Joins_cons (Calls.Constant_str ⟨z, _, rfl, by rw [la, la, sizeLine_eq]; omega, Joins_nil ⟨by rw [la, la, sizeLine_eq]; omega, .str _, H1, I1.tok _, ⟨_, rfl⟩, q _ (by rw [la, la]; omega)⟩⟩)⟩
end
section
variable {X : Cx} {K : Fg_} {C : Addr} {sp : Sp} {dvs : List V} {E : XK} {x fn : Str} {p pos apos pos' : Pos} {e o value : Expr} {es : List Expr} {ta tv : TE} {t : TA} {σ : St} {H : Hp} {Q : VK} {D : Ends} {te : TX} {i : Nat} {ts : TS} {ea pa : Addr} {c : V}
theorem ap_FI : tFI ta σ H Q = ta σ H fun v H1 => ∃ i : Int, v = .int i /\ i.natAbs < 2 ^ 300 /\ ∀ z : Str, z.length <= 10000 -> Q (.str z) H1 := rfl
end
end L2
namespace L2
open PySem PySem.W PySem.Spec PyProof.Rows
section
variable {prog : Program} {w : World} {A : Around} {E : Value -> Shared -> Prop} {s : Shared} {T : String} {r d : Addr} {n : Nat} {P : Nat -> Value -> Prop} {OK : Heap -> Prop}
theorem coll_new {R : List Value -> Shared -> Prop} (S : KdlSrc prog w T r d n P OK) (hh : A.handled = none) (hok : OK s.heap) (hn : n <= sizeLine)
  (h : ∀ (h' : Heap) (tk : Nat) (acc : Array Value), (∀ b o, s.heap.get? b = some o -> h'.get? b = some o) -> s.heap.objs.size < h'.objs.size -> ItemsOf P acc n -> R acc.toList { s with heap := h', toks := tk }) :
  wpAny (model prog w) A (collect (.ref r)) R E s := by
 obtain ⟨t1, t2⟩ := S.there _ hok
 have g0 : (s.heap.push { cls := .type "list", data := .seq ([] : List Value).toArray }).get? s.heap.objs.size = some { cls := .type "list", data := .seq #[] } := Heap.get?_push_size _ rfl
 have key : ∀ (q : Value -> Sem (List Value)), (∀ (s' : Shared), (∃ h' tk acc c, s' = { s with heap := h', toks := tk } /\ (∀ b o, s.heap.get? b = some o -> h'.get? b = some o) /\ h'.get? s.heap.objs.size = some { cls := .type "list", dict := none, data := .seq acc c, slots := #[] } /\ ItemsOf P acc n) -> wpAny (model prog w) A (q (.ref s.heap.objs.size)) R E s') ->
   wpAny (model prog w) A (runValue (.builtin "proto.collect" ⟨[.ref r], []⟩) >>= q) R E s := fun q hq => by
  refine wpAny_bind (wpAny_runValue (codeAny_builtin entry_proto_collect' ?_))
  rw [Around.under_plainId PySem.F.plain_proto_collect _]
  refine wpAny_bind (m := newList []) (wpAny_newObj_type (wpAny_pure ⟨plainId_quiet PySem.F.plain_list_iadd _, codeAny_builtin entry_list_iadd' ?_⟩))
  rw [Around.under_plainId PySem.F.plain_list_iadd _]
  refine wpAny_mono (kdl_extend (A := A) (s := { s with heap := s.heap.push { cls := .type "list", data := .seq ([] : List Value).toArray } })
   (R := fun (z : Result) (s' : Shared) => z = .ok (.ret (.ref s.heap.objs.size)) /\ ∃ h' tk acc c, s' = { s with heap := h', toks := tk } /\ (∀ b o, s.heap.get? b = some o -> h'.get? b = some o) /\ h'.get? s.heap.objs.size = some { cls := .type "list", dict := none, data := .seq acc c, slots := #[] } /\ ItemsOf P acc n)
   S hh (S.keep _ _ hok fun b _ o e => Heap.get?_push_of_some _ e) s.heap.objs.size (Nat.ne_of_gt t1) (Nat.ne_of_gt t2) (.ref s.heap.objs.size) 0 g0
   (fun h' tk acc c k1 k2 k3 => ⟨rfl, h', tk, acc, c, rfl, fun b o e => k1 b o (Nat.ne_of_lt (Heap.lt_size e)) (Heap.get?_push_of_some _ e), k2, k3⟩) hn) (fun fin s' x => ?_) fun e s' x => ?_
  ·cases fin with
   | done f =>
    obtain ⟨e, x⟩ := x
    cases e
    exact hq s' x
   | again c => exact ⟨x.1, codeAny_mono x.2 fun z s2 ⟨e, y⟩ => by subst e; exact hq s2 y⟩
  ·cases x.1
 unfold collect
 refine key _ fun s' ⟨h', tk, acc, c, e, k1, k2, k3⟩ => ?_
 subst e
 refine wpAny_bind (m := load s.heap.objs.size) (wpAny_load k2 (wpAny_pure (h h' tk acc k1 (Heap.lt_size k2) k3)))
end
end L2
namespace L2
open PySem PySem.W PySem.Spec PySem.Calls PyProof.Rows
section
variable {X : Cx} {pos : Pos} {e f : Expr}
def strI (i : Int) : Str := Str.ofString (toString i)
theorem strI_len {i : Int} (h : i.natAbs < 2 ^ 300) : (strI i).length <= 400 := int_text_len h
theorem log_of {i : Int} (hi : i.natAbs < 2 ^ 300) : i.natAbs.log2 < 1920 := by
 by_cases h0 : i.natAbs = 0
 ·rw [h0]; decide
 ·have := (Nat.log2_lt h0 (k := 300)).mpr hi
  omega
end
end L2
namespace L2
open PySem PySem.W PySem.Spec PyProof.Rows
section
variable {X : Cx}
def rSortDI : List V -> Hp -> VK -> Prop := fun xs H Q => ∃ (a : Addr) (kvs : List (Int × V)), xs = [.ref a] /\ H a = some (.dK (kvs.map fun kv => (Sum.inl kv.1, kv.2))) /\ kvs.length < 60 /\
 ∀ p (ms : List Int), H p = none -> ms.Perm (kvs.map (·.1)) -> (ms.Pairwise fun x y => x <= y) -> Q (.ref p) (upd H p (.lst (ms.map V.int)))
theorem call_sortDI (hc : X.calm = true) : CallR X (.builtin "sorted") rSortDI := by
 intro pins s σ H xs us Q I r h
 obtain ⟨a, kvs, rfl, hq, hlen, q⟩ := h
 obtain ⟨u, rfl, rx⟩ := vals1 r
 cases rx
 obtain ⟨z, hsys, vs, rel, o, es, ep, q1, q2, q3, q4⟩ := (show ObjOk X.prog X.w H s.heap a (.dK (kvs.map fun kv => (Sum.inl kv.1, kv.2))) from I.hok a _ hq)
 have hvl : kvs.length = vs.length := by have := Paired.length rel; rw [List.length_map] at this; exact this
 have hkeys : (kvs.map fun kv => (Sum.inl kv.1 : Key)) = vs.map (·.1) := by
  have := KV.keys rel
  rw [List.map_map] at this
  exact this
 have hat : s.heap.DictAt (mixKind X.prog X.w) a vs ep := ⟨o, es, q1, q2, q3, q4⟩
 refine Calls.call_function_entry kind_sorted plain_sorted entry_sorted (args_sorted1 _) ?_
 unfold Builtin.«sorted»
 refine wpAny_bind (m := checkCount "sorted" 1 1 _) (wpAny_pure ?_)
 refine wpAny_bind (coll_new (A := X.A.in1) (kdl_dict (knd := mixKind X.prog X.w) (kvs := vs) (ep := ep) hsys) (I.ok.hd hc) hat (by rw [<- hvl, sizeLine_eq]; omega) fun h' tk acc hk hsz hacc => ?_)
 have hl : acc.toList.length = kvs.length := by rw [Array.length_toList, hacc.1, hvl]
 have hS : IntsAre acc.toList (kvs.map (·.1)) := by
  have main : ∀ (l : List Value) (ks : List Int), l.length = ks.length -> (∀ (i : Nat) v x, l[i]? = some v -> ks[i]? = some x -> ∃ t, v = .int x t) -> IntsAre l ks := by
   intro l
   induction l with
   | nil => intro ks h1 _; cases ks with
    | nil => exact .nil
    | cons _ _ => simp at h1
   | cons v l ih => intro ks h1 h2; cases ks with
    | nil => simp at h1
    | cons x ks =>
     obtain ⟨t, rfl⟩ := h2 0 v x rfl rfl
     exact .cons x t (ih ks (by simpa using h1) fun i v' x' e1 e2 => h2 (i + 1) v' x' e1 e2)
  refine main _ _ (by rw [hl, List.length_map]) fun i v x e1 e2 => ?_
  obtain ⟨k, y, g1, g2⟩ := hacc.2 i v (by rw [<- Array.getElem?_toList]; exact e1)
  have e3 : (vs.map (·.1))[i]? = some k := by rw [List.getElem?_map, g1]; rfl
  have e4 : (kvs.map fun kv => (Sum.inl kv.1 : Key))[i]? = some (Sum.inl x) := by
   rw [List.getElem?_map] at e2 ⊢
   cases e : kvs[i]? with
   | none => rw [e] at e2; cases e2
   | some q => rw [e] at e2; cases e2; rfl
  rw [hkeys, e3] at e4
  cases Option.some.inj e4
  have := kV_rel (k := (Sum.inl x : Key)) g2
  obtain ⟨t, e⟩ := (show RelV (.int x) v from this)
  exact ⟨t, e⟩
 refine wpAny_bind (wpAny_newList ?_ (by rw [hl, sizeLine_eq]; omega))
 have hoL : (h'.push (seqObj "list" acc.toList.toArray 0)).get? h'.objs.size = some (seqObj "list" acc.toList.toArray 0) := Heap.get?_push_size _ rfl
 refine wpAny_bind (wpAny_holding (wpAny_call_entry slot_list_sort ⟨_, hoL, rfl⟩ entry_list_sort (list_sort_tree hoL hS (by omega) fun out ms h1 h2 h3 => ⟨_, rfl, ?_⟩) (args_list_sort _)))
 obtain ⟨c, hc'⟩ := sortedHeap_at (out := out) hoL
 refine wpAny_pure ⟨_, rfl, .ref h'.objs.size, _, I.laid (t' := tk) (o := .lst (ms.map V.int)) (fun b o' e => ?_) (Nat.le_of_lt hsz) ?_, rfl, q _ _ (I.hok.fresh (Nat.le_of_lt hsz)) h2 h3⟩
 ·have hlt := Heap.lt_size (hk b o' e)
  rw [sortedHeap_old (Nat.ne_of_lt hlt) (by rw [size_push']; exact Nat.lt_succ_of_lt hlt)]
  exact Heap.get?_push_of_some _ (hk b o' e)
 ·exact ⟨by rw [List.length_map, h2.length_eq, List.length_map, sizeLine_eq]; omega, _, c, vals_ints h1, by rw [Array.toArray_toList]; exact hc'⟩
theorem ap_rSortDI {a : Addr} {H : Hp} {Q : VK} : rSortDI [.ref a] H Q = ∃ (kvs : List (Int × V)), H a = some (.dK (kvs.map fun kv => (Sum.inl kv.1, kv.2))) /\ kvs.length < 60 /\
 ∀ p (ms : List Int), H p = none -> ms.Perm (kvs.map (·.1)) -> (ms.Pairwise fun x y => x <= y) -> Q (.ref p) (upd H p (.lst (ms.map V.int))) := by simp [rSortDI]
def tFTI (te tf : TE) : TE := fun σ H Q => te σ H fun v H1 => ∃ x : Str, v = .str x /\ x.length <= 1000 /\ tf σ H1 fun u H2 => ∃ i : Int, u = .int i /\ i.natAbs < 2 ^ 300 /\ ∀ z, Q (.str z) H2
def tFTII (te tf tg : TE) : TE := fun σ H Q => te σ H fun v H1 => ∃ x : Str, v = .str x /\ x.length <= 1000 /\ tf σ H1 fun u H2 => ∃ i : Int, u = .int i /\ i.natAbs < 2 ^ 300 /\ tg σ H2 fun u H3 => ∃ j : Int, u = .int j /\ j.natAbs < 2 ^ 300 /\ ∀ z, Q (.str z) H3
variable {e f g : Expr} {pos : Pos}
theorem e0' (z : Str) : (Str.empty ++ z) = z := by
 show Str.mk (#[] ++ z.cps) = z
 rw [Array.empty_append]
theorem la' (y z : Str) : (y ++ z).length = y.length + z.length := by
 show (y.cps ++ z.cps).size = _
 rw [Array.size_append]; rfl
theorem pe_fstrTI {y z : Str} {j1 j2 : Nat} {p1 p2 p3 p4 : Pos} {te tf : TE} (he : PE X e te) (hf : PE X f tf) (h1 : y.length <= 1000 := by decide +kernel) (h2 : z.length <= 1000 := by decide +kernel) :
  PE X (.JoinedStr [.FormattedValue e (-1) none p1, .Constant (.str y) j1 p2, .FormattedValue f (-1) none p3, .Constant (.str z) j2 p4] pos) (tFTI te tf) := by
 intro pins s σ H Q I h
 refine wpAny_JoinedStr (Joins_cons (wpAny_FormattedValue_plain ?_))
 refine thn (he pins _ σ H _ I h) fun v s1 ⟨w, H1, I1, r1, x, ex, hx, q⟩ => ?_
 subst ex
 obtain ⟨t1, rfl⟩ := r1
 have l1 : (Str.empty ++ x).length <= 1000 := by rw [e0']; exact hx
 refine wpAny_formatField_str ⟨_, _, rfl, by rw [sizeLine_eq]; omega, ?_⟩ ⟨_, _, rfl, by rw [sizeLine_eq]; omega, ?_⟩ (by rw [sizeLine_eq]; omega)
 all_goals
  refine Joins_cons (Calls.Constant_str ⟨y, _, rfl, by rw [la', sizeLine_eq]; omega, Joins_cons (wpAny_FormattedValue_plain ?_)⟩)
  refine thn (hf pins _ σ H1 _ (I1.tok _) q) fun v s2 ⟨w, H2, I2, r2, j, ej, hj, q⟩ => ?_
  subst ej
  obtain ⟨t2, rfl⟩ := r2
  have hl2 : (strI j).length <= 400 := strI_len hj
  refine wpAny_formatField_int (log_of hj) ⟨_, _, rfl, by rw [la', la', sizeLine_eq]; show _ + (strI j).length <= _; omega, Joins_cons (Calls.Constant_str ⟨z, _, rfl, by rw [la', la', la', sizeLine_eq]; show _ + (strI j).length + _ <= _; omega, Joins_nil ⟨by rw [la', la', la', sizeLine_eq]; show _ + (strI j).length + _ <= _; omega, .str _, H2, I2.tok _, ⟨_, rfl⟩, q _⟩⟩)⟩
theorem pe_fstrTII {y z : Str} {j1 j2 : Nat} {p1 p2 p3 p4 p5 : Pos} {te tf tg : TE} (he : PE X e te) (hf : PE X f tf) (hg : PE X g tg) (h1 : y.length <= 1000 := by decide +kernel) (h2 : z.length <= 1000 := by decide +kernel) :
  PE X (.JoinedStr [.FormattedValue e (-1) none p1, .Constant (.str y) j1 p2, .FormattedValue f (-1) none p3, .Constant (.str z) j2 p4, .FormattedValue g (-1) none p5] pos) (tFTII te tf tg) := by
 intro pins s σ H Q I h
 refine wpAny_JoinedStr (Joins_cons (wpAny_FormattedValue_plain ?_))
 refine thn (he pins _ σ H _ I h) fun v s1 ⟨w, H1, I1, r1, x, ex, hx, q⟩ => ?_
 subst ex
 obtain ⟨t1, rfl⟩ := r1
 have l1 : (Str.empty ++ x).length <= 1000 := by rw [e0']; exact hx
 refine wpAny_formatField_str ⟨_, _, rfl, by rw [sizeLine_eq]; omega, ?_⟩ ⟨_, _, rfl, by rw [sizeLine_eq]; omega, ?_⟩ (by rw [sizeLine_eq]; omega)
 all_goals
  refine Joins_cons (Calls.Constant_str ⟨y, _, rfl, by rw [la', sizeLine_eq]; omega, Joins_cons (wpAny_FormattedValue_plain ?_)⟩)
  refine thn (hf pins _ σ H1 _ (I1.tok _) q) fun v s2 ⟨w, H2, I2, r2, j, ej, hj, q⟩ => ?_
  subst ej
  obtain ⟨t2, rfl⟩ := r2
  have hl2 : (strI j).length <= 400 := strI_len hj
  refine wpAny_formatField_int (log_of hj) ⟨_, _, rfl, by rw [la', la', sizeLine_eq]; show _ + (strI j).length <= _; omega, Joins_cons (Calls.Constant_str ⟨z, _, rfl, by rw [la', la', la', sizeLine_eq]; show _ + (strI j).length + _ <= _; omega, Joins_cons (wpAny_FormattedValue_plain ?_)⟩)⟩
  refine thn (hg pins _ σ H2 _ (I2.tok _) q) fun v s3 ⟨w, H3, I3, r3, i, ei, hi, q⟩ => ?_
  subst ei
  obtain ⟨t3, rfl⟩ := r3
  have hl3 : (strI i).length <= 400 := strI_len hi
  refine wpAny_formatField_int (log_of hi) ⟨_, _, rfl, by rw [la', la', la', la', sizeLine_eq]; show _ + (strI j).length + _ + (strI i).length <= _; omega, Joins_nil ⟨by rw [la', la', la', la', sizeLine_eq]; show _ + (strI j).length + _ + (strI i).length <= _; omega, .str _, H3, I3.tok _, ⟨_, rfl⟩, q _⟩⟩
theorem ap_FTI {te tf : TE} {σ : St} {H : Hp} {Q : VK} : tFTI te tf σ H Q = te σ H fun v H1 => ∃ x : Str, v = .str x /\ x.length <= 1000 /\ tf σ H1 fun u H2 => ∃ i : Int, u = .int i /\ i.natAbs < 2 ^ 300 /\ ∀ z, Q (.str z) H2 := rfl
theorem ap_FTII {te tf tg : TE} {σ : St} {H : Hp} {Q : VK} : tFTII te tf tg σ H Q = te σ H fun v H1 => ∃ x : Str, v = .str x /\ x.length <= 1000 /\ tf σ H1 fun u H2 => ∃ i : Int, u = .int i /\ i.natAbs < 2 ^ 300 /\ tg σ H2 fun u H3 => ∃ j : Int, u = .int j /\ j.natAbs < 2 ^ 300 /\ ∀ z, Q (.str z) H3 := rfl
end
end L2
namespace L2
open PySem PySem.W PySem.Spec PyProof.Rows HT
section
variable {prog : Program} {w : World} {A : Around} {E : Value -> Shared -> Prop} {s : Shared}
theorem whole_tup {t sl : Addr} {items : Array Value} {vl vu : Value} {lo hi : Option Int} {Q : Value -> Shared -> Prop} (ht : IsTup s.heap t items) (hs : s.heap.IsSliceOf sl vl vu .none) (pl : IsPart vl lo) (pu : IsPart vu hi)
  (hw : HT.sIx items.size 0 lo = 0 /\ HT.sIx items.size items.size hi = items.size) (h : Q (.ref t) s) : wpAny (model prog w) A (getItem (.ref t) (.ref sl)) Q E s := by
 obtain ⟨os, hos, hcs, hds⟩ := id hs
 have hTs : s.TypeIs (.ref sl) "slice" := ⟨os, hos, hcs⟩
 unfold getItem
 try with_reducible refine wpAny_holding ?_
 first | refine wpAny_bind (wpAny_pure ?_) | skip
 refine wpAny_bind (wpAny_sequenceKey ht.typeIs (by decide) ?_)
 refine wpAny_bind (wpAny_callSpecial?_slot (name := Str.ofString "__getitem__") ht.typeIs PyProof.Rows.slot_tuple_getitem
  (wpAny_call_entry PyProof.Rows.slot_tuple_getitem ht.typeIs entry_tuple_getitem ?_ (args_tuple_getitem _ _)))
 show wpAny _ _ (Builtin.Tuple.tupleItemsOf (.ref t) >>= _) _ _ s
 refine wpAny_bind (tupleItemsOf_ ht ?_)
 refine wpAny_bind (wpAny_typeOf hTs ?_)
 rw [if_pos (by decide)]
 refine wpAny_bind (HT.sliceApplied_gen hs pl pu ?_)
 have hno : ((((HT.sIx items.size 0 lo : Nat) : Int) == 0 && (1 : Int) == 1 && (HT.sIx items.size items.size hi - HT.sIx items.size 0 lo) == items.size) = true) := by
  rw [hw.1, hw.2]
  simp
 show wpAny _ _ (if (((HT.sIx items.size 0 lo : Nat) : Int) == 0 && (1 : Int) == 1 && (HT.sIx items.size items.size hi - HT.sIx items.size 0 lo) == items.size) = true then _ else _) _ _ s
 rw [if_pos hno]
 have ex : ∀ {R : Bool -> Shared -> Prop}, R true s -> wpAny (model prog w) A.in1 (Builtin.Tuple.tupleIsExact (.ref t)) R E s := fun hR => by
  unfold Builtin.Tuple.tupleIsExact
  exact wpAny_bind (wpAny_typeOf ht.typeIs (wpAny_pure hR))
 refine wpAny_bind (ex ?_)
 rw [if_pos rfl]
 exact wpAny_bind (wpAny_rule (wpAny_pure ⟨_, rfl, wpAny_pure h⟩))
end
section
variable {X : Cx}
def rSlW (K : Fg_) : V -> Option Int -> Option Int -> Hp -> VK -> Prop := fun x lo hi H Q => ∃ a xs, x = .ref a /\ SqT K H a xs /\
 ((HT.sIx xs.length 0 lo = 0 /\ HT.sIx xs.length xs.length hi = xs.length) -> Q (.ref a) H) /\ (¬ (HT.sIx xs.length 0 lo = 0 /\ HT.sIx xs.length xs.length hi = xs.length) -> ∀ p, H p = none -> Q (.ref p) (upd H p (.tup (cutV xs lo hi))))
theorem sl_tupW : SlR X (rSlW X.K) := by
 intro pins s σ H x v vl vu lo hi sl Q I rx hs pl pu h
 obtain ⟨a, xs, rfl, hx, q1, q2⟩ := h
 cases rx
 obtain ⟨its, r, ht, hz⟩ := I.tuple hx
 have hlen : its.toArray.size = xs.length := by rw [List.size_toArray]; exact r.length.symm
 refine ⟨"tuple", _, PyProof.Rows.slot_tuple_getitem.lookup, ht.typeIs, ?_⟩
 by_cases hw : HT.sIx xs.length 0 lo = 0 /\ HT.sIx xs.length xs.length hi = xs.length
 ·exact whole_tup ht hs pl pu (by rw [hlen]; exact hw) ⟨.ref a, H, I, rfl, q1 hw⟩
 refine HT.getItem_tuple_cut ht hs pl pu (by rw [hlen]; exact hw) ?_ (by rw [hlen]; exact hz)
 rw [hlen]
 refine ⟨.ref s.heap.objs.size, _, I.laid (t' := s.toks) (o := .tup (cutV xs lo hi)) (fun b ob q => Heap.get?_push_of_some _ q) (Nat.le_refl _) ?_, rfl, q2 hw _ (I.hok.fresh (Nat.le_refl _))⟩
 exact ⟨Nat.le_trans (cutV_length xs lo hi) hz, _, (r.drop (HT.sIx xs.length 0 lo)).take (HT.sIx xs.length xs.length hi - HT.sIx xs.length 0 lo), IsTup.new _ _⟩
theorem sl_tupWK {K : Fg_} (hK : X.K = K := by rfl) : SlR X (rSlW K) := hK ▸ sl_tupW
theorem ap_slW {K : Fg_} {H : Hp} {Q : VK} {x : V} {lo hi : Option Int} : rSlW K x lo hi H Q = ∃ a xs, x = .ref a /\ SqT K H a xs /\
 ((HT.sIx xs.length 0 lo = 0 /\ HT.sIx xs.length xs.length hi = xs.length) -> Q (.ref a) H) /\ (¬ (HT.sIx xs.length 0 lo = 0 /\ HT.sIx xs.length xs.length hi = xs.length) -> ∀ p, H p = none -> Q (.ref p) (upd H p (.tup (cutV xs lo hi)))) := rfl
end
end L2
local macro_rules | `(tactic| walk_at "capok") => `(tactic| first | exact L2.CapOk.nil | (refine L2.CapOk.own ?_; walk_at "capok") | (refine L2.CapOk.take (by with_unfolding_all rfl) (by first | exact Or.inl (by with_unfolding_all rfl) | exact Or.inr (by with_unfolding_all rfl)) (by first | exact Or.inl (by with_unfolding_all rfl) | exact Or.inr (by with_unfolding_all rfl)) (by with_unfolding_all rfl) ?_; walk_at "capok"))
local macro_rules | `(tactic| walk_at "compok") => `(tactic| (refine ⟨?c1, ?c3, ?c0, ?c4, ?c5, ?c6, ?c7⟩; (case c1 => with_unfolding_all rfl); (case c3 => walk_at "capok"); (case c0 => rfl); (case c4 => decide +kernel); (case c5 => decide +kernel); (case c6 => with_unfolding_all rfl); (case c7 => (intro _; rfl))))
local macro_rules | `(tactic| walk_at "rd") => `(tactic| simp only [L2.ap_iStr, L2.ap_fldK, L2.ap_sFld, L2.ap_methD, L2.ap_make, L2.ap_dget, L2.ap_dput, L2.ap_dnewK, L2.ap_inD, L2.ap_leS, L2.ap_ixT, L2.ap_slT, L2.ap_rTupOf, L2.ap_rIn, L2.ap_lenS, L2.ap_FI, L2.ap_rSortDI, L2.ap_FTI, L2.ap_FTII, L2.ap_slW, L2.ap_raise, L2.ap_xCall, L2.ap_isX, L2.ap_isXs, L2.ap_seq, L2.ap_next, L2.ap_asg, L2.ap_name, L2.ap_var, L2.ap_c, L2.ap_op, L2.ap_un, L2.ap_rI, L2.ap_rI0, L2.ap_rU, L2.ap_rEq, L2.ap_rNe, L2.ap_ret, L2.ap_retN, L2.ap_drop, L2.ap_test, L2.ap_tB, L2.ap_or, L2.ap_not, L2.ap_andV, L2.ap_notV, L2.ap_ifE, L2.ap_call, L2.ap_nil, L2.ap_cons, L2.ap_cb, L2.ap_lst, L2.ap_tup, L2.ap_chain, L2.ap_sl, L2.ap_noPart, L2.ap_part, L2.ap_gNil, L2.ap_gCons, L2.ap_gLst, L2.ap_gTup, L2.ap_bm, L2.ap_ixL, L2.ap_rLen, L2.ap_rSum, L2.ap_rAll, L2.ap_rListOf, L2.ap_rIsT, L2.ap_append, L2.ap_rCat, L2.ap_for, L2.ap_iList, L2.ap_comp, L2.ap_noIf, L2.ap_rMax, L2.scal_int, L2.scal_str, L2.scal_bl, L2.start_eq, List.map_cons, List.map_nil, List.length_cons, List.length_nil, List.cons_append, List.nil_append, List.append_nil, List.replicate_succ, List.replicate_zero, Nat.reduceAdd, Nat.reduceSub, Nat.sub_self, List.set_cons_zero, List.set_cons_succ, List.getElem?_cons_zero, List.getElem?_cons_succ, Option.some.injEq, L2.V.int.injEq, L2.V.bl.injEq, L2.V.str.injEq, L2.V.ref.injEq, L2.V.ty.injEq, List.cons.injEq, exists_eq_left', exists_eq_left, exists_and_left, exists_eq', exists_eq, true_and, and_true, and_assoc, exists_const, Bool.not_true, Bool.not_false, if_true, if_false, Bool.false_eq_true, decide_true, decide_false, reduceCtorEq, Bool.not_eq_true', decide_eq_true_eq, decide_eq_false_iff_not])
local macro_rules | `(tactic| walk_at "rdi") => `(tactic| simp only [L2.ap_iStr, L2.ap_fldK, L2.ap_sFld, L2.ap_methD, L2.ap_make, L2.ap_dget, L2.ap_dput, L2.ap_dnewK, L2.ap_inD, L2.ap_leS, L2.ap_ixT, L2.ap_slT, L2.ap_rTupOf, L2.ap_rIn, L2.ap_lenS, L2.ap_FI, L2.ap_rSortDI, L2.ap_FTI, L2.ap_FTII, L2.ap_slW, L2.ap_raise, L2.ap_xCall, L2.ap_isX, L2.ap_isXs, L2.ap_try, L2.ap_next, L2.ap_asg, L2.ap_name, L2.ap_var, L2.ap_c, L2.ap_op, L2.ap_un, L2.ap_rI, L2.ap_rI0, L2.ap_rU, L2.ap_rEq, L2.ap_rNe, L2.ap_ret, L2.ap_retN, L2.ap_drop, L2.ap_if, L2.ap_test, L2.ap_tB, L2.ap_or, L2.ap_not, L2.ap_andV, L2.ap_notV, L2.ap_ifE, L2.ap_call, L2.ap_nil, L2.ap_cons, L2.ap_cb, L2.ap_lst, L2.ap_tup, L2.ap_chain, L2.ap_sl, L2.ap_noPart, L2.ap_part, L2.ap_gNil, L2.ap_gCons, L2.ap_gLst, L2.ap_gTup, L2.ap_bm, L2.ap_ixL, L2.ap_rLen, L2.ap_rSum, L2.ap_rAll, L2.ap_rListOf, L2.ap_rIsT, L2.ap_append, L2.ap_rCat, L2.ap_comp, L2.ap_iList, L2.ap_noIf, L2.ap_rMax, L2.scal_int, L2.scal_str, L2.scal_bl, L2.start_eq, List.map_cons, List.map_nil, List.length_cons, List.length_nil, List.cons_append, List.nil_append, List.append_nil, List.replicate_succ, List.replicate_zero, Nat.reduceAdd, Nat.reduceSub, Nat.sub_self, List.set_cons_zero, List.set_cons_succ, List.getElem?_cons_zero, List.getElem?_cons_succ, Option.some.injEq, L2.V.int.injEq, L2.V.bl.injEq, L2.V.str.injEq, L2.V.ref.injEq, L2.V.ty.injEq, List.cons.injEq, exists_eq_left', exists_eq_left, exists_and_left, exists_eq', exists_eq, true_and, and_true, and_assoc, exists_const, Bool.not_true, Bool.not_false, if_true, if_false, Bool.false_eq_true, decide_true, decide_false, reduceCtorEq, Bool.not_eq_true', decide_eq_true_eq, decide_eq_false_iff_not])
local macro_rules | `(tactic| walk_at "rda") => `(tactic| simp only [L2.ap_iStr, L2.ap_fldK, L2.ap_sFld, L2.ap_methD, L2.ap_make, L2.ap_dget, L2.ap_dput, L2.ap_dnewK, L2.ap_inD, L2.ap_leS, L2.ap_ixT, L2.ap_slT, L2.ap_rTupOf, L2.ap_rIn, L2.ap_lenS, L2.ap_FI, L2.ap_rSortDI, L2.ap_FTI, L2.ap_FTII, L2.ap_slW, L2.ap_raise, L2.ap_xCall, L2.ap_isX, L2.ap_isXs, L2.ap_try, L2.ap_seq, L2.ap_next, L2.ap_asg, L2.ap_name, L2.ap_var, L2.ap_c, L2.ap_op, L2.ap_un, L2.ap_rI, L2.ap_rI0, L2.ap_rU, L2.ap_rEq, L2.ap_rNe, L2.ap_ret, L2.ap_retN, L2.ap_drop, L2.ap_if, L2.ap_test, L2.ap_tB, L2.ap_or, L2.ap_not, L2.ap_andV, L2.ap_notV, L2.ap_ifE, L2.ap_call, L2.ap_nil, L2.ap_cons, L2.ap_cb, L2.ap_lst, L2.ap_tup, L2.ap_chain, L2.ap_sl, L2.ap_noPart, L2.ap_part, L2.ap_gNil, L2.ap_gCons, L2.ap_gLst, L2.ap_gTup, L2.ap_bm, L2.ap_ixL, L2.ap_rLen, L2.ap_rSum, L2.ap_rAll, L2.ap_rListOf, L2.ap_rIsT, L2.ap_append, L2.ap_rCat, L2.ap_for, L2.ap_iList, L2.ap_comp, L2.ap_noIf, L2.ap_rMax, L2.scal_int, L2.scal_str, L2.scal_bl, L2.start_eq, List.map_cons, List.map_nil, List.length_cons, List.length_nil, List.cons_append, List.nil_append, List.append_nil, List.replicate_succ, List.replicate_zero, Nat.reduceAdd, Nat.reduceSub, Nat.sub_self, List.set_cons_zero, List.set_cons_succ, List.getElem?_cons_zero, List.getElem?_cons_succ, Option.some.injEq, L2.V.int.injEq, L2.V.bl.injEq, L2.V.str.injEq, L2.V.ref.injEq, L2.V.ty.injEq, List.cons.injEq, exists_eq_left', exists_eq_left, exists_and_left, exists_eq', exists_eq, true_and, and_true, and_assoc, exists_const, Bool.not_true, Bool.not_false, if_true, if_false, Bool.false_eq_true, decide_true, decide_false, reduceCtorEq, Bool.not_eq_true', decide_eq_true_eq, decide_eq_false_iff_not])
namespace My
open PySem L2 PyProof.Rows
def top (i : Nat) : Stmt := PySem.Challenge.pw_lotledger_k11_no_entry.main.body.getD i (.Pass ⟨0, 0, 0, 0⟩)
abbrev s__law_digits : Stmt := top 40
abbrev s__law_cell_at : Stmt := top 39
abbrev s__law_good : Stmt := top 44
abbrev s__law_ranges : Stmt := top 45
abbrev s__law_bad_names : Stmt := top 46
abbrev s__law_bad : Stmt := top 47
abbrev s_Buy_word : Stmt := inClass (top 24) 1
abbrev s_Buy_told : Stmt := inClass (top 24) 2
abbrev s_named_told : Stmt := top 37
abbrev s_Sell_word : Stmt := inClass (top 25) 1
abbrev s_Sell_told : Stmt := inClass (top 25) 2
abbrev s_Gift_word : Stmt := inClass (top 26) 1
abbrev s_Gift_told : Stmt := inClass (top 26) 2
abbrev s_Give_word : Stmt := inClass (top 27) 1
abbrev s_Give_told : Stmt := inClass (top 27) 2
abbrev s_Split_word : Stmt := inClass (top 28) 1
abbrev s_Split_told : Stmt := inClass (top 28) 2
abbrev s_Parting_word : Stmt := inClass (top 29) 1
abbrev s_Parting_told : Stmt := inClass (top 29) 2
abbrev s_is_whole_number : Stmt := top 30
abbrev s_check_number : Stmt := top 31
abbrev s_is_name : Stmt := top 33
abbrev s_check_name : Stmt := top 32
abbrev s_Entry___init__ : Stmt := inClass (top 23) 0
abbrev s_check_named : Stmt := top 35
abbrev s_named_copy : Stmt := top 36
abbrev s_Give___init__ : Stmt := inClass (top 27) 0
abbrev s_check_trade : Stmt := top 34
abbrev s_Buy___init__ : Stmt := inClass (top 24) 0
abbrev s_Gift___init__ : Stmt := inClass (top 26) 0
abbrev s_Split___init__ : Stmt := inClass (top 28) 0
abbrev s_Parting___init__ : Stmt := inClass (top 29) 0
abbrev s_Sell___init__ : Stmt := inClass (top 25) 0
abbrev s__law_made : Stmt := top 43
abbrev s__law_refused : Stmt := top 48
abbrev s_law : Stmt := top 49
structure Adr where
 _law_digits : Addr
 _law_cell_at : Addr
 _law_good : Addr
 _law_ranges : Addr
 _law_bad_names : Addr
 _law_bad : Addr
 Buy_word : Addr
 Buy_told : Addr
 named_told : Addr
 Sell_word : Addr
 Sell_told : Addr
 Gift_word : Addr
 Gift_told : Addr
 Give_word : Addr
 Give_told : Addr
 Split_word : Addr
 Split_told : Addr
 Parting_word : Addr
 Parting_told : Addr
 is_whole_number : Addr
 check_number : Addr
 is_name : Addr
 check_name : Addr
 Entry___init__ : Addr
 check_named : Addr
 named_copy : Addr
 Give___init__ : Addr
 check_trade : Addr
 Buy___init__ : Addr
 Gift___init__ : Addr
 Split___init__ : Addr
 Parting___init__ : Addr
 Sell___init__ : Addr
 _law_made : Addr
 _law_refused : Addr
 law : Addr
 C_Buy : Addr
 C_Sell : Addr
 C_Gift : Addr
 C_Give : Addr
 C_Split : Addr
 C_Parting : Addr
 C_NoEntry : Addr
 C_Entry : Addr
 C_Late : Addr
 C_NoLot : Addr
 C_NoNumber : Addr
 C_NoPieces : Addr
 C_NotHeld : Addr
 C_NoText : Addr
 C_NoWay : Addr
 C_NoWeights : Addr
 C_Twice : Addr
 C_LotError : Addr
 t_MOST_LETTERS : Tok
 t_MOST_DAY : Tok
 t_MOST_NUMBER : Tok
 t_MOST_PIECES : Tok
 t_MOST_PRICE : Tok
 t_MOST_FEE : Tok
 t_MOST_GIFT_COST : Tok
 t_MOST_SPLIT : Tok
 t_MOST_WHOLE : Tok
structure Fds where
 _law_digits : FuncData
 _law_cell_at : FuncData
 _law_good : FuncData
 _law_ranges : FuncData
 _law_bad_names : FuncData
 _law_bad : FuncData
 Buy_word : FuncData
 Buy_told : FuncData
 named_told : FuncData
 Sell_word : FuncData
 Sell_told : FuncData
 Gift_word : FuncData
 Gift_told : FuncData
 Give_word : FuncData
 Give_told : FuncData
 Split_word : FuncData
 Split_told : FuncData
 Parting_word : FuncData
 Parting_told : FuncData
 is_whole_number : FuncData
 check_number : FuncData
 is_name : FuncData
 check_name : FuncData
 Entry___init__ : FuncData
 check_named : FuncData
 named_copy : FuncData
 Give___init__ : FuncData
 check_trade : FuncData
 Buy___init__ : FuncData
 Gift___init__ : FuncData
 Split___init__ : FuncData
 Parting___init__ : FuncData
 Sell___init__ : FuncData
 _law_made : FuncData
 _law_refused : FuncData
 law : FuncData
structure Txt (K : Fg_) (mg : Str -> Option Value) (A : Adr) (D : Fds) : Prop where
 m__law_digits : mg "_law_digits" = some (.ref A._law_digits)
 k__law_digits : PySem.W.keepIn K (.ref A._law_digits) = true
 F__law_digits : Fun K "_law_digits" "_law_digits" s__law_digits A._law_digits D._law_digits
 m__law_cell_at : mg "_law_cell_at" = some (.ref A._law_cell_at)
 k__law_cell_at : PySem.W.keepIn K (.ref A._law_cell_at) = true
 F__law_cell_at : Fun K "_law_cell_at" "_law_cell_at" s__law_cell_at A._law_cell_at D._law_cell_at
 m__law_good : mg "_law_good" = some (.ref A._law_good)
 k__law_good : PySem.W.keepIn K (.ref A._law_good) = true
 F__law_good : Fun K "_law_good" "_law_good" s__law_good A._law_good D._law_good
 m__law_ranges : mg "_law_ranges" = some (.ref A._law_ranges)
 k__law_ranges : PySem.W.keepIn K (.ref A._law_ranges) = true
 F__law_ranges : Fun K "_law_ranges" "_law_ranges" s__law_ranges A._law_ranges D._law_ranges
 m__law_bad_names : mg "_law_bad_names" = some (.ref A._law_bad_names)
 k__law_bad_names : PySem.W.keepIn K (.ref A._law_bad_names) = true
 F__law_bad_names : Fun K "_law_bad_names" "_law_bad_names" s__law_bad_names A._law_bad_names D._law_bad_names
 m__law_bad : mg "_law_bad" = some (.ref A._law_bad)
 k__law_bad : PySem.W.keepIn K (.ref A._law_bad) = true
 F__law_bad : Fun K "_law_bad" "_law_bad" s__law_bad A._law_bad D._law_bad
 F_Buy_word : Fun K "word" "Buy.word" s_Buy_word A.Buy_word D.Buy_word
 F_Buy_told : Fun K "told" "Buy.told" s_Buy_told A.Buy_told D.Buy_told
 m_named_told : mg "named_told" = some (.ref A.named_told)
 k_named_told : PySem.W.keepIn K (.ref A.named_told) = true
 F_named_told : Fun K "named_told" "named_told" s_named_told A.named_told D.named_told
 F_Sell_word : Fun K "word" "Sell.word" s_Sell_word A.Sell_word D.Sell_word
 F_Sell_told : Fun K "told" "Sell.told" s_Sell_told A.Sell_told D.Sell_told
 F_Gift_word : Fun K "word" "Gift.word" s_Gift_word A.Gift_word D.Gift_word
 F_Gift_told : Fun K "told" "Gift.told" s_Gift_told A.Gift_told D.Gift_told
 F_Give_word : Fun K "word" "Give.word" s_Give_word A.Give_word D.Give_word
 F_Give_told : Fun K "told" "Give.told" s_Give_told A.Give_told D.Give_told
 F_Split_word : Fun K "word" "Split.word" s_Split_word A.Split_word D.Split_word
 F_Split_told : Fun K "told" "Split.told" s_Split_told A.Split_told D.Split_told
 F_Parting_word : Fun K "word" "Parting.word" s_Parting_word A.Parting_word D.Parting_word
 F_Parting_told : Fun K "told" "Parting.told" s_Parting_told A.Parting_told D.Parting_told
 m_is_whole_number : mg "is_whole_number" = some (.ref A.is_whole_number)
 k_is_whole_number : PySem.W.keepIn K (.ref A.is_whole_number) = true
 F_is_whole_number : Fun K "is_whole_number" "is_whole_number" s_is_whole_number A.is_whole_number D.is_whole_number
 m_check_number : mg "check_number" = some (.ref A.check_number)
 k_check_number : PySem.W.keepIn K (.ref A.check_number) = true
 F_check_number : Fun K "check_number" "check_number" s_check_number A.check_number D.check_number
 m_is_name : mg "is_name" = some (.ref A.is_name)
 k_is_name : PySem.W.keepIn K (.ref A.is_name) = true
 F_is_name : Fun K "is_name" "is_name" s_is_name A.is_name D.is_name
 m_check_name : mg "check_name" = some (.ref A.check_name)
 k_check_name : PySem.W.keepIn K (.ref A.check_name) = true
 F_check_name : Fun K "check_name" "check_name" s_check_name A.check_name D.check_name
 F_Entry___init__ : Fun K "__init__" "Entry.__init__" s_Entry___init__ A.Entry___init__ D.Entry___init__
 m_check_named : mg "check_named" = some (.ref A.check_named)
 k_check_named : PySem.W.keepIn K (.ref A.check_named) = true
 F_check_named : Fun K "check_named" "check_named" s_check_named A.check_named D.check_named
 m_named_copy : mg "named_copy" = some (.ref A.named_copy)
 k_named_copy : PySem.W.keepIn K (.ref A.named_copy) = true
 F_named_copy : Fun K "named_copy" "named_copy" s_named_copy A.named_copy D.named_copy
 F_Give___init__ : FunD K "__init__" "Give.__init__" s_Give___init__ A.Give___init__ D.Give___init__ [V.non]
 m_check_trade : mg "check_trade" = some (.ref A.check_trade)
 k_check_trade : PySem.W.keepIn K (.ref A.check_trade) = true
 F_check_trade : Fun K "check_trade" "check_trade" s_check_trade A.check_trade D.check_trade
 F_Buy___init__ : FunD K "__init__" "Buy.__init__" s_Buy___init__ A.Buy___init__ D.Buy___init__ [V.int 0]
 F_Gift___init__ : Fun K "__init__" "Gift.__init__" s_Gift___init__ A.Gift___init__ D.Gift___init__
 F_Split___init__ : Fun K "__init__" "Split.__init__" s_Split___init__ A.Split___init__ D.Split___init__
 F_Parting___init__ : Fun K "__init__" "Parting.__init__" s_Parting___init__ A.Parting___init__ D.Parting___init__
 F_Sell___init__ : FunD K "__init__" "Sell.__init__" s_Sell___init__ A.Sell___init__ D.Sell___init__ [V.int 0, V.non]
 m__law_made : mg "_law_made" = some (.ref A._law_made)
 k__law_made : PySem.W.keepIn K (.ref A._law_made) = true
 F__law_made : Fun K "_law_made" "_law_made" s__law_made A._law_made D._law_made
 m__law_refused : mg "_law_refused" = some (.ref A._law_refused)
 k__law_refused : PySem.W.keepIn K (.ref A._law_refused) = true
 F__law_refused : Fun K "_law_refused" "_law_refused" s__law_refused A._law_refused D._law_refused
 m_law : mg "law" = some (.ref A.law)
 k_law : PySem.W.keepIn K (.ref A.law) = true
 F_law : Fun K "law" "law" s_law A.law D.law
 b_len : mg "len" = none
 b_max : mg "max" = none
 b_sorted : mg "sorted" = none
 b_tuple : mg "tuple" = none
 b_isinstance : mg "isinstance" = none
 b_int : mg "int" = none
 b_bool : mg "bool" = none
 b_all : mg "all" = none
 b_str : mg "str" = none
 b_list : mg "list" = none
 b_sum : mg "sum" = none
 b_ValueError : mg "ValueError" = none
 m_Buy : mg "Buy" = some (.ref A.C_Buy)
 m_Sell : mg "Sell" = some (.ref A.C_Sell)
 m_Gift : mg "Gift" = some (.ref A.C_Gift)
 m_Give : mg "Give" = some (.ref A.C_Give)
 m_Split : mg "Split" = some (.ref A.C_Split)
 m_Parting : mg "Parting" = some (.ref A.C_Parting)
 m_NoEntry : mg "NoEntry" = some (.ref A.C_NoEntry)
 m_Entry : mg "Entry" = some (.ref A.C_Entry)
 m_Late : mg "Late" = some (.ref A.C_Late)
 m_NoLot : mg "NoLot" = some (.ref A.C_NoLot)
 m_NoNumber : mg "NoNumber" = some (.ref A.C_NoNumber)
 m_NoPieces : mg "NoPieces" = some (.ref A.C_NoPieces)
 m_NotHeld : mg "NotHeld" = some (.ref A.C_NotHeld)
 m_NoText : mg "NoText" = some (.ref A.C_NoText)
 m_NoWay : mg "NoWay" = some (.ref A.C_NoWay)
 m_NoWeights : mg "NoWeights" = some (.ref A.C_NoWeights)
 m_Twice : mg "Twice" = some (.ref A.C_Twice)
 m_LotError : mg "LotError" = some (.ref A.C_LotError)
 g_MOST_LETTERS : mg "MOST_LETTERS" = some (.int 8 A.t_MOST_LETTERS)
 g_MOST_DAY : mg "MOST_DAY" = some (.int 1000000 A.t_MOST_DAY)
 g_MOST_NUMBER : mg "MOST_NUMBER" = some (.int 1000000 A.t_MOST_NUMBER)
 g_MOST_PIECES : mg "MOST_PIECES" = some (.int 1000000000 A.t_MOST_PIECES)
 g_MOST_PRICE : mg "MOST_PRICE" = some (.int 1000000000 A.t_MOST_PRICE)
 g_MOST_FEE : mg "MOST_FEE" = some (.int 1000000000 A.t_MOST_FEE)
 g_MOST_GIFT_COST : mg "MOST_GIFT_COST" = some (.int 1000000000000000000 A.t_MOST_GIFT_COST)
 g_MOST_SPLIT : mg "MOST_SPLIT" = some (.int 1000 A.t_MOST_SPLIT)
 g_MOST_WHOLE : mg "MOST_WHOLE" = some (.int 1000000 A.t_MOST_WHOLE)
 x_NoEntry : XCls K A.C_NoEntry
 y_NoEntry : XAsk K A.C_NoEntry
 x_NoPieces : XCls K A.C_NoPieces
 y_NoPieces : XAsk K A.C_NoPieces
 x_NoWay : XCls K A.C_NoWay
 y_NoWay : XAsk K A.C_NoWay
 x_NoWeights : XCls K A.C_NoWeights
 y_NoWeights : XAsk K A.C_NoWeights
 x_LotError : XCls K A.C_LotError
 y_LotError : XAsk K A.C_LotError
 cl_Buy : Cls K A.C_Buy
 ty_Buy : InsTy K A.C_Buy
 n_Buy_day : NoAttr K A.C_Buy "day"
 n_Buy_number : NoAttr K A.C_Buy "number"
 n_Buy_ware : NoAttr K A.C_Buy "ware"
 n_Buy_pieces : NoAttr K A.C_Buy "pieces"
 n_Buy_price : NoAttr K A.C_Buy "price"
 n_Buy_fee : NoAttr K A.C_Buy "fee"
 n_Buy_cost : NoAttr K A.C_Buy "cost"
 cl_Sell : Cls K A.C_Sell
 ty_Sell : InsTy K A.C_Sell
 n_Sell_day : NoAttr K A.C_Sell "day"
 n_Sell_number : NoAttr K A.C_Sell "number"
 n_Sell_ware : NoAttr K A.C_Sell "ware"
 n_Sell_pieces : NoAttr K A.C_Sell "pieces"
 n_Sell_price : NoAttr K A.C_Sell "price"
 n_Sell_fee : NoAttr K A.C_Sell "fee"
 n_Sell_named : NoAttr K A.C_Sell "named"
 n_Sell_proceeds : NoAttr K A.C_Sell "proceeds"
 cl_Gift : Cls K A.C_Gift
 ty_Gift : InsTy K A.C_Gift
 n_Gift_day : NoAttr K A.C_Gift "day"
 n_Gift_number : NoAttr K A.C_Gift "number"
 n_Gift_ware : NoAttr K A.C_Gift "ware"
 n_Gift_pieces : NoAttr K A.C_Gift "pieces"
 n_Gift_cost : NoAttr K A.C_Gift "cost"
 n_Gift_since : NoAttr K A.C_Gift "since"
 cl_Give : Cls K A.C_Give
 ty_Give : InsTy K A.C_Give
 n_Give_day : NoAttr K A.C_Give "day"
 n_Give_number : NoAttr K A.C_Give "number"
 n_Give_ware : NoAttr K A.C_Give "ware"
 n_Give_pieces : NoAttr K A.C_Give "pieces"
 n_Give_named : NoAttr K A.C_Give "named"
 cl_Split : Cls K A.C_Split
 ty_Split : InsTy K A.C_Split
 n_Split_day : NoAttr K A.C_Split "day"
 n_Split_number : NoAttr K A.C_Split "number"
 n_Split_ware : NoAttr K A.C_Split "ware"
 n_Split_many : NoAttr K A.C_Split "many"
 n_Split_of : NoAttr K A.C_Split "of"
 cl_Parting : Cls K A.C_Parting
 ty_Parting : InsTy K A.C_Parting
 n_Parting_day : NoAttr K A.C_Parting "day"
 n_Parting_number : NoAttr K A.C_Parting "number"
 n_Parting_ware : NoAttr K A.C_Parting "ware"
 n_Parting_other : NoAttr K A.C_Parting "other"
 n_Parting_share : NoAttr K A.C_Parting "share"
 n_Parting_whole : NoAttr K A.C_Parting "whole"
 cl_Entry : Cls K A.C_Entry
 ty_Entry : InsTy K A.C_Entry
 n_Entry_day : NoAttr K A.C_Entry "day"
 n_Entry_number : NoAttr K A.C_Entry "number"
 n_Entry_ware : NoAttr K A.C_Entry "ware"
 mk_Give : Mk K A.C_Give A.Give___init__
 mk_Buy : Mk K A.C_Buy A.Buy___init__
 mk_Gift : Mk K A.C_Gift A.Gift___init__
 mk_Split : Mk K A.C_Split A.Split___init__
 mk_Parting : Mk K A.C_Parting A.Parting___init__
 mk_Sell : Mk K A.C_Sell A.Sell___init__
 me_Buy_word : Meth K A.C_Buy "word" A.Buy_word
 me_Sell_word : Meth K A.C_Sell "word" A.Sell_word
 me_Gift_word : Meth K A.C_Gift "word" A.Gift_word
 me_Give_word : Meth K A.C_Give "word" A.Give_word
 me_Split_word : Meth K A.C_Split "word" A.Split_word
 me_Parting_word : Meth K A.C_Parting "word" A.Parting_word
 me_Buy_told : Meth K A.C_Buy "told" A.Buy_told
 me_Sell_told : Meth K A.C_Sell "told" A.Sell_told
 me_Gift_told : Meth K A.C_Gift "told" A.Gift_told
 me_Give_told : Meth K A.C_Give "told" A.Give_told
 me_Split_told : Meth K A.C_Split "told" A.Split_told
 me_Parting_told : Meth K A.C_Parting "told" A.Parting_told
 cf_Entry___init__ : ClsFn K A.C_Entry "__init__" A.Entry___init__
 su_e : PySem.W.kitOne K (.ref A.C_NoEntry) (.ref A.C_LotError) = some true
 kx2 : PySem.W.kitOne K (.ref A.C_NoEntry) (.type "ValueError") = some true
 kx3 : PySem.W.kitAny K (.ref A.C_NoEntry) [.ref A.C_Late, .ref A.C_NoLot, .ref A.C_NoNumber, .ref A.C_NoPieces, .ref A.C_NotHeld, .ref A.C_NoText, .ref A.C_NoWay, .ref A.C_NoWeights, .ref A.C_Twice] = some false
theorem sc__law_digits : FnScope ["_law_cell", "_law_bases", "_law_row", "_law_base"] ["_law_cell", "_law_bases"] (defScope s__law_digits) := ⟨rfl, rfl, rfl, by decide +kernel, rfl, by decide +kernel, by decide +kernel⟩
theorem sc__law_cell_at : FnScope ["_law_script", "_law_k"] ["_law_script", "_law_k"] (defScope s__law_cell_at) := ⟨rfl, rfl, rfl, by decide +kernel, rfl, by decide +kernel, by decide +kernel⟩
theorem sc__law_good : FnScope ["_law_script", "_law_day", "_law_number", "_law_pieces", "_law_price", "_law_fee", "_law_whole", "_law_many", "_law_of", "_law_head", "_law_named", "_law_rows"] ["_law_script"] (defScope s__law_good) := ⟨rfl, rfl, rfl, by decide +kernel, rfl, by decide +kernel, by decide +kernel⟩
theorem sc__law_ranges : FnScope ["_law_told", "_law_ranges_here"] ["_law_told"] (defScope s__law_ranges) := ⟨rfl, rfl, rfl, by decide +kernel, rfl, by decide +kernel, by decide +kernel⟩
theorem sc__law_bad_names : FnScope ["_law_told", "_law_far", "_law_named", "_law_lot", "_law_some", "_law_rows", "_law_pair"] ["_law_told", "_law_far"] (defScope s__law_bad_names) := ⟨rfl, rfl, rfl, by decide +kernel, rfl, by decide +kernel, by decide +kernel⟩
theorem sc__law_bad : FnScope ["_law_told", "_law_far", "_law_found", "_law_ranges_here", "_law_at", "_law_low", "_law_high", "_law_number", "_law_name"] ["_law_told", "_law_far"] (defScope s__law_bad) := ⟨rfl, rfl, rfl, by decide +kernel, rfl, by decide +kernel, by decide +kernel⟩
theorem sc_Buy_word : FnScope ["self"] ["self"] (defScope s_Buy_word) := ⟨rfl, rfl, rfl, by decide +kernel, rfl, by decide +kernel, by decide +kernel⟩
theorem sc_Buy_told : FnScope ["self"] ["self"] (defScope s_Buy_told) := ⟨rfl, rfl, rfl, by decide +kernel, rfl, by decide +kernel, by decide +kernel⟩
theorem sc_named_told : FnScope ["named"] ["named"] (defScope s_named_told) := ⟨rfl, rfl, rfl, by decide +kernel, rfl, by decide +kernel, by decide +kernel⟩
theorem sc_Sell_word : FnScope ["self"] ["self"] (defScope s_Sell_word) := ⟨rfl, rfl, rfl, by decide +kernel, rfl, by decide +kernel, by decide +kernel⟩
theorem sc_Sell_told : FnScope ["self", "named"] ["self"] (defScope s_Sell_told) := ⟨rfl, rfl, rfl, by decide +kernel, rfl, by decide +kernel, by decide +kernel⟩
theorem sc_Gift_word : FnScope ["self"] ["self"] (defScope s_Gift_word) := ⟨rfl, rfl, rfl, by decide +kernel, rfl, by decide +kernel, by decide +kernel⟩
theorem sc_Gift_told : FnScope ["self"] ["self"] (defScope s_Gift_told) := ⟨rfl, rfl, rfl, by decide +kernel, rfl, by decide +kernel, by decide +kernel⟩
theorem sc_Give_word : FnScope ["self"] ["self"] (defScope s_Give_word) := ⟨rfl, rfl, rfl, by decide +kernel, rfl, by decide +kernel, by decide +kernel⟩
theorem sc_Give_told : FnScope ["self"] ["self"] (defScope s_Give_told) := ⟨rfl, rfl, rfl, by decide +kernel, rfl, by decide +kernel, by decide +kernel⟩
theorem sc_Split_word : FnScope ["self"] ["self"] (defScope s_Split_word) := ⟨rfl, rfl, rfl, by decide +kernel, rfl, by decide +kernel, by decide +kernel⟩
theorem sc_Split_told : FnScope ["self"] ["self"] (defScope s_Split_told) := ⟨rfl, rfl, rfl, by decide +kernel, rfl, by decide +kernel, by decide +kernel⟩
theorem sc_Parting_word : FnScope ["self"] ["self"] (defScope s_Parting_word) := ⟨rfl, rfl, rfl, by decide +kernel, rfl, by decide +kernel, by decide +kernel⟩
theorem sc_Parting_told : FnScope ["self"] ["self"] (defScope s_Parting_told) := ⟨rfl, rfl, rfl, by decide +kernel, rfl, by decide +kernel, by decide +kernel⟩
theorem sc_is_whole_number : FnScope ["value"] ["value"] (defScope s_is_whole_number) := ⟨rfl, rfl, rfl, by decide +kernel, rfl, by decide +kernel, by decide +kernel⟩
theorem sc_check_number : FnScope ["what", "value", "least", "most"] ["what", "value", "least", "most"] (defScope s_check_number) := ⟨rfl, rfl, rfl, by decide +kernel, rfl, by decide +kernel, by decide +kernel⟩
theorem sc_is_name : FnScope ["value"] ["value"] (defScope s_is_name) := ⟨rfl, rfl, rfl, by decide +kernel, rfl, by decide +kernel, by decide +kernel⟩
theorem sc_check_name : FnScope ["what", "value"] ["what", "value"] (defScope s_check_name) := ⟨rfl, rfl, rfl, by decide +kernel, rfl, by decide +kernel, by decide +kernel⟩
theorem sc_Entry___init__ : FnScope ["self", "day", "number", "ware"] ["self", "day", "number", "ware"] (defScope s_Entry___init__) := ⟨rfl, rfl, rfl, by decide +kernel, rfl, by decide +kernel, by decide +kernel⟩
theorem sc_check_named : FnScope ["named", "pieces", "seen", "lot", "lot_pieces"] ["named", "pieces"] (defScope s_check_named) := ⟨rfl, rfl, rfl, by decide +kernel, rfl, by decide +kernel, by decide +kernel⟩
theorem sc_named_copy : FnScope ["named"] ["named"] (defScope s_named_copy) := ⟨rfl, rfl, rfl, by decide +kernel, rfl, by decide +kernel, by decide +kernel⟩
theorem sc_Give___init__ : FnScope ["self", "day", "number", "ware", "pieces", "named"] ["self", "day", "number", "ware", "pieces", "named"] (defScope s_Give___init__) := ⟨rfl, rfl, rfl, by decide +kernel, rfl, by decide +kernel, by decide +kernel⟩
theorem sc_check_trade : FnScope ["pieces", "price", "fee"] ["pieces", "price", "fee"] (defScope s_check_trade) := ⟨rfl, rfl, rfl, by decide +kernel, rfl, by decide +kernel, by decide +kernel⟩
theorem sc_Buy___init__ : FnScope ["self", "day", "number", "ware", "pieces", "price", "fee"] ["self", "day", "number", "ware", "pieces", "price", "fee"] (defScope s_Buy___init__) := ⟨rfl, rfl, rfl, by decide +kernel, rfl, by decide +kernel, by decide +kernel⟩
theorem sc_Gift___init__ : FnScope ["self", "day", "number", "ware", "pieces", "cost", "since"] ["self", "day", "number", "ware", "pieces", "cost", "since"] (defScope s_Gift___init__) := ⟨rfl, rfl, rfl, by decide +kernel, rfl, by decide +kernel, by decide +kernel⟩
theorem sc_Split___init__ : FnScope ["self", "day", "number", "ware", "many", "of"] ["self", "day", "number", "ware", "many", "of"] (defScope s_Split___init__) := ⟨rfl, rfl, rfl, by decide +kernel, rfl, by decide +kernel, by decide +kernel⟩
theorem sc_Parting___init__ : FnScope ["self", "day", "number", "ware", "other", "share", "whole"] ["self", "day", "number", "ware", "other", "share", "whole"] (defScope s_Parting___init__) := ⟨rfl, rfl, rfl, by decide +kernel, rfl, by decide +kernel, by decide +kernel⟩
theorem sc_Sell___init__ : FnScope ["self", "day", "number", "ware", "pieces", "price", "fee", "named"] ["self", "day", "number", "ware", "pieces", "price", "fee", "named"] (defScope s_Sell___init__) := ⟨rfl, rfl, rfl, by decide +kernel, rfl, by decide +kernel, by decide +kernel⟩
theorem sc__law_made : FnScope ["_law_told", "_law_rest", "_law_named"] ["_law_told"] (defScope s__law_made) := ⟨rfl, rfl, rfl, by decide +kernel, rfl, by decide +kernel, by decide +kernel⟩
theorem sc__law_refused : FnScope ["_law_told", "_law_found", "e", "_law_others"] ["_law_told"] (defScope s__law_refused) := ⟨rfl, rfl, rfl, by decide +kernel, rfl, by decide +kernel, by decide +kernel⟩
theorem sc_law : FnScope ["_law_script", "_law_far", "_law_told", "_law_bad_here"] ["_law_script"] (defScope s_law) := ⟨rfl, rfl, rfl, by decide +kernel, rfl, by decide +kernel, by decide +kernel⟩
section
variable {P : Program} {w : World} {K : Fg_} {mg : Str -> Option Value} {base : Heap} {A : Adr} {D : Fds}
theorem b__law_digits (T : Txt K mg A D) : Binds K D._law_digits ["_law_cell", "_law_bases"] [] := T.F__law_digits.binds (ps := ["_law_cell", "_law_bases"]) fun _ _ _ _ _ _ us hl => match us, hl with | [_, _], _ => rfl
theorem b__law_cell_at (T : Txt K mg A D) : Binds K D._law_cell_at ["_law_script", "_law_k"] [] := T.F__law_cell_at.binds (ps := ["_law_script", "_law_k"]) fun _ _ _ _ _ _ us hl => match us, hl with | [_, _], _ => rfl
theorem b__law_good (T : Txt K mg A D) : Binds K D._law_good ["_law_script"] [] := T.F__law_good.binds (ps := ["_law_script"]) fun _ _ _ _ _ _ us hl => match us, hl with | [_], _ => rfl
theorem b__law_ranges (T : Txt K mg A D) : Binds K D._law_ranges ["_law_told"] [] := T.F__law_ranges.binds (ps := ["_law_told"]) fun _ _ _ _ _ _ us hl => match us, hl with | [_], _ => rfl
theorem b__law_bad_names (T : Txt K mg A D) : Binds K D._law_bad_names ["_law_told", "_law_far"] [] := T.F__law_bad_names.binds (ps := ["_law_told", "_law_far"]) fun _ _ _ _ _ _ us hl => match us, hl with | [_, _], _ => rfl
theorem b__law_bad (T : Txt K mg A D) : Binds K D._law_bad ["_law_told", "_law_far"] [] := T.F__law_bad.binds (ps := ["_law_told", "_law_far"]) fun _ _ _ _ _ _ us hl => match us, hl with | [_, _], _ => rfl
theorem b_Buy_word (T : Txt K mg A D) : Binds K D.Buy_word ["self"] [] := T.F_Buy_word.binds (ps := ["self"]) fun _ _ _ _ _ _ us hl => match us, hl with | [_], _ => rfl
theorem b_Buy_told (T : Txt K mg A D) : Binds K D.Buy_told ["self"] [] := T.F_Buy_told.binds (ps := ["self"]) fun _ _ _ _ _ _ us hl => match us, hl with | [_], _ => rfl
theorem b_named_told (T : Txt K mg A D) : Binds K D.named_told ["named"] [] := T.F_named_told.binds (ps := ["named"]) fun _ _ _ _ _ _ us hl => match us, hl with | [_], _ => rfl
theorem b_Sell_word (T : Txt K mg A D) : Binds K D.Sell_word ["self"] [] := T.F_Sell_word.binds (ps := ["self"]) fun _ _ _ _ _ _ us hl => match us, hl with | [_], _ => rfl
theorem b_Sell_told (T : Txt K mg A D) : Binds K D.Sell_told ["self"] [] := T.F_Sell_told.binds (ps := ["self"]) fun _ _ _ _ _ _ us hl => match us, hl with | [_], _ => rfl
theorem b_Gift_word (T : Txt K mg A D) : Binds K D.Gift_word ["self"] [] := T.F_Gift_word.binds (ps := ["self"]) fun _ _ _ _ _ _ us hl => match us, hl with | [_], _ => rfl
theorem b_Gift_told (T : Txt K mg A D) : Binds K D.Gift_told ["self"] [] := T.F_Gift_told.binds (ps := ["self"]) fun _ _ _ _ _ _ us hl => match us, hl with | [_], _ => rfl
theorem b_Give_word (T : Txt K mg A D) : Binds K D.Give_word ["self"] [] := T.F_Give_word.binds (ps := ["self"]) fun _ _ _ _ _ _ us hl => match us, hl with | [_], _ => rfl
theorem b_Give_told (T : Txt K mg A D) : Binds K D.Give_told ["self"] [] := T.F_Give_told.binds (ps := ["self"]) fun _ _ _ _ _ _ us hl => match us, hl with | [_], _ => rfl
theorem b_Split_word (T : Txt K mg A D) : Binds K D.Split_word ["self"] [] := T.F_Split_word.binds (ps := ["self"]) fun _ _ _ _ _ _ us hl => match us, hl with | [_], _ => rfl
theorem b_Split_told (T : Txt K mg A D) : Binds K D.Split_told ["self"] [] := T.F_Split_told.binds (ps := ["self"]) fun _ _ _ _ _ _ us hl => match us, hl with | [_], _ => rfl
theorem b_Parting_word (T : Txt K mg A D) : Binds K D.Parting_word ["self"] [] := T.F_Parting_word.binds (ps := ["self"]) fun _ _ _ _ _ _ us hl => match us, hl with | [_], _ => rfl
theorem b_Parting_told (T : Txt K mg A D) : Binds K D.Parting_told ["self"] [] := T.F_Parting_told.binds (ps := ["self"]) fun _ _ _ _ _ _ us hl => match us, hl with | [_], _ => rfl
theorem b_is_whole_number (T : Txt K mg A D) : Binds K D.is_whole_number ["value"] [] := T.F_is_whole_number.binds (ps := ["value"]) fun _ _ _ _ _ _ us hl => match us, hl with | [_], _ => rfl
theorem b_check_number (T : Txt K mg A D) : Binds K D.check_number ["what", "value", "least", "most"] [] := T.F_check_number.binds (ps := ["what", "value", "least", "most"]) fun _ _ _ _ _ _ us hl => match us, hl with | [_, _, _, _], _ => rfl
theorem b_is_name (T : Txt K mg A D) : Binds K D.is_name ["value"] [] := T.F_is_name.binds (ps := ["value"]) fun _ _ _ _ _ _ us hl => match us, hl with | [_], _ => rfl
theorem b_check_name (T : Txt K mg A D) : Binds K D.check_name ["what", "value"] [] := T.F_check_name.binds (ps := ["what", "value"]) fun _ _ _ _ _ _ us hl => match us, hl with | [_, _], _ => rfl
theorem b_Entry___init__ (T : Txt K mg A D) : Binds K D.Entry___init__ ["self", "day", "number", "ware"] [] := T.F_Entry___init__.binds (ps := ["self", "day", "number", "ware"]) fun _ _ _ _ _ _ us hl => match us, hl with | [_, _, _, _], _ => rfl
theorem b_check_named (T : Txt K mg A D) : Binds K D.check_named ["named", "pieces"] [] := T.F_check_named.binds (ps := ["named", "pieces"]) fun _ _ _ _ _ _ us hl => match us, hl with | [_, _], _ => rfl
theorem b_named_copy (T : Txt K mg A D) : Binds K D.named_copy ["named"] [] := T.F_named_copy.binds (ps := ["named"]) fun _ _ _ _ _ _ us hl => match us, hl with | [_], _ => rfl
theorem b_check_trade (T : Txt K mg A D) : Binds K D.check_trade ["pieces", "price", "fee"] [] := T.F_check_trade.binds (ps := ["pieces", "price", "fee"]) fun _ _ _ _ _ _ us hl => match us, hl with | [_, _, _], _ => rfl
theorem b_Gift___init__ (T : Txt K mg A D) : Binds K D.Gift___init__ ["self", "day", "number", "ware", "pieces", "cost", "since"] [] := T.F_Gift___init__.binds (ps := ["self", "day", "number", "ware", "pieces", "cost", "since"]) fun _ _ _ _ _ _ us hl => match us, hl with | [_, _, _, _, _, _, _], _ => rfl
theorem b_Split___init__ (T : Txt K mg A D) : Binds K D.Split___init__ ["self", "day", "number", "ware", "many", "of"] [] := T.F_Split___init__.binds (ps := ["self", "day", "number", "ware", "many", "of"]) fun _ _ _ _ _ _ us hl => match us, hl with | [_, _, _, _, _, _], _ => rfl
theorem b_Parting___init__ (T : Txt K mg A D) : Binds K D.Parting___init__ ["self", "day", "number", "ware", "other", "share", "whole"] [] := T.F_Parting___init__.binds (ps := ["self", "day", "number", "ware", "other", "share", "whole"]) fun _ _ _ _ _ _ us hl => match us, hl with | [_, _, _, _, _, _, _], _ => rfl
theorem b__law_made (T : Txt K mg A D) : Binds K D._law_made ["_law_told"] [] := T.F__law_made.binds (ps := ["_law_told"]) fun _ _ _ _ _ _ us hl => match us, hl with | [_], _ => rfl
theorem b__law_refused (T : Txt K mg A D) : Binds K D._law_refused ["_law_told"] [] := T.F__law_refused.binds (ps := ["_law_told"]) fun _ _ _ _ _ _ us hl => match us, hl with | [_], _ => rfl
theorem b_Buy___init___7 (T : Txt K mg A D) : ∃ ds, Binds K D.Buy___init__ ["self", "day", "number", "ware", "pieces", "price", "fee"] ds /\ Vals (([V.int 0] : List V).drop 1) ds := T.F_Buy___init__.binds (ps := ["self", "day", "number", "ware", "pieces", "price", "fee"]) 1 fun Td kV doc pm an cdv ct its us h1 h2 => match its, h1, h2 with
 | [i0], _, h2 => by
  have h3 : us.length = 7 := by simpa using h2
  exact match us, h3 with | [u0, u1, u2, u3, u4, u5, u6], _ => ⟨_, rfl, rfl⟩
theorem b_Give___init___6 (T : Txt K mg A D) : ∃ ds, Binds K D.Give___init__ ["self", "day", "number", "ware", "pieces", "named"] ds /\ Vals (([V.non] : List V).drop 1) ds := T.F_Give___init__.binds (ps := ["self", "day", "number", "ware", "pieces", "named"]) 1 fun Td kV doc pm an cdv ct its us h1 h2 => match its, h1, h2 with
 | [i0], _, h2 => by
  have h3 : us.length = 6 := by simpa using h2
  exact match us, h3 with | [u0, u1, u2, u3, u4, u5], _ => ⟨_, rfl, rfl⟩
theorem b_Sell___init___8 (T : Txt K mg A D) : ∃ ds, Binds K D.Sell___init__ ["self", "day", "number", "ware", "pieces", "price", "fee", "named"] ds /\ Vals (([V.int 0, V.non] : List V).drop 2) ds := T.F_Sell___init__.binds (ps := ["self", "day", "number", "ware", "pieces", "price", "fee", "named"]) 2 fun Td kV doc pm an cdv ct its us h1 h2 => match its, h1, h2 with
 | [i0, i1], _, h2 => by
  have h3 : us.length = 8 := by simpa using h2
  exact match us, h3 with | [u0, u1, u2, u3, u4, u5, u6, u7], _ => ⟨_, rfl, rfl⟩
end
end My
namespace My
open PySem L2 PyProof.Rows
end My
namespace My
open PySem L2 PyProof.Rows
section
variable {P : Program} {w : World} {K : Fg_} {mg : Str -> Option Value} {base : Heap} {A : Adr} {D : Fds}
def digs : Int -> List Int -> List Int
 | _, [] => []
 | c, b :: r => c % b :: digs (c / b) r
def aftr : Int -> List Int -> Int
 | c, [] => c
 | c, b :: r => aftr (c / b) r
theorem digs_snoc : ∀ (c : Int) (l : List Int) (b : Int), digs c (l ++ [b]) = digs c l ++ [aftr c l % b]
 | _, [], _ => rfl
 | c, x :: r, b => by show c % x :: digs (c / x) (r ++ [b]) = _; rw [digs_snoc]; rfl
theorem aftr_snoc : ∀ (c : Int) (l : List Int) (b : Int), aftr c (l ++ [b]) = aftr c l / b
 | _, [], _ => rfl
 | c, x :: r, b => by show aftr (c / x) (r ++ [b]) = _; rw [aftr_snoc]; rfl
theorem digs_length : ∀ (c : Int) (l : List Int), (digs c l).length = l.length
 | _, [] => rfl
 | c, x :: r => by show (digs (c / x) r).length + 1 = _; rw [digs_length]; rfl
def mixed (c k : Int) : Int :=
 (c + 7919 * k * k + k) * 982451653 % 2305843009213693951 * ((c + 7919 * k * k + k) * 982451653 % 2305843009213693951 * 1000003 % 1152921504606846883) *
  ((c + 7919 * k * k + k) * 982451653 % 2305843009213693951 / 4096 + (c + 7919 * k * k + k) * 982451653 % 2305843009213693951 * 1000003 % 1152921504606846883 / 64 + 1)
def manyOf (ns : List Int) : Int :=
 if (if (63 : Int) < (ns.length : Int) then (63 : Int) else (ns.length : Int)) < 3 + ns.headD 0 / 2 % 61 then 3 + ns.headD 0 / 2 % 61 else if (63 : Int) < (ns.length : Int) then (63 : Int) else (ns.length : Int)
def cells (ns : List Int) : List Int :=
 if 0 < ns.length /\ ns.headD 0 % 2 = 1 then (List.range (manyOf ns).toNat).map fun (k : Nat) => mixed (ns.getD (k % ns.length) 0) k else (ns.take 63).map fun c => c % 10 ^ 60
def FreshInts (H : Hp) (Q : VK) (ns : List Int) : Prop := ∀ p H', Same H H' -> H p = Option.none -> H' p = some (.lst (ns.map V.int)) -> Q (.ref p) H'
def sp__law_digits (K : Fg_) : Sp := fun vs H Q _ => ∃ c l bs, vs = [.int c, .ref l] /\ SqL K H l (bs.map V.int) /\ (∀ b ∈ bs, CDivB 0 b) /\ bs.length <= 1000 /\ FreshInts H Q (digs c bs)
theorem map_get {ns : List Int} {i : Nat} {y : V} (h : (ns.map V.int)[i]? = some y) : ∃ z, y = V.int z /\ ns[i]? = some z := by
 rw [List.getElem?_map] at h
 cases e : ns[i]? with
 | none => rw [e] at h; cases h
 | some z => rw [e] at h; exact ⟨z, (Option.some.inj h).symm, rfl⟩
theorem tyL {K : Fg_} {H : Hp} {p : Addr} {xs : List V} (h : SqL K H p xs) : tyV K "list" (.ref p) H := .inl ⟨rfl, _, h⟩
end
end My
namespace My
open PySem L2 PyProof.Rows
section
variable {P : Program} {w : World} {K : Fg_} {mg : Str -> Option Value} {base : Heap} {A : Adr} {D : Fds}
def sp__law_cell_at (K : Fg_) : Sp := fun vs H Q _ => ∃ (a : Addr) (ns : List Int) (k : Nat), vs = [.ref a, .int k] /\ SqL K H a (ns.map V.int) /\ Q (.int (ns.getD k 0)) H
theorem ok__law_cell_at (T : Txt K mg A D) : FnOk P w K mg base CX0 1 A._law_cell_at D._law_cell_at ["_law_script", "_law_k"] (sp__law_cell_at K) := by
 refine T.F__law_cell_at.ok sc__law_cell_at (fun vs H Q E h => ?_) (fun cdv A outer s H vs Q E hr h => ?_)
 ·obtain ⟨a, ns, k', rfl, _⟩ := h; rfl
 ·obtain ⟨a, ns, k', rfl, hS, k⟩ := h
  refine ⟨_, (pss_cons (ps_if (pt_cmpR (op_lt) (pv 1) (pe_callB (call_lenK (K := K)) (by rfl) T.b_len (by decide +kernel) (pa_cons (pv 0) pa_nil)) (nomark _)) (pss_one (ps_ret (pe_ix (ix_listK (K := K)) (pv 0) (pv 1) (fun _ _ => rfl)))) pss_nil)
   (pss_one (ps_ret pe_int))), ?_⟩
  walk_at "rda"
  refine ⟨_, .inl hS, ?_⟩
  rw [List.length_map]
  by_cases h : k' < ns.length
  ·rw [if_pos (by omega)]
   refine ⟨_, hS, _, atI_nat (j := k') (v := .int (ns.getD k' 0)) ?_, k⟩
   rw [List.getElem?_map, List.getElem?_eq_getElem h, List.getD_eq_getElem?_getD, List.getElem?_eq_getElem h]
   rfl
  ·rw [if_neg (by omega)]
   rw [List.getD_eq_getElem?_getD, List.getElem?_eq_none (by omega)] at k
   exact k
end
end My
namespace My
open PySem L2 PyProof.Rows
section
variable {P : Program} {w : World} {K : Fg_} {mg : Str -> Option Value} {base : Heap} {A : Adr} {D : Fds}
theorem ok__law_digits (T : Txt K mg A D) : FnOk P w K mg base CX0 1 A._law_digits D._law_digits ["_law_cell", "_law_bases"] (sp__law_digits K) := by
 refine T.F__law_digits.ok sc__law_digits (fun vs H Q E h => ?_) (fun cdv A outer s H vs Q E hr h => ?_)
 ·obtain ⟨c, l, bs, rfl, _⟩ := h; rfl
 ·obtain ⟨c, l, bs, rfl, hS, hb, hl, k⟩ := h
  refine ⟨_, (pss_cons (ps_set (i := 2) sc__law_digits.nd rfl (Or.inl rfl) (pe_lst pa_nil))
   (pss_cons (ps_for PassesOwn.never rfl (pi_listK (K := K) (pv 1)) (pg_name (i := 3) sc__law_digits.nd rfl (Or.inl rfl))
    (pss_cons (ps_expr (pe_bmK (K := K) PySem.F.plainAttrs_list PySem.F.slot_list_append PySem.F.type_list_append mt_append (pv 2) (pa_cons (pe_op op_mod (pv 0) (pv 3)) pa_nil)))
    (pss_one (ps_set (i := 0) sc__law_digits.nd rfl (Or.inl rfl) (pe_op op_fdivB (pv 0) (pv 3))))))
   (pss_one (ps_ret (pv 2))))), ?_⟩
  walk_at "rd"
  refine ⟨Nat.zero_le _, fun p hp => ?_⟩
  refine ⟨⟨_, (Same.new hp).seq hS⟩, ForP.list (K := K) (a := l) (xs := bs.map V.int) (fun i σ H2 => ∃ v, σ = [some (.int (aftr c (bs.take i))), some (.ref l), some (.ref p), v] /\ Same H H2 /\ H2 p = some (.lst ((digs c (bs.take i)).map V.int)))
   ⟨Option.none, rfl, Same.new hp, upd_same⟩ (fun i σ H2 _ ⟨_, _, s2, _⟩ => s2.seq hS) ?_ ?_⟩
  ·rintro i y σ H2 hi ⟨v, rfl, s2, h2⟩
   obtain ⟨b, rfl, hbi⟩ := map_get hi
   have hil : i < bs.length := (List.getElem?_eq_some_iff.mp hbi).1
   have hbm : CDivB 0 b := hb b (List.mem_of_getElem? hbi)
   have ht : bs.take (i + 1) = bs.take i ++ [b] := by rw [List.take_add_one, hbi]; rfl
   walk_at "rd"
   refine ⟨tyL (SqL.of h2), hbm.1, _, h2, ?_, hbm, by rw [ht, aftr_snoc], s2.upd hp, ?_⟩
   ·rw [List.length_map, digs_length, List.length_take]
    exact small1000 (by omega)
   ·rw [upd_same, ht, digs_snoc, List.map_append]
    rfl
  ·rintro σ H2 ⟨v, rfl, s2, h2⟩
   rw [List.length_map, List.take_length] at h2
   walk_at "rd"
   exact k p H2 s2 hp h2
end
end My
namespace My
open PySem L2 PyProof.Rows
section
variable {P : Program} {w : World} {K : Fg_} {mg : Str -> Option Value} {base : Heap} {A : Adr} {D : Fds}
def Nm (z : Str) : Prop := 1 <= z.length /\ z.length <= 8 /\ ∀ c ∈ z.cps.toList, 97 <= c /\ c <= 122
instance (z : Str) : Decidable (Nm z) := inferInstanceAs (Decidable (_ /\ _ /\ _))
def sp_is_whole_number : Sp := fun vs H Q _ => ∃ i : Int, vs = [.int i] /\ Q (.bl true) H
theorem ok_is_whole_number (T : Txt K mg A D) : FnOk P w K mg base CX0 1 A.is_whole_number D.is_whole_number ["value"] sp_is_whole_number := by
 refine T.F_is_whole_number.ok sc_is_whole_number (fun vs H Q E h => ?_) (fun cdv A outer s H vs Q E hr h => ?_)
 ·obtain ⟨i, rfl, _⟩ := h; rfl
 ·obtain ⟨i, rfl, k⟩ := h
  refine ⟨_, (pss_one (ps_ret (pe_and (pe_callB (call_isTK (K := K)) (by rfl) T.b_isinstance (by decide +kernel) (pa_cons (pv 0) (pa_cons (pe_ty "int" (by rfl) T.b_int (by decide +kernel)) pa_nil))) (pe_one (pe_not (pe_callB (call_isTK (K := K)) (by rfl) T.b_isinstance (by decide +kernel) (pa_cons (pv 0) (pa_cons (pe_ty "bool" (by rfl) T.b_bool (by decide +kernel)) pa_nil)))))))), ?_⟩
  walk_at "rd"
  refine ⟨_, .int i, true, by with_unfolding_all rfl, ?_⟩
  walk_at "rd"
  refine ⟨_, .int i, false, by with_unfolding_all rfl, ?_⟩
  walk_at "rd"
  exact k
def sp_check_number (A : Adr) : Sp := fun vs H Q E => ∃ (z : Str) (i lo hi : Int), vs = [.str z, .int i, .int lo, .int hi] /\ z.length <= 1000 /\ lo.natAbs < 2 ^ 300 /\ hi.natAbs < 2 ^ 300 /\
 (lo <= i /\ i <= hi -> Q .non H) /\ (¬ (lo <= i /\ i <= hi) -> E (.ref A.C_NoEntry) Option.none H)
theorem ok_check_number (T : Txt K mg A D) : FnOk P w K mg base (CX1 P w) 2 A.check_number D.check_number ["what", "value", "least", "most"] (sp_check_number A) := by
 refine T.F_check_number.okX sc_check_number (fun vs H Q E h => ?_) (fun cdv A' outer s H vs Q E hr h => ?_)
 ·obtain ⟨z, i, lo, hi, rfl, _⟩ := h; rfl
 ·obtain ⟨z, i, lo, hi, rfl, hz, h1, h2, k, kE⟩ := h
  refine ⟨_, (pss_one (ps_if (PW.pt (pw_or (pt_not (pt_val (pe_call (ok_is_whole_number (K := K) T) (hr.mono (by decide)) (by rfl) T.m_is_whole_number T.k_is_whole_number (b_is_whole_number T) .nil pass0 (pa_cons (pv 1) pa_nil)))) (pw_or (pt_cmpR (op_lt) (pv 1) (pv 2) (nomark _)) (pw_or1 (pt_cmpR (op_gt) (pv 1) (pv 3) (nomark _)))))) (pss_one (ps_raise raises_cx rfl T.x_NoEntry (by rfl) T.m_NoEntry (pa_cons (pe_fstrTII (pv 0) (pv 2) (pv 3)) pa_nil))) pss_nil)), ?_⟩
  walk_at "rda"
  refine ⟨i, rfl, ?_⟩
  walk_at "rda"
  by_cases hlo : i < lo
  ·rw [if_pos hlo]
   exact ⟨hz, h1, h2, fun _ => ⟨by rw [sizeLine_eq]; decide, kE (by omega)⟩⟩
  ·rw [if_neg hlo]
   by_cases hhi : hi < i
   ·rw [if_pos hhi]
    exact ⟨hz, h1, h2, fun _ => ⟨by rw [sizeLine_eq]; decide, kE (by omega)⟩⟩
   ·rw [if_neg hhi]
    exact k ⟨by omega, by omega⟩
def okS : V -> Bool
 | .str x => x.cps.toList.all fun c => decide (97 <= c) && decide (c <= 122)
 | _ => true
theorem okS_all (l : List Nat) : ((l.map fun c => V.str ⟨#[c]⟩).map okS).all id = l.all fun c => decide (97 <= c) && decide (c <= 122) := by
 induction l with
 | nil => rfl
 | cons c l ih =>
  rw [List.map_cons, List.map_cons, List.all_cons, List.all_cons, ih]
  show ((decide (97 <= c) && decide (c <= 122)) && true && _) = _
  rw [Bool.and_true]
theorem nm_all {z : Str} (h1 : 1 <= z.length) (h2 : z.length <= 8) : (z.cps.toList.all fun c => decide (97 <= c) && decide (c <= 122)) = decide (Nm z) := by
 rw [Bool.eq_iff_iff, List.all_eq_true, decide_eq_true_iff]
 constructor
 ·intro h
  refine ⟨h1, h2, fun c hc => ?_⟩
  have := h c hc
  rw [Bool.and_eq_true, decide_eq_true_iff, decide_eq_true_iff] at this
  exact this
 ·intro h c hc
  rw [Bool.and_eq_true, decide_eq_true_iff, decide_eq_true_iff]
  exact h.2.2 c hc
def sp_is_name : Sp := fun vs H Q _ => ∃ z : Str, vs = [.str z] /\ z.length <= 1000 /\ ∀ H', Same H H' -> Q (.bl (decide (Nm z))) H'
theorem ok_is_name (T : Txt K mg A D) : FnOk P w K mg base CX0 1 A.is_name D.is_name ["value"] sp_is_name := by
 refine T.F_is_name.ok sc_is_name (fun vs H Q E h => ?_) (fun cdv A outer s H vs Q E hr h => ?_)
 ·obtain ⟨z, rfl, _⟩ := h; rfl
 ·obtain ⟨z, rfl, hz1, k⟩ := h
  refine ⟨_, (pss_cons (ps_if (PW.pt (pw_or (pt_not (pt_val (pe_callB (call_isTK (K := K)) (by rfl) T.b_isinstance (by decide +kernel) (pa_cons (pv 0) (pa_cons (pe_ty "str" (by rfl) T.b_str (by decide +kernel)) pa_nil))))) (pw_or (pt_cmpR (op_lt) (pe_callB call_len_str (by rfl) T.b_len (by decide +kernel) (pa_cons (pv 0) pa_nil)) pe_int (nomark _)) (pw_or1 (pt_cmpR (op_gt) (pe_callB call_len_str (by rfl) T.b_len (by decide +kernel) (pa_cons (pv 0) pa_nil)) (pe_glob (v := V.int 8) (by rfl) T.g_MOST_LETTERS ⟨_, rfl⟩) (nomark _)))))) (pss_one (ps_ret pe_bl)) pss_nil)
   (pss_one (ps_ret (pe_callB (call_allK (K := K) rfl) (by rfl) T.b_all (by decide +kernel) (pa_cons (pe_comp (cap := [Option.none]) (N' := ["sign"]) rfl (by walk_at "compok") (pi_str (pv 0)) (fun _ _ _ _ => (pg_name (i := 0) (show (["sign"] : List Str).Nodup from by decide +kernel) rfl (Or.inl rfl) (Or.inr rfl))) (fun _ _ _ _ => pts_nil) (fun _ _ _ _ => (pe_chain (op_le_str) (op_le_str) pe_str (pv 0) pe_str))) pa_nil))))), ?_⟩
  walk_at "rda"
  refine ⟨_, .str z, true, by with_unfolding_all rfl, ?_⟩
  walk_at "rda"
  have hz : z.length <= sizeLine := by rw [sizeLine_eq]; omega
  refine ⟨hz, ?_⟩
  by_cases n1 : 1 <= z.length
  rotate_left
  ·rw [if_pos (by omega)]
   rw [decide_eq_false (fun h : Nm z => n1 h.1)] at k
   exact k H (Same.refl H)
  rw [if_neg (by omega)]
  refine ⟨hz, ?_⟩
  by_cases n2 : z.length <= 8
  rotate_left
  ·rw [if_pos (by omega)]
   rw [decide_eq_false (fun h : Nm z => n2 h.2.1)] at k
   exact k H (Same.refl H)
  rw [if_neg (by omega)]
  refine CompP.str (fun σ => ∃ v, σ = [v]) (fun _ => true) (fun v => .bl (okS v)) ⟨Option.none, rfl⟩ hz ?_ ?_
  ·rintro x hx σ H5 R1 R2 ⟨v, rfl⟩ sm k1 k2
   obtain ⟨c, hc, rfl⟩ := List.mem_map.mp hx
   walk_at "rd"
   have ea : (Str.ofString "a").cps.toList = [97] := by decide +kernel
   have ez : (Str.ofString "z").cps.toList = [122] := by decide +kernel
   rw [ea, ez]
   have l1 : ∀ a b : Nat, ([a] < [b]) ↔ a < b := fun a b => by
    rw [List.cons_lt_cons_iff]
    exact ⟨fun h => h.elim id fun h => absurd h.2 (List.not_lt_nil _), .inl⟩
   have hv : (if ¬ [c] < [97] then V.bl !decide ([122] < [c]) else V.bl false) = V.bl (okS (.str ⟨#[c]⟩)) := by
    show _ = V.bl ((decide (97 <= c) && decide (c <= 122)) && true)
    by_cases h1 : 97 <= c
    ·rw [if_pos (by rw [l1]; omega), decide_eq_true h1]
     by_cases h2 : c <= 122
     ·rw [decide_eq_true h2, decide_eq_false (by rw [l1]; omega)]; rfl
     ·rw [decide_eq_false h2, decide_eq_true (by rw [l1]; omega)]; rfl
    ·rw [if_neg (by rw [l1]; omega), decide_eq_false h1]; rfl
   have k1 := k1 rfl [some (V.str { cps := #[c] })] H5 ⟨_, rfl⟩ (Same.refl _)
   rw [<- hv] at k1
   by_cases h1 : ¬ [c] < [97]
   ·rw [if_pos h1] at k1 ⊢; exact k1
   ·rw [if_neg h1] at k1 ⊢; exact k1
  ·intro Da H' hD sm e
   rw [filt_true] at e
   walk_at "rda"
   refine ⟨(L2.signs z).map okS, SqL.of (by rw [e, List.map_map]; rfl), ?_⟩
   have h3 : ((L2.signs z).map okS).all id = decide (Nm z) := (okS_all z.cps.toList).trans (nm_all n1 n2)
   rw [h3]
   exact k H' sm
def sp_check_name (A : Adr) : Sp := fun vs H Q E => ∃ (t z : Str), vs = [.str t, .str z] /\ t.length <= 1000 /\ z.length <= 1000 /\ (Nm z -> ∀ H', Same H H' -> Q .non H') /\ (¬ Nm z -> ∀ H', Same H H' -> E (.ref A.C_NoEntry) Option.none H')
theorem ok_check_name (T : Txt K mg A D) : FnOk P w K mg base (CX1 P w) 2 A.check_name D.check_name ["what", "value"] (sp_check_name A) := by
 refine T.F_check_name.okX sc_check_name (fun vs H Q E h => ?_) (fun cdv A' outer s H vs Q E hr h => ?_)
 ·obtain ⟨t, z, rfl, _⟩ := h; rfl
 ·obtain ⟨t, z, rfl, ht, hz, k, kE⟩ := h
  refine ⟨_, (pss_one (ps_if (pt_not (pt_val (pe_call (ok_is_name (K := K) T) (hr.mono (by decide)) (by rfl) T.m_is_name T.k_is_name (b_is_name T) .nil pass0 (pa_cons (pv 1) pa_nil)))) (pss_one (ps_raise raises_cx rfl T.x_NoEntry (by rfl) T.m_NoEntry (pa_cons (pe_fstrTI (pv 0) (pe_glob (v := V.int 8) (by rfl) T.g_MOST_LETTERS ⟨_, rfl⟩)) pa_nil))) pss_nil)), ?_⟩
  walk_at "rda"
  refine ⟨z, rfl, hz, fun H' s' => ?_⟩
  walk_at "rda"
  by_cases hn : Nm z
  ·rw [if_neg (fun h => h hn)]
   exact k hn H' s'
  ·rw [if_pos hn]
   exact ⟨ht, by decide, fun _ => ⟨by rw [sizeLine_eq]; decide, kE hn H' s'⟩⟩
def sp_check_trade (A : Adr) : Sp := fun vs H Q E => ∃ (p r f : Int), vs = [.int p, .int r, .int f] /\ ((1 <= p /\ p <= 1000000000) /\ (0 <= r /\ r <= 1000000000) /\ (0 <= f /\ f <= 1000000000) -> Q .non H) /\
 (¬ ((1 <= p /\ p <= 1000000000) /\ (0 <= r /\ r <= 1000000000) /\ (0 <= f /\ f <= 1000000000)) -> E (.ref A.C_NoEntry) Option.none H)
theorem ok_check_trade (T : Txt K mg A D) : FnOk P w K mg base (CX1 P w) 3 A.check_trade D.check_trade ["pieces", "price", "fee"] (sp_check_trade A) := by
 refine T.F_check_trade.okX sc_check_trade (fun vs H Q E h => ?_) (fun cdv A' outer s H vs Q E hr h => ?_)
 ·obtain ⟨p, r, f, rfl, _⟩ := h; rfl
 ·obtain ⟨p, r, f, rfl, k, kE⟩ := h
  refine ⟨_, (pss_cons (ps_expr (pe_call (ok_check_number (K := K) T) (hr.mono (by decide)) (by rfl) T.m_check_number T.k_check_number (b_check_number T) .nil passes_cx (pa_cons pe_str (pa_cons (pv 0) (pa_cons pe_int (pa_cons (pe_glob (v := V.int 1000000000) (by rfl) T.g_MOST_PIECES ⟨_, rfl⟩) pa_nil))))))
   (pss_cons (ps_expr (pe_call (ok_check_number (K := K) T) (hr.mono (by decide)) (by rfl) T.m_check_number T.k_check_number (b_check_number T) .nil passes_cx (pa_cons pe_str (pa_cons (pv 1) (pa_cons pe_int (pa_cons (pe_glob (v := V.int 1000000000) (by rfl) T.g_MOST_PRICE ⟨_, rfl⟩) pa_nil))))))
   (pss_one (ps_expr (pe_call (ok_check_number (K := K) T) (hr.mono (by decide)) (by rfl) T.m_check_number T.k_check_number (b_check_number T) .nil passes_cx (pa_cons pe_str (pa_cons (pv 2) (pa_cons pe_int (pa_cons (pe_glob (v := V.int 1000000000) (by rfl) T.g_MOST_FEE ⟨_, rfl⟩) pa_nil))))))))), ?_⟩
  walk_at "rda"
  refine ⟨_, _, _, _, rfl, by decide +kernel, by decide, by decide, fun h1 => ?_, fun h1 => kE fun h => h1 h.1⟩
  walk_at "rda"
  refine ⟨_, _, _, _, rfl, by decide +kernel, by decide, by decide, fun h2 => ?_, fun h2 => kE fun h => h2 h.2.1⟩
  walk_at "rda"
  refine ⟨_, _, _, _, rfl, by decide +kernel, by decide, by decide, fun h3 => ?_, fun h3 => kE fun h => h3 h.2.2⟩
  exact k ⟨h1, h2, h3⟩
end
end My
namespace My
open PySem L2 PyProof.Rows
section
variable {P : Program} {w : World} {K : Fg_} {mg : Str -> Option Value} {base : Heap} {A : Adr} {D : Fds}
abbrev Rs := List (Addr × Int × Int)
def refs (rs : Rs) : List V := rs.map fun r => V.ref r.1
def Lots (H : Hp) (rs : Rs) : Prop := ∀ r ∈ rs, H r.1 = some (.tup [.int r.2.1, .int r.2.2])
theorem Lots.same {H H' : Hp} {rs : Rs} (h : Lots H rs) (s : Same H H') : Lots H' rs := fun r hr => s _ _ (h r hr)
structure GoodN (rs : Rs) (p : Int) : Prop where
 l : rs.length <= 5
 b : ∀ r ∈ rs, 0 <= r.2.1 /\ r.2.1 <= 1000000 /\ 1 <= r.2.2 /\ r.2.2 <= p
 u : (rs.map (·.2.1)).Nodup
 s : (rs.map (·.2.2)).sum = p
def NL (H : Hp) (v : V) : Option Rs -> Prop
 | Option.none => v = .non
 | some rs => ∃ l, v = .ref l /\ H l = some (.lst (refs rs)) /\ Lots H rs
def GoodO (p : Int) : Option Rs -> Prop
 | Option.none => True
 | some rs => GoodN rs p
theorem NL.same {H H' : Hp} {v : V} {o : Option Rs} (h : NL H v o) (s : Same H H') : NL H' v o := by
 cases o with
 | none => exact h
 | some rs => obtain ⟨l, e, h1, h2⟩ := h; exact ⟨l, e, s _ _ h1, h2.same s⟩
theorem putK_len {κ : Type} [DecidableEq κ] (kvs : List (κ × V)) (k : κ) (v : V) : (putK kvs k v).length <= kvs.length + 1 := by
 unfold putK
 split
 ·rw [List.length_map]; omega
 ·rw [List.length_append]; exact Nat.le_refl _
theorem refs_get {rs : Rs} {i : Nat} {y : V} (h : (refs rs)[i]? = some y) : ∃ r, rs[i]? = some r /\ y = .ref r.1 := by
 unfold refs at h
 rw [List.getElem?_map] at h
 cases e : rs[i]? with
 | none => rw [e] at h; cases h
 | some r => rw [e] at h; exact ⟨r, rfl, (Option.some.inj h).symm⟩
theorem fresh_at {rs : Rs} {i : Nat} {r : Addr × Int × Int} (h : (rs.map (·.2.1)).Nodup) (e : rs[i]? = some r) : r.2.1 ∉ (rs.take i).map (·.2.1) := by
 intro hm
 have hl : i < rs.length := (List.getElem?_eq_some_iff.mp e).1
 have h2 : rs.map (·.2.1) = (rs.take i).map (·.2.1) ++ (rs.drop i).map (·.2.1) := by rw [<- List.map_append, List.take_append_drop]
 rw [h2] at h
 have h3 := (List.nodup_append.mp h).2.2 _ hm r.2.1 (by
  rw [List.mem_map]
  exact ⟨r, by rw [List.mem_iff_getElem?]; exact ⟨0, by rw [List.getElem?_drop]; exact e⟩, rfl⟩)
 exact h3 rfl
theorem refs_len (rs : Rs) : (refs rs).length = rs.length := by unfold refs; rw [List.length_map]
def secs (H : Hp) : V -> V
 | .ref a => match H a with
  | some (.tup [_, x]) => x
  | _ => .non
 | _ => .non
theorem secs_at {H : Hp} {r : Addr × Int × Int} (h : H r.1 = some (.tup [.int r.2.1, .int r.2.2])) : secs H (.ref r.1) = .int r.2.2 := by
 show (match H r.1 with | some (.tup [_, x]) => x | _ => .non) = _
 rw [h]
theorem secs_refs {H : Hp} {rs : Rs} (h : Lots H rs) : (refs rs).map (secs H) = rs.map fun r => V.int r.2.2 := by
 unfold refs
 rw [List.map_map]
 exact List.map_congr_left fun r hr => secs_at (h r hr)
theorem take_iff {rs : Rs} {i : Nat} {r : Addr × Int × Int} (e : rs[i]? = some r) : rs.take (i + 1) = rs.take i ++ [r] := by rw [List.take_add_one, e]; rfl
def sp_check_named (K : Fg_) (A : Adr) : Sp := fun vs H Q E => ∃ (v : V) (p : Int) (o : Option Rs), vs = [v, .int p] /\ NL H v o /\ (∀ rs, o = some rs -> rs.length <= 5) /\ p.natAbs < 2 ^ 300 /\
 (GoodO p o -> ∀ H', Same H H' -> Q .non H') /\ (¬ GoodO p o -> ∀ H', Same H H' -> E (.ref A.C_NoEntry) Option.none H')
theorem ok_check_named (T : Txt K mg A D) : FnOk P w K mg base (CX1 P w) 3 A.check_named D.check_named ["named", "pieces"] (sp_check_named K A) := by
 refine T.F_check_named.okX sc_check_named (fun vs H Q E h => ?_) (fun cdv A' outer s H vs Q E hr h => ?_)
 ·obtain ⟨v, p, o, rfl, _⟩ := h; rfl
 ·obtain ⟨v, p, o, rfl, hn, hl5, hp, k, kE⟩ := h
  refine ⟨_, (pss_cons (ps_if (pt_cmpR (op_isN) (pv 0) pe_non (nomark _)) (pss_one (ps_retN)) pss_nil)
   (pss_cons (ps_if (pt_not (pt_val (pe_callB (call_isTK (K := K)) (by rfl) T.b_isinstance (by decide +kernel) (pa_cons (pv 0) (pa_cons (pe_ty "list" (by rfl) T.b_list (by decide +kernel)) pa_nil))))) (pss_one (ps_raise raises_cx rfl T.x_NoEntry (by rfl) T.m_NoEntry (pa_cons pe_str pa_nil))) pss_nil)
   (pss_cons (ps_set (i := 2) sc_check_named.nd rfl (Or.inl rfl) pe_dnewK)
   (pss_cons (ps_for PassesOwn.leaving rfl (pi_listK (K := K) (pv 0)) (pg_tupK (K := K) (n := 2) rfl (pgs_cons (pg_name (i := 3) sc_check_named.nd rfl (Or.inl rfl)) (pgs_cons (pg_name (i := 4) sc_check_named.nd rfl (Or.inl rfl)) pgs_nil)))
    (pss_cons (ps_expr (pe_call (ok_check_number (K := K) T) (hr.mono (by decide)) (by rfl) T.m_check_number T.k_check_number (b_check_number T) .nil passes_cx (pa_cons pe_str (pa_cons (pv 3) (pa_cons pe_int (pa_cons (pe_glob (v := V.int 1000000) (by rfl) T.g_MOST_NUMBER ⟨_, rfl⟩) pa_nil))))))
    (pss_cons (ps_expr (pe_call (ok_check_number (K := K) T) (hr.mono (by decide)) (by rfl) T.m_check_number T.k_check_number (b_check_number T) .nil passes_cx (pa_cons pe_str (pa_cons (pv 4) (pa_cons pe_int (pa_cons (pv 1) pa_nil))))))
    (pss_cons (ps_if (pt_cmpR (op_inDict (hu_of hr)) (pv 3) (pv 2) (by with_unfolding_all rfl)) (pss_one (ps_raise raises_cx rfl T.x_NoEntry (by rfl) T.m_NoEntry (pa_cons (pe_fstrI3 (pv 3)) pa_nil))) pss_nil)
    (pss_one (ps_dput (hu_of hr) (pv 2) (pv 3) pe_bl rfl))))))
   (pss_one (ps_if (pt_cmpR (op_ne) (pe_callB (call_sumK (K := K) rfl) (by rfl) T.b_sum (by decide +kernel) (pa_cons (pe_comp (cap := [Option.none]) (N' := ["pair"]) rfl (by walk_at "compok") (pi_listK (K := K) (pv 0)) (fun _ _ _ _ => (pg_name (i := 0) (show (["pair"] : List Str).Nodup from by decide +kernel) rfl (Or.inl rfl) (Or.inr rfl))) (fun _ _ _ _ => pts_nil) (fun _ _ _ _ => (pe_ix (ix_tupK (K := K)) (pv 0) pe_int (fun _ _ => rfl)))) pa_nil)) (pv 1) (nomark _)) (pss_one (ps_raise raises_cx rfl T.x_NoEntry (by rfl) T.m_NoEntry (pa_cons pe_str pa_nil))) pss_nil)))))), ?_⟩
  cases o with
  | none =>
   cases hn
   walk_at "rda"
   exact k True.intro H (Same.refl H)
  | some rs =>
   obtain ⟨l, rfl, hl, hL⟩ := hn
   have hl5 := hl5 rs rfl
   walk_at "rda"
   refine ⟨_, .lst hl, true, by with_unfolding_all rfl, ?_⟩
   walk_at "rda"
   intro sd hsd
   refine ⟨⟨_, (Same.new hsd).seq (SqL.of hl)⟩, ?_⟩
   refine ForP.list (K := K) (xs := refs rs) (fun i σ H2 => ∃ v3 v4 kvs, σ = [some (.ref l), some (.int p), some (.ref sd), v3, v4] /\ Same H H2 /\ H2 sd = some (.dK kvs) /\ kvs.length <= i /\ (∀ j : Int, (valV kvs (Sum.inl j)).isSome = true ↔ j ∈ (rs.take i).map (·.2.1)) /\ (∀ r ∈ rs.take i, 0 <= r.2.1 /\ r.2.1 <= 1000000 /\ 1 <= r.2.2 /\ r.2.2 <= p) /\ ((rs.take i).map (·.2.1)).Nodup)
    ⟨Option.none, Option.none, [], rfl, Same.new hsd, upd_same, Nat.le_refl _, fun _ => ⟨(fun h => nomatch h), (fun h => nomatch h)⟩, (fun _ h => nomatch h), .nil⟩ (fun i σ H2 _ ⟨_, _, _, _, s2, _⟩ => s2.seq (SqL.of hl)) ?_ ?_
   ·rintro i y σ H2 hi ⟨v3, v4, kvs, rfl, s2, h2, hk, hv, hb, hu⟩
    obtain ⟨r, hri, rfl⟩ := refs_get hi
    have hil : i < rs.length := (List.getElem?_eq_some_iff.mp hri).1
    have hrm : r ∈ rs := List.mem_of_getElem? hri
    walk_at "rd"
    refine ⟨_, SqT.of (s2 _ _ (hL r hrm)), rfl, ?_⟩
    walk_at "rd"
    refine ⟨_, _, _, _, rfl, by decide +kernel, by decide, by decide, fun b1 => ?_, fun b1 => kE (fun hg : GoodN rs p => b1 ⟨(hg.b r hrm).1, (hg.b r hrm).2.1⟩) H2 s2⟩
    refine ⟨_, _, _, _, rfl, by decide +kernel, by decide, hp, fun b2 => ?_, fun b2 => kE (fun hg : GoodN rs p => b2 ⟨(hg.b r hrm).2.2.1, (hg.b r hrm).2.2.2⟩) H2 s2⟩
    walk_at "rda"
    refine ⟨_, DGet.k (k := Sum.inl r.2.1) h2, ?_⟩
    by_cases hs : (valV kvs (Sum.inl r.2.1)).isSome = true
    ·rw [if_pos hs]
     have hno : ¬ GoodO p (some rs) := fun hg : GoodN rs p => fresh_at hg.u hri ((hv _).mp hs)
     exact ⟨Nat.lt_of_le_of_lt (show r.2.1.natAbs <= 1000000 by omega) (by decide), fun _ _ => ⟨by rw [sizeLine_eq]; decide, kE hno H2 s2⟩⟩
    ·rw [if_neg hs]
     have hin : r.2.1 ∉ (rs.take i).map (·.2.1) := fun h => hs ((hv _).mpr h)
     refine ⟨_, DPut.k (k := Sum.inl r.2.1) h2 (by rw [sizeLine_eq]; omega), s2.upd hsd, _, upd_same, ?_, ?_, ?_, ?_⟩
     ·have := putK_len kvs (Sum.inl r.2.1 : Key) (V.bl true)
      omega
     ·intro j
      rw [take_iff hri, List.map_append, List.mem_append, valV_put, <- hv j]
      by_cases e : r.2.1 = j
      ·subst e
       simp
      ·rw [if_neg (fun z => e (Sum.inl.inj z).symm)]
       exact ⟨.inl, fun h => h.elim id fun h => absurd (List.mem_singleton.mp h).symm e⟩
     ·intro q hq
      rw [take_iff hri] at hq
      rcases List.mem_append.mp hq with hq | hq
      ·exact hb q hq
      ·rw [List.mem_singleton.mp hq]
       exact ⟨b1.1, b1.2, b2.1, b2.2⟩
     ·rw [take_iff hri, List.map_append]
      exact List.nodup_append.mpr ⟨hu, by simp, fun a ha b hb' z => by
       rw [List.map_cons, List.map_nil, List.mem_singleton] at hb'
       exact hin (by rw [<- hb', <- z]; exact ha)⟩
   ·rintro σ H2 ⟨v3, v4, kvs, rfl, s2, h2, hk, hv, hb, hu⟩
    rw [refs_len] at hb hu
    rw [List.take_of_length_le (Nat.le_refl _)] at hb hu
    walk_at "rda"
    refine ⟨⟨_, s2.seq (SqL.of hl)⟩, ?_⟩
    refine CompP.list (xs := refs rs) (fun σ => ∃ v, σ = [v]) (fun _ => true) (secs H) (s2.seq (SqL.of hl)) ⟨Option.none, rfl⟩ (by rw [refs_len, sizeLine_eq]; omega) ?_ ?_
    ·rintro x hx σ H5 R1 R2 ⟨v, rfl⟩ sm k1 k2
     obtain ⟨r, hrm, rfl⟩ := List.mem_map.mp hx
     walk_at "rd"
     refine ⟨_, SqT.of (sm _ _ (s2 _ _ (hL r hrm))), _, atI_nat (j := 1) rfl, ?_⟩
     have := k1 rfl [some (V.ref r.1)] H5 ⟨_, rfl⟩ (Same.refl _)
     rw [secs_at (hL r hrm)] at this
     exact this
    ·intro Da H' hD sm e
     rw [filt_true, secs_refs hL] at e
     walk_at "rda"
     refine ⟨rs.map (·.2.2), SqL.of (by rw [e, List.map_map]; rfl), ?_⟩
     by_cases hsum : (rs.map (·.2.2)).sum = p
     ·rw [if_neg (fun z => z hsum)]
      exact k ⟨hl5, hb, hu, hsum⟩ H' (s2.trans sm)
     ·rw [if_pos hsum]
      exact ⟨by rw [sizeLine_eq]; decide, kE (fun hg : GoodN rs p => hsum hg.s) H' (s2.trans sm)⟩
def sp_named_copy (K : Fg_) : Sp := fun vs H Q _ => ∃ (v : V) (o : Option Rs), vs = [v] /\ NL H v o /\ ∀ v' H', Same H H' -> NL H' v' o -> (∀ q, v' = .ref q -> H q = Option.none) -> Q v' H'
theorem ok_named_copy (T : Txt K mg A D) : FnOk P w K mg base CX0 1 A.named_copy D.named_copy ["named"] (sp_named_copy K) := by
 refine T.F_named_copy.ok sc_named_copy (fun vs H Q E h => ?_) (fun cdv A outer s H vs Q E hr h => ?_)
 ·obtain ⟨v, o, rfl, _⟩ := h; rfl
 ·obtain ⟨v, o, rfl, hn, k⟩ := h
  refine ⟨_, (pss_one (ps_ret (pe_ifExp (pt_cmpR (op_isN) (pv 0) pe_non (nomark _)) pe_non (pe_callTy (call_listK (K := K)) (by rfl) T.b_list (by decide +kernel) (pa_cons (pv 0) pa_nil))))), ?_⟩
  cases o with
  | none =>
   cases hn
   walk_at "rda"
   exact k _ H (Same.refl H) rfl (fun q e => by cases e)
  | some rs =>
   obtain ⟨l, rfl, hl, hL⟩ := hn
   walk_at "rda"
   refine ⟨_, .inl (SqL.of hl), fun q hq => k _ _ (Same.new hq) ⟨q, rfl, upd_same, hL.same (Same.new hq)⟩ (fun q' e => by cases e; exact hq)⟩
def NT (H : Hp) (v : V) : Option Rs -> Prop
 | Option.none => v = .non
 | some rs => ∃ l, v = .ref l /\ H l = some (.tup (refs rs)) /\ Lots H rs
theorem NT.same {H H' : Hp} {v : V} {o : Option Rs} (h : NT H v o) (s : Same H H') : NT H' v o := by
 cases o with
 | none => exact h
 | some rs => obtain ⟨l, e, h1, h2⟩ := h; exact ⟨l, e, s _ _ h1, h2.same s⟩
def sp_named_told (K : Fg_) : Sp := fun vs H Q _ => ∃ (v : V) (o : Option Rs), vs = [v] /\ NL H v o /\ ∀ v' H', Same H H' -> NT H' v' o -> Q v' H'
theorem ok_named_told (T : Txt K mg A D) : FnOk P w K mg base CX0 1 A.named_told D.named_told ["named"] (sp_named_told K) := by
 refine T.F_named_told.ok sc_named_told (fun vs H Q E h => ?_) (fun cdv A outer s H vs Q E hr h => ?_)
 ·obtain ⟨v, o, rfl, _⟩ := h; rfl
 ·obtain ⟨v, o, rfl, hn, k⟩ := h
  refine ⟨_, (pss_one (ps_ret (pe_ifExp (pt_cmpR (op_isN) (pv 0) pe_non (nomark _)) pe_non (pe_callTy (call_tupleK (K := K)) (by rfl) T.b_tuple (by decide +kernel) (pa_cons (pv 0) pa_nil))))), ?_⟩
  cases o with
  | none =>
   cases hn
   walk_at "rda"
   exact k _ H (Same.refl H) rfl
  | some rs =>
   obtain ⟨l, rfl, hl, hL⟩ := hn
   walk_at "rda"
   refine ⟨_, .inl ⟨SqL.of hl, fun q hq => k _ _ (Same.new hq) ⟨q, rfl, upd_same, hL.same (Same.new hq)⟩⟩⟩
end
end My
namespace My
open PySem L2 PyProof.Rows
section
variable {P : Program} {w : World} {K : Fg_} {mg : Str -> Option Value} {base : Heap} {A : Adr} {D : Fds}
theorem putF_at {f : Str} {v : V} {fs : List (Str × V)} (ns : List Str) (e : fs.map (·.1) = ns) (h : ns.contains f = false) : putF f v fs = fs ++ [(f, v)] := putF_new f v (e ▸ h)
def fsE (d n : Int) (w : Str) : List (Str × V) := [("day", .int d), ("number", .int n), ("ware", .str w)]
structure Base (d n : Int) (w : Str) : Prop where
 d0 : 0 <= d
 d1 : d <= 1000000
 n0 : 0 <= n
 n1 : n <= 1000000
 w : Nm w
structure CE (K : Fg_) (C : Addr) : Prop where
 c : Cls K C
 d : NoAttr K C "day"
 n : NoAttr K C "number"
 w : NoAttr K C "ware"
structure New (B H : Hp) (x : Addr) (C dx : Addr) (fs : List (Str × V)) : Prop where
 s : Same B H
 n : B x = Option.none
 h : H x = some (.ins C dx fs)
theorem New.put {B H : Hp} {x C dx : Addr} {fs gs : List (Str × V)} (h : New B H x C dx fs) (e : gs = gs) : New B (upd H x (.ins C dx gs)) x C dx gs := ⟨h.s.upd h.n, h.n, upd_same⟩
theorem New.same {B H H' : Hp} {x C dx : Addr} {fs : List (Str × V)} (h : New B H x C dx fs) (e : Same H H') : New B H' x C dx fs := ⟨h.s.trans e, h.n, e _ _ h.h⟩
def sp_Entry___init__ (K : Fg_) (A : Adr) : Sp := fun vs H Q E => ∃ (x : Addr) (d n : Int) (w : Str) (B : Hp) (C dx : Addr), vs = [.ref x, .int d, .int n, .str w] /\ New B H x C dx [] /\ CE K C /\ w.length <= 1000 /\
 (Base d n w -> ∀ H', New B H' x C dx (fsE d n w) -> Q .non H') /\ (¬ Base d n w -> ∀ H', Same B H' -> E (.ref A.C_NoEntry) Option.none H')
theorem ok_Entry___init__ (T : Txt K mg A D) : FnOk P w K mg base (CX1 P w) 3 A.Entry___init__ D.Entry___init__ ["self", "day", "number", "ware"] (sp_Entry___init__ K A) := by
 refine T.F_Entry___init__.okX sc_Entry___init__ (fun vs H Q E h => ?_) (fun cdv A' outer s H vs Q E hr h => ?_)
 ·obtain ⟨x, d, n, w, B, C, dx, rfl, _⟩ := h; rfl
 ·obtain ⟨x, d, n, w, B, C, dx, rfl, hN, hC, hz, k, kE⟩ := h
  refine ⟨_, (pss_cons (ps_expr (pe_call (ok_check_number (K := K) T) (hr.mono (by decide)) (by rfl) T.m_check_number T.k_check_number (b_check_number T) .nil passes_cx (pa_cons pe_str (pa_cons (pv 1) (pa_cons pe_int (pa_cons (pe_glob (v := V.int 1000000) (by rfl) T.g_MOST_DAY ⟨_, rfl⟩) pa_nil))))))
   (pss_cons (ps_expr (pe_call (ok_check_number (K := K) T) (hr.mono (by decide)) (by rfl) T.m_check_number T.k_check_number (b_check_number T) .nil passes_cx (pa_cons pe_str (pa_cons (pv 2) (pa_cons pe_int (pa_cons (pe_glob (v := V.int 1000000) (by rfl) T.g_MOST_NUMBER ⟨_, rfl⟩) pa_nil))))))
   (pss_cons (ps_expr (pe_call (ok_check_name (K := K) T) (hr.mono (by decide)) (by rfl) T.m_check_name T.k_check_name (b_check_name T) .nil passes_cx (pa_cons pe_str (pa_cons (pv 3) pa_nil))))
   (pss_cons (ps_fldK (K := K) (pv 0) (pv 1) rfl)
   (pss_cons (ps_fldK (K := K) (pv 0) (pv 2) rfl)
   (pss_one (ps_fldK (K := K) (pv 0) (pv 3) rfl))))))), ?_⟩
  walk_at "rda"
  refine ⟨_, _, _, _, rfl, by decide +kernel, by decide, by decide, fun gd => ?_, fun b => kE (fun hB => b ⟨hB.d0, hB.d1⟩) _ hN.s⟩
  walk_at "rda"
  refine ⟨_, _, _, _, rfl, by decide +kernel, by decide, by decide, fun gn => ?_, fun b => kE (fun hB => b ⟨hB.n0, hB.n1⟩) _ hN.s⟩
  walk_at "rda"
  refine ⟨_, _, rfl, by decide +kernel, hz, fun gw H' sm => ?_, fun b H' sm => kE (fun hB => b hB.w) _ (hN.s.trans sm)⟩
  have k := k ⟨gd.1, gd.2, gn.1, gn.2, gw⟩
  walk_at "rda"
  have hN := hN.same sm
  refine ⟨C, dx, _, hN.h, hC.c, hC.d, by decide, ?_⟩
  rw [putF_new _ _ (by decide +kernel)]
  have hN := hN.put (gs := [] ++ [(Str.ofString "day", V.int d)]) rfl
  refine ⟨C, dx, _, hN.h, hC.c, hC.n, by simp, ?_⟩
  rw [putF_at (f := Str.ofString "number") ["day"] (by rfl) (by decide +kernel)]
  have hN := hN.put (gs := ([] ++ [(Str.ofString "day", V.int d)]) ++ [(Str.ofString "number", V.int n)]) rfl
  refine ⟨C, dx, _, hN.h, hC.c, hC.w, by simp, ?_⟩
  rw [putF_at (f := Str.ofString "ware") ["day", "number"] (by rfl) (by decide +kernel)]
  exact k _ (hN.put rfl)
end
end My
namespace My
open PySem L2 PyProof.Rows
section
variable {P : Program} {w : World} {K : Fg_} {mg : Str -> Option Value} {base : Heap} {A : Adr} {D : Fds}
theorem NL.updI {H : Hp} {v : V} {o : Option Rs} {x C dx : Addr} {fs : List (Str × V)} {u : HO} (h : NL H v o) (hx : H x = some (.ins C dx fs)) : NL (upd H x u) v o := by
 cases o with
 | none => exact h
 | some rs =>
  obtain ⟨l, e, h1, h2⟩ := h
  refine ⟨l, e, ?_, fun r hr => ?_⟩
  ·rw [upd_ne (fun z => by rw [z, hx] at h1; cases h1)]; exact h1
  ·have h3 := h2 r hr
   rw [upd_ne (fun z => by rw [z, hx] at h3; cases h3)]; exact h3
inductive Ent where
 | buy (d n : Int) (w : Str) (p r f : Int)
 | sell (d n : Int) (w : Str) (p r f : Int) (o : Option Rs)
 | gift (d n : Int) (w : Str) (p c s : Int)
 | give (d n : Int) (w : Str) (p : Int) (o : Option Rs)
 | split (d n : Int) (w : Str) (m f : Int)
 | part (d n : Int) (w u : Str) (s t : Int)
def Rg (lo hi x : Int) : Prop := lo <= x /\ x <= hi
def Ent.good : Ent -> Prop
 | .buy d n w p r f => Base d n w /\ Rg 1 1000000000 p /\ Rg 0 1000000000 r /\ Rg 0 1000000000 f
 | .sell d n w p r f o => Base d n w /\ Rg 1 1000000000 p /\ Rg 0 1000000000 r /\ Rg 0 1000000000 f /\ GoodO p o
 | .gift d n w p c s => Base d n w /\ Rg 1 1000000000 p /\ Rg 0 1000000000000000000 c /\ Rg 0 d s
 | .give d n w p o => Base d n w /\ Rg 1 1000000000 p /\ GoodO p o
 | .split d n w m f => Base d n w /\ Rg 1 1000 m /\ Rg 1 1000 f
 | .part d n w u s t => Base d n w /\ Nm u /\ u ≠ w /\ Rg 1 1000000 t /\ Rg 0 t s
def Ent.fs (nv : V) : Ent -> List (Str × V)
 | .buy d n w p r f => [("day", .int d), ("number", .int n), ("ware", .str w), ("pieces", .int p), ("price", .int r), ("fee", .int f), ("cost", .int (p * r + f))]
 | .sell d n w p r f _ => [("day", .int d), ("number", .int n), ("ware", .str w), ("pieces", .int p), ("price", .int r), ("fee", .int f), ("named", nv), ("proceeds", .int (p * r - f))]
 | .gift d n w p c s => [("day", .int d), ("number", .int n), ("ware", .str w), ("pieces", .int p), ("cost", .int c), ("since", .int s)]
 | .give d n w p _ => [("day", .int d), ("number", .int n), ("ware", .str w), ("pieces", .int p), ("named", nv)]
 | .split d n w m f => [("day", .int d), ("number", .int n), ("ware", .str w), ("many", .int m), ("of", .int f)]
 | .part d n w u s t => [("day", .int d), ("number", .int n), ("ware", .str w), ("other", .str u), ("share", .int s), ("whole", .int t)]
def Ent.word : Ent -> Str
 | .buy .. => "buy"
 | .sell .. => "sell"
 | .gift .. => "gift"
 | .give .. => "give"
 | .split .. => "split"
 | .part .. => "part"
def Ent.args (nv : V) : Ent -> List V
 | .buy d n w p r f => [.int d, .int n, .str w, .int p, .int r, .int f]
 | .sell d n w p r f _ => [.int d, .int n, .str w, .int p, .int r, .int f, nv]
 | .gift d n w p c s => [.int d, .int n, .str w, .int p, .int c, .int s]
 | .give d n w p _ => [.int d, .int n, .str w, .int p, nv]
 | .split d n w m f => [.int d, .int n, .str w, .int m, .int f]
 | .part d n w u s t => [.int d, .int n, .str w, .str u, .int s, .int t]
def Ent.lots : Ent -> Option Rs
 | .sell _ _ _ _ _ _ o => o
 | .give _ _ _ _ o => o
 | _ => Option.none
def Ent.cls (A : Adr) : Ent -> Addr
 | .buy .. => A.C_Buy
 | .sell .. => A.C_Sell
 | .gift .. => A.C_Gift
 | .give .. => A.C_Give
 | .split .. => A.C_Split
 | .part .. => A.C_Parting
def Made (A : Adr) (B H : Hp) (x : Addr) (e : Ent) : Prop := ∃ dx nv, New B H x (e.cls A) dx (e.fs nv) /\ NL H nv e.lots /\ ∀ q, nv = .ref q -> B q = Option.none
def IsE (A : Adr) (H : Hp) (x : Addr) (e : Ent) : Prop := ∃ dx nv, H x = some (.ins (e.cls A) dx (e.fs nv)) /\ NL H nv e.lots
theorem Made.isE {A : Adr} {B H : Hp} {x : Addr} {e : Ent} : Made A B H x e -> IsE A H x e := fun ⟨dx, nv, h, n, _⟩ => ⟨dx, nv, h.h, n⟩
def Ent.sz : Ent -> Prop
 | .buy _ _ w _ _ _ => w.length <= 1000
 | .sell _ _ w _ _ _ o => w.length <= 1000 /\ ∀ rs, o = some rs -> rs.length <= 5
 | .gift _ _ w _ _ _ => w.length <= 1000
 | .give _ _ w _ o => w.length <= 1000 /\ ∀ rs, o = some rs -> rs.length <= 5
 | .split _ _ w _ _ => w.length <= 1000
 | .part _ _ w u _ _ => w.length <= 1000 /\ u.length <= 1000
theorem l300 {i : Int} (h0 : 0 <= i) (h1 : i <= 1000000000) : i.natAbs < 2 ^ 300 := Nat.lt_of_le_of_lt (show i.natAbs <= 1000000000 by omega) (by decide)
def spInit (C : Addr) (A : Adr) (isK : Ent -> Bool) : Sp := fun vs H Q E => ∃ (x : Addr) (e : Ent) (B : Hp) (dx : Addr) (nv : V), isK e = true /\ vs = .ref x :: e.args nv /\ New B H x (e.cls A) dx [] /\ e.sz /\ NL B nv e.lots /\
 (e.good -> ∀ H', Made A B H' x e -> Q .non H') /\ (¬ e.good -> ∀ H', Same B H' -> E (.ref A.C_NoEntry) Option.none H')
def is_buy : Ent -> Bool := fun e => match e with | .buy .. => true | _ => false
theorem ce_Buy (T : Txt K mg A D) : CE K A.C_Buy := ⟨T.cl_Buy, T.n_Buy_day, T.n_Buy_number, T.n_Buy_ware⟩
def is_sell : Ent -> Bool := fun e => match e with | .sell .. => true | _ => false
theorem ce_Sell (T : Txt K mg A D) : CE K A.C_Sell := ⟨T.cl_Sell, T.n_Sell_day, T.n_Sell_number, T.n_Sell_ware⟩
def is_gift : Ent -> Bool := fun e => match e with | .gift .. => true | _ => false
theorem ce_Gift (T : Txt K mg A D) : CE K A.C_Gift := ⟨T.cl_Gift, T.n_Gift_day, T.n_Gift_number, T.n_Gift_ware⟩
def is_give : Ent -> Bool := fun e => match e with | .give .. => true | _ => false
theorem ce_Give (T : Txt K mg A D) : CE K A.C_Give := ⟨T.cl_Give, T.n_Give_day, T.n_Give_number, T.n_Give_ware⟩
def is_split : Ent -> Bool := fun e => match e with | .split .. => true | _ => false
theorem ce_Split (T : Txt K mg A D) : CE K A.C_Split := ⟨T.cl_Split, T.n_Split_day, T.n_Split_number, T.n_Split_ware⟩
def is_part : Ent -> Bool := fun e => match e with | .part .. => true | _ => false
theorem ce_Parting (T : Txt K mg A D) : CE K A.C_Parting := ⟨T.cl_Parting, T.n_Parting_day, T.n_Parting_number, T.n_Parting_ware⟩
theorem ok_Buy___init__ (T : Txt K mg A D) : FnOk P w K mg base (CX1 P w) 4 A.Buy___init__ D.Buy___init__ ["self", "day", "number", "ware", "pieces", "price", "fee"] (spInit A.C_Buy A is_buy) := by
 refine T.F_Buy___init__.okX sc_Buy___init__ (fun vs H Q E h => ?_) (fun cdv A' outer s H vs Q E hr h => ?_)
 ·obtain ⟨x, e, B, dx, nv, hk, rfl, _⟩ := h
  cases e <;> first | rfl | cases hk
 ·obtain ⟨x, e, B, dx, nv, hk, rfl, hN, hsz, hv, k, kE⟩ := h
  cases e with
  | sell => cases hk
  | gift => cases hk
  | give => cases hk
  | split => cases hk
  | part => cases hk
  | buy d n w p r f =>
  refine ⟨_, (pss_cons (ps_expr (pe_clsCall T.cf_Entry___init__ (ok_Entry___init__ (K := K) T) (hr.mono (by decide)) (by rfl) T.m_Entry T.F_Entry___init__.kp (b_Entry___init__ T) .nil passes_cx (pa_cons (pv 0) (pa_cons (pv 1) (pa_cons (pv 2) (pa_cons (pv 3) pa_nil))))))
   (pss_cons (ps_expr (pe_call (ok_check_trade (K := K) T) (hr.mono (by decide)) (by rfl) T.m_check_trade T.k_check_trade (b_check_trade T) .nil passes_cx (pa_cons (pv 4) (pa_cons (pv 5) (pa_cons (pv 6) pa_nil)))))
   (pss_cons (ps_fldK (K := K) (pv 0) (pv 4) rfl)
   (pss_cons (ps_fldK (K := K) (pv 0) (pv 5) rfl)
   (pss_cons (ps_fldK (K := K) (pv 0) (pv 6) rfl)
   (pss_one (ps_fldK (K := K) (pv 0) (pe_op op_add (pe_op op_mulU (pv 4) (pv 5)) (pv 6)) rfl))))))), ?_⟩
  simp only [Ent.args]
  walk_at "rda"
  refine ⟨x, d, n, w, B, _, dx, rfl, hN, ce_Buy T, hsz, fun g1 H1 hN => ?_, fun b H1 s1 => kE (fun hg => b hg.1) H1 s1⟩
  walk_at "rda"
  refine ⟨_, _, _, rfl, fun g2 => ?_, fun b => kE (fun hg => b ⟨hg.2.1, hg.2.2.1, hg.2.2.2⟩) _ hN.s⟩
  have hg : (Ent.buy d n w p r f).good := ⟨g1, g2.1, g2.2.1, g2.2.2⟩
  have k := k hg
  walk_at "rda"
  refine ⟨_, dx, _, hN.h, T.cl_Buy, T.n_Buy_pieces, by simp [fsE], ?_⟩
  rw [putF_at (f := Str.ofString "pieces") ["day", "number", "ware"] (by rfl) (by decide +kernel)]
  have hN := hN.put (gs := (fsE d n w ++ [(Str.ofString "pieces", V.int p)])) rfl
  refine ⟨_, dx, _, hN.h, T.cl_Buy, T.n_Buy_price, by simp [fsE], ?_⟩
  rw [putF_at (f := Str.ofString "price") ["day", "number", "ware", "pieces"] (by rfl) (by decide +kernel)]
  have hN := hN.put (gs := ((fsE d n w ++ [(Str.ofString "pieces", V.int p)]) ++ [(Str.ofString "price", V.int r)])) rfl
  refine ⟨_, dx, _, hN.h, T.cl_Buy, T.n_Buy_fee, by simp [fsE], ?_⟩
  rw [putF_at (f := Str.ofString "fee") ["day", "number", "ware", "pieces", "price"] (by rfl) (by decide +kernel)]
  have hN := hN.put (gs := (((fsE d n w ++ [(Str.ofString "pieces", V.int p)]) ++ [(Str.ofString "price", V.int r)]) ++ [(Str.ofString "fee", V.int f)])) rfl
  refine ⟨CMulU.big (Nat.lt_of_le_of_lt (show p.natAbs <= 1000000000 from by have := hg.2.1; unfold Rg at this; omega) (by decide)) (Nat.lt_of_le_of_lt (show r.natAbs <= 1000000000 from by have := hg.2.2.1; unfold Rg at this; omega) (by decide)), ?_⟩
  refine ⟨_, dx, _, hN.h, T.cl_Buy, T.n_Buy_cost, by simp [fsE], ?_⟩
  rw [putF_at (f := Str.ofString "cost") ["day", "number", "ware", "pieces", "price", "fee"] (by rfl) (by decide +kernel)]
  have hN := hN.put (gs := ((((fsE d n w ++ [(Str.ofString "pieces", V.int p)]) ++ [(Str.ofString "price", V.int r)]) ++ [(Str.ofString "fee", V.int f)]) ++ [(Str.ofString "cost", V.int (p * r + f))])) rfl
  exact k _ ⟨dx, nv, hN, hv.same hN.s, fun q e => by cases hv; cases e⟩
theorem ok_Sell___init__ (T : Txt K mg A D) : FnOk P w K mg base (CX1 P w) 4 A.Sell___init__ D.Sell___init__ ["self", "day", "number", "ware", "pieces", "price", "fee", "named"] (spInit A.C_Sell A is_sell) := by
 refine T.F_Sell___init__.okX sc_Sell___init__ (fun vs H Q E h => ?_) (fun cdv A' outer s H vs Q E hr h => ?_)
 ·obtain ⟨x, e, B, dx, nv, hk, rfl, _⟩ := h
  cases e <;> first | rfl | cases hk
 ·obtain ⟨x, e, B, dx, nv, hk, rfl, hN, hsz, hv, k, kE⟩ := h
  cases e with
  | buy => cases hk
  | gift => cases hk
  | give => cases hk
  | split => cases hk
  | part => cases hk
  | sell d n w p r f o =>
  refine ⟨_, (pss_cons (ps_expr (pe_clsCall T.cf_Entry___init__ (ok_Entry___init__ (K := K) T) (hr.mono (by decide)) (by rfl) T.m_Entry T.F_Entry___init__.kp (b_Entry___init__ T) .nil passes_cx (pa_cons (pv 0) (pa_cons (pv 1) (pa_cons (pv 2) (pa_cons (pv 3) pa_nil))))))
   (pss_cons (ps_expr (pe_call (ok_check_trade (K := K) T) (hr.mono (by decide)) (by rfl) T.m_check_trade T.k_check_trade (b_check_trade T) .nil passes_cx (pa_cons (pv 4) (pa_cons (pv 5) (pa_cons (pv 6) pa_nil)))))
   (pss_cons (ps_expr (pe_call (ok_check_named (K := K) T) (hr.mono (by decide)) (by rfl) T.m_check_named T.k_check_named (b_check_named T) .nil passes_cx (pa_cons (pv 7) (pa_cons (pv 4) pa_nil))))
   (pss_cons (ps_fldK (K := K) (pv 0) (pv 4) rfl)
   (pss_cons (ps_fldK (K := K) (pv 0) (pv 5) rfl)
   (pss_cons (ps_fldK (K := K) (pv 0) (pv 6) rfl)
   (pss_cons (ps_fldK (K := K) (pv 0) (pe_call (ok_named_copy (K := K) T) (hr.mono (by decide)) (by rfl) T.m_named_copy T.k_named_copy (b_named_copy T) .nil pass0 (pa_cons (pv 7) pa_nil)) rfl)
   (pss_one (ps_fldK (K := K) (pv 0) (pe_op op_sub (pe_op op_mulU (pv 4) (pv 5)) (pv 6)) rfl))))))))), ?_⟩
  simp only [Ent.args]
  walk_at "rda"
  refine ⟨x, d, n, w, B, _, dx, rfl, hN, ce_Sell T, hsz.1, fun g1 H1 hN => ?_, fun b H1 s1 => kE (fun hg => b hg.1) H1 s1⟩
  walk_at "rda"
  refine ⟨_, _, _, rfl, fun g2 => ?_, fun b => kE (fun hg => b ⟨hg.2.1, hg.2.2.1, hg.2.2.2.1⟩) _ hN.s⟩
  walk_at "rda"
  refine ⟨_, _, _, rfl, hv.same hN.s, hsz.2, l300 (by have := g2.1.1; omega) g2.1.2, fun g3 H2 sm => ?_, fun b H2 sm => kE (fun hg => b hg.2.2.2.2) H2 (hN.s.trans sm)⟩
  have hg : (Ent.sell d n w p r f o).good := ⟨g1, g2.1, g2.2.1, g2.2.2, g3⟩
  have k := k hg
  have hN := hN.same sm
  walk_at "rda"
  refine ⟨_, dx, _, hN.h, T.cl_Sell, T.n_Sell_pieces, by simp [fsE], ?_⟩
  rw [putF_at (f := Str.ofString "pieces") ["day", "number", "ware"] (by rfl) (by decide +kernel)]
  have hN := hN.put (gs := (fsE d n w ++ [(Str.ofString "pieces", V.int p)])) rfl
  refine ⟨_, dx, _, hN.h, T.cl_Sell, T.n_Sell_price, by simp [fsE], ?_⟩
  rw [putF_at (f := Str.ofString "price") ["day", "number", "ware", "pieces"] (by rfl) (by decide +kernel)]
  have hN := hN.put (gs := ((fsE d n w ++ [(Str.ofString "pieces", V.int p)]) ++ [(Str.ofString "price", V.int r)])) rfl
  refine ⟨_, dx, _, hN.h, T.cl_Sell, T.n_Sell_fee, by simp [fsE], ?_⟩
  rw [putF_at (f := Str.ofString "fee") ["day", "number", "ware", "pieces", "price"] (by rfl) (by decide +kernel)]
  have hN := hN.put (gs := (((fsE d n w ++ [(Str.ofString "pieces", V.int p)]) ++ [(Str.ofString "price", V.int r)]) ++ [(Str.ofString "fee", V.int f)])) rfl
  refine ⟨_, _, rfl, hv.same hN.s, fun v' H3 sm hnl hq => ?_⟩
  have hb : ∀ q, v' = .ref q -> B q = Option.none := fun q e => hN.s.free (hq q e)
  have hN := hN.same sm
  walk_at "rda"
  have hnl := hnl.updI (u := .ins A.C_Sell dx ((((fsE d n w ++ [(Str.ofString "pieces", V.int p)]) ++ [(Str.ofString "price", V.int r)]) ++ [(Str.ofString "fee", V.int f)]) ++ [(Str.ofString "named", v')])) hN.h
  refine ⟨_, dx, _, hN.h, T.cl_Sell, T.n_Sell_named, by simp [fsE], ?_⟩
  rw [putF_at (f := Str.ofString "named") ["day", "number", "ware", "pieces", "price", "fee"] (by rfl) (by decide +kernel)]
  have hN := hN.put (gs := ((((fsE d n w ++ [(Str.ofString "pieces", V.int p)]) ++ [(Str.ofString "price", V.int r)]) ++ [(Str.ofString "fee", V.int f)]) ++ [(Str.ofString "named", v')])) rfl
  refine ⟨CMulU.big (Nat.lt_of_le_of_lt (show p.natAbs <= 1000000000 from by have := hg.2.1; unfold Rg at this; omega) (by decide)) (Nat.lt_of_le_of_lt (show r.natAbs <= 1000000000 from by have := hg.2.2.1; unfold Rg at this; omega) (by decide)), ?_⟩
  have hnl := hnl.updI (u := .ins A.C_Sell dx (((((fsE d n w ++ [(Str.ofString "pieces", V.int p)]) ++ [(Str.ofString "price", V.int r)]) ++ [(Str.ofString "fee", V.int f)]) ++ [(Str.ofString "named", v')]) ++ [(Str.ofString "proceeds", V.int (p * r - f))])) hN.h
  refine ⟨_, dx, _, hN.h, T.cl_Sell, T.n_Sell_proceeds, by simp [fsE], ?_⟩
  rw [putF_at (f := Str.ofString "proceeds") ["day", "number", "ware", "pieces", "price", "fee", "named"] (by rfl) (by decide +kernel)]
  have hN := hN.put (gs := (((((fsE d n w ++ [(Str.ofString "pieces", V.int p)]) ++ [(Str.ofString "price", V.int r)]) ++ [(Str.ofString "fee", V.int f)]) ++ [(Str.ofString "named", v')]) ++ [(Str.ofString "proceeds", V.int (p * r - f))])) rfl
  exact k _ ⟨dx, v', hN, hnl, hb⟩
theorem ok_Gift___init__ (T : Txt K mg A D) : FnOk P w K mg base (CX1 P w) 4 A.Gift___init__ D.Gift___init__ ["self", "day", "number", "ware", "pieces", "cost", "since"] (spInit A.C_Gift A is_gift) := by
 refine T.F_Gift___init__.okX sc_Gift___init__ (fun vs H Q E h => ?_) (fun cdv A' outer s0 H vs Q E hr h => ?_)
 ·obtain ⟨x, e, B, dx, nv, hk, rfl, _⟩ := h
  cases e <;> first | rfl | cases hk
 ·obtain ⟨x, e, B, dx, nv, hk, rfl, hN, hsz, hv, k, kE⟩ := h
  cases e with
  | buy => cases hk
  | sell => cases hk
  | give => cases hk
  | split => cases hk
  | part => cases hk
  | gift d n w p c s =>
  refine ⟨_, (pss_cons (ps_expr (pe_clsCall T.cf_Entry___init__ (ok_Entry___init__ (K := K) T) (hr.mono (by decide)) (by rfl) T.m_Entry T.F_Entry___init__.kp (b_Entry___init__ T) .nil passes_cx (pa_cons (pv 0) (pa_cons (pv 1) (pa_cons (pv 2) (pa_cons (pv 3) pa_nil))))))
   (pss_cons (ps_expr (pe_call (ok_check_number (K := K) T) (hr.mono (by decide)) (by rfl) T.m_check_number T.k_check_number (b_check_number T) .nil passes_cx (pa_cons pe_str (pa_cons (pv 4) (pa_cons pe_int (pa_cons (pe_glob (v := V.int 1000000000) (by rfl) T.g_MOST_PIECES ⟨_, rfl⟩) pa_nil))))))
   (pss_cons (ps_expr (pe_call (ok_check_number (K := K) T) (hr.mono (by decide)) (by rfl) T.m_check_number T.k_check_number (b_check_number T) .nil passes_cx (pa_cons pe_str (pa_cons (pv 5) (pa_cons pe_int (pa_cons (pe_glob (v := V.int 1000000000000000000) (by rfl) T.g_MOST_GIFT_COST ⟨_, rfl⟩) pa_nil))))))
   (pss_cons (ps_expr (pe_call (ok_check_number (K := K) T) (hr.mono (by decide)) (by rfl) T.m_check_number T.k_check_number (b_check_number T) .nil passes_cx (pa_cons pe_str (pa_cons (pv 6) (pa_cons pe_int (pa_cons (pv 1) pa_nil))))))
   (pss_cons (ps_fldK (K := K) (pv 0) (pv 4) rfl)
   (pss_cons (ps_fldK (K := K) (pv 0) (pv 5) rfl)
   (pss_one (ps_fldK (K := K) (pv 0) (pv 6) rfl)))))))), ?_⟩
  simp only [Ent.args]
  walk_at "rda"
  refine ⟨x, d, n, w, B, _, dx, rfl, hN, ce_Gift T, hsz, fun g1 H1 hN => ?_, fun b H1 s1 => kE (fun hg => b hg.1) H1 s1⟩
  walk_at "rda"
  refine ⟨_, _, _, _, rfl, by decide +kernel, by decide, by decide, fun g2 => ?_, fun b => kE (fun hg => b ⟨hg.2.1.1, hg.2.1.2⟩) _ hN.s⟩
  walk_at "rda"
  refine ⟨_, _, _, _, rfl, by decide +kernel, by decide, by decide, fun g3 => ?_, fun b => kE (fun hg => b ⟨hg.2.2.1.1, hg.2.2.1.2⟩) _ hN.s⟩
  walk_at "rda"
  refine ⟨_, _, _, _, rfl, by decide +kernel, by decide, l300 g1.d0 (by have := g1.d1; omega), fun g4 => ?_, fun b => kE (fun hg => b ⟨hg.2.2.2.1, hg.2.2.2.2⟩) _ hN.s⟩
  have hg : (Ent.gift d n w p c s).good := ⟨g1, g2, g3, g4⟩
  have k := k hg
  walk_at "rda"
  refine ⟨_, dx, _, hN.h, T.cl_Gift, T.n_Gift_pieces, by simp [fsE], ?_⟩
  rw [putF_at (f := Str.ofString "pieces") ["day", "number", "ware"] (by rfl) (by decide +kernel)]
  have hN := hN.put (gs := (fsE d n w ++ [(Str.ofString "pieces", V.int p)])) rfl
  refine ⟨_, dx, _, hN.h, T.cl_Gift, T.n_Gift_cost, by simp [fsE], ?_⟩
  rw [putF_at (f := Str.ofString "cost") ["day", "number", "ware", "pieces"] (by rfl) (by decide +kernel)]
  have hN := hN.put (gs := ((fsE d n w ++ [(Str.ofString "pieces", V.int p)]) ++ [(Str.ofString "cost", V.int c)])) rfl
  refine ⟨_, dx, _, hN.h, T.cl_Gift, T.n_Gift_since, by simp [fsE], ?_⟩
  rw [putF_at (f := Str.ofString "since") ["day", "number", "ware", "pieces", "cost"] (by rfl) (by decide +kernel)]
  have hN := hN.put (gs := (((fsE d n w ++ [(Str.ofString "pieces", V.int p)]) ++ [(Str.ofString "cost", V.int c)]) ++ [(Str.ofString "since", V.int s)])) rfl
  exact k _ ⟨dx, nv, hN, hv.same hN.s, fun q e => by cases hv; cases e⟩
theorem ok_Give___init__ (T : Txt K mg A D) : FnOk P w K mg base (CX1 P w) 4 A.Give___init__ D.Give___init__ ["self", "day", "number", "ware", "pieces", "named"] (spInit A.C_Give A is_give) := by
 refine T.F_Give___init__.okX sc_Give___init__ (fun vs H Q E h => ?_) (fun cdv A' outer s H vs Q E hr h => ?_)
 ·obtain ⟨x, e, B, dx, nv, hk, rfl, _⟩ := h
  cases e <;> first | rfl | cases hk
 ·obtain ⟨x, e, B, dx, nv, hk, rfl, hN, hsz, hv, k, kE⟩ := h
  cases e with
  | buy => cases hk
  | sell => cases hk
  | gift => cases hk
  | split => cases hk
  | part => cases hk
  | give d n w p o =>
  refine ⟨_, (pss_cons (ps_expr (pe_clsCall T.cf_Entry___init__ (ok_Entry___init__ (K := K) T) (hr.mono (by decide)) (by rfl) T.m_Entry T.F_Entry___init__.kp (b_Entry___init__ T) .nil passes_cx (pa_cons (pv 0) (pa_cons (pv 1) (pa_cons (pv 2) (pa_cons (pv 3) pa_nil))))))
   (pss_cons (ps_expr (pe_call (ok_check_number (K := K) T) (hr.mono (by decide)) (by rfl) T.m_check_number T.k_check_number (b_check_number T) .nil passes_cx (pa_cons pe_str (pa_cons (pv 4) (pa_cons pe_int (pa_cons (pe_glob (v := V.int 1000000000) (by rfl) T.g_MOST_PIECES ⟨_, rfl⟩) pa_nil))))))
   (pss_cons (ps_expr (pe_call (ok_check_named (K := K) T) (hr.mono (by decide)) (by rfl) T.m_check_named T.k_check_named (b_check_named T) .nil passes_cx (pa_cons (pv 5) (pa_cons (pv 4) pa_nil))))
   (pss_cons (ps_fldK (K := K) (pv 0) (pv 4) rfl)
   (pss_one (ps_fldK (K := K) (pv 0) (pe_call (ok_named_copy (K := K) T) (hr.mono (by decide)) (by rfl) T.m_named_copy T.k_named_copy (b_named_copy T) .nil pass0 (pa_cons (pv 5) pa_nil)) rfl)))))), ?_⟩
  simp only [Ent.args]
  walk_at "rda"
  refine ⟨x, d, n, w, B, _, dx, rfl, hN, ce_Give T, hsz.1, fun g1 H1 hN => ?_, fun b H1 s1 => kE (fun hg => b hg.1) H1 s1⟩
  walk_at "rda"
  refine ⟨_, _, _, _, rfl, by decide +kernel, by decide, by decide, fun g2 => ?_, fun b => kE (fun hg => b ⟨hg.2.1.1, hg.2.1.2⟩) _ hN.s⟩
  walk_at "rda"
  refine ⟨_, _, _, rfl, hv.same hN.s, hsz.2, l300 (by have := g2.1; omega) g2.2, fun g3 H2 sm => ?_, fun b H2 sm => kE (fun hg => b hg.2.2) H2 (hN.s.trans sm)⟩
  have hg : (Ent.give d n w p o).good := ⟨g1, g2, g3⟩
  have k := k hg
  have hN := hN.same sm
  walk_at "rda"
  refine ⟨_, dx, _, hN.h, T.cl_Give, T.n_Give_pieces, by simp [fsE], ?_⟩
  rw [putF_at (f := Str.ofString "pieces") ["day", "number", "ware"] (by rfl) (by decide +kernel)]
  have hN := hN.put (gs := (fsE d n w ++ [(Str.ofString "pieces", V.int p)])) rfl
  refine ⟨_, _, rfl, hv.same hN.s, fun v' H3 sm hnl hq => ?_⟩
  have hb : ∀ q, v' = .ref q -> B q = Option.none := fun q e => hN.s.free (hq q e)
  have hN := hN.same sm
  walk_at "rda"
  have hnl := hnl.updI (u := .ins A.C_Give dx ((fsE d n w ++ [(Str.ofString "pieces", V.int p)]) ++ [(Str.ofString "named", v')])) hN.h
  refine ⟨_, dx, _, hN.h, T.cl_Give, T.n_Give_named, by simp [fsE], ?_⟩
  rw [putF_at (f := Str.ofString "named") ["day", "number", "ware", "pieces"] (by rfl) (by decide +kernel)]
  have hN := hN.put (gs := ((fsE d n w ++ [(Str.ofString "pieces", V.int p)]) ++ [(Str.ofString "named", v')])) rfl
  exact k _ ⟨dx, v', hN, hnl, hb⟩
theorem ok_Split___init__ (T : Txt K mg A D) : FnOk P w K mg base (CX1 P w) 4 A.Split___init__ D.Split___init__ ["self", "day", "number", "ware", "many", "of"] (spInit A.C_Split A is_split) := by
 refine T.F_Split___init__.okX sc_Split___init__ (fun vs H Q E h => ?_) (fun cdv A' outer s H vs Q E hr h => ?_)
 ·obtain ⟨x, e, B, dx, nv, hk, rfl, _⟩ := h
  cases e <;> first | rfl | cases hk
 ·obtain ⟨x, e, B, dx, nv, hk, rfl, hN, hsz, hv, k, kE⟩ := h
  cases e with
  | buy => cases hk
  | sell => cases hk
  | gift => cases hk
  | give => cases hk
  | part => cases hk
  | split d n w m f =>
  refine ⟨_, (pss_cons (ps_expr (pe_clsCall T.cf_Entry___init__ (ok_Entry___init__ (K := K) T) (hr.mono (by decide)) (by rfl) T.m_Entry T.F_Entry___init__.kp (b_Entry___init__ T) .nil passes_cx (pa_cons (pv 0) (pa_cons (pv 1) (pa_cons (pv 2) (pa_cons (pv 3) pa_nil))))))
   (pss_cons (ps_expr (pe_call (ok_check_number (K := K) T) (hr.mono (by decide)) (by rfl) T.m_check_number T.k_check_number (b_check_number T) .nil passes_cx (pa_cons pe_str (pa_cons (pv 4) (pa_cons pe_int (pa_cons (pe_glob (v := V.int 1000) (by rfl) T.g_MOST_SPLIT ⟨_, rfl⟩) pa_nil))))))
   (pss_cons (ps_expr (pe_call (ok_check_number (K := K) T) (hr.mono (by decide)) (by rfl) T.m_check_number T.k_check_number (b_check_number T) .nil passes_cx (pa_cons pe_str (pa_cons (pv 5) (pa_cons pe_int (pa_cons (pe_glob (v := V.int 1000) (by rfl) T.g_MOST_SPLIT ⟨_, rfl⟩) pa_nil))))))
   (pss_cons (ps_fldK (K := K) (pv 0) (pv 4) rfl)
   (pss_one (ps_fldK (K := K) (pv 0) (pv 5) rfl)))))), ?_⟩
  simp only [Ent.args]
  walk_at "rda"
  refine ⟨x, d, n, w, B, _, dx, rfl, hN, ce_Split T, hsz, fun g1 H1 hN => ?_, fun b H1 s1 => kE (fun hg => b hg.1) H1 s1⟩
  walk_at "rda"
  refine ⟨_, _, _, _, rfl, by decide +kernel, by decide, by decide, fun g2 => ?_, fun b => kE (fun hg => b ⟨hg.2.1.1, hg.2.1.2⟩) _ hN.s⟩
  walk_at "rda"
  refine ⟨_, _, _, _, rfl, by decide +kernel, by decide, by decide, fun g3 => ?_, fun b => kE (fun hg => b ⟨hg.2.2.1, hg.2.2.2⟩) _ hN.s⟩
  have hg : (Ent.split d n w m f).good := ⟨g1, g2, g3⟩
  have k := k hg
  walk_at "rda"
  refine ⟨_, dx, _, hN.h, T.cl_Split, T.n_Split_many, by simp [fsE], ?_⟩
  rw [putF_at (f := Str.ofString "many") ["day", "number", "ware"] (by rfl) (by decide +kernel)]
  have hN := hN.put (gs := (fsE d n w ++ [(Str.ofString "many", V.int m)])) rfl
  refine ⟨_, dx, _, hN.h, T.cl_Split, T.n_Split_of, by simp [fsE], ?_⟩
  rw [putF_at (f := Str.ofString "of") ["day", "number", "ware", "many"] (by rfl) (by decide +kernel)]
  have hN := hN.put (gs := ((fsE d n w ++ [(Str.ofString "many", V.int m)]) ++ [(Str.ofString "of", V.int f)])) rfl
  exact k _ ⟨dx, nv, hN, hv.same hN.s, fun q e => by cases hv; cases e⟩
theorem ok_Parting___init__ (T : Txt K mg A D) : FnOk P w K mg base (CX1 P w) 4 A.Parting___init__ D.Parting___init__ ["self", "day", "number", "ware", "other", "share", "whole"] (spInit A.C_Parting A is_part) := by
 refine T.F_Parting___init__.okX sc_Parting___init__ (fun vs H Q E h => ?_) (fun cdv A' outer s0 H vs Q E hr h => ?_)
 ·obtain ⟨x, e, B, dx, nv, hk, rfl, _⟩ := h
  cases e <;> first | rfl | cases hk
 ·obtain ⟨x, e, B, dx, nv, hk, rfl, hN, hsz, hv, k, kE⟩ := h
  cases e with
  | buy => cases hk
  | sell => cases hk
  | gift => cases hk
  | give => cases hk
  | split => cases hk
  | part d n w u s t =>
  refine ⟨_, (pss_cons (ps_expr (pe_clsCall T.cf_Entry___init__ (ok_Entry___init__ (K := K) T) (hr.mono (by decide)) (by rfl) T.m_Entry T.F_Entry___init__.kp (b_Entry___init__ T) .nil passes_cx (pa_cons (pv 0) (pa_cons (pv 1) (pa_cons (pv 2) (pa_cons (pv 3) pa_nil))))))
   (pss_cons (ps_expr (pe_call (ok_check_name (K := K) T) (hr.mono (by decide)) (by rfl) T.m_check_name T.k_check_name (b_check_name T) .nil passes_cx (pa_cons pe_str (pa_cons (pv 4) pa_nil))))
   (pss_cons (ps_if (pt_cmpR (op_eq) (pv 4) (pv 3) (nomark _)) (pss_one (ps_raise raises_cx rfl T.x_NoEntry (by rfl) T.m_NoEntry (pa_cons pe_str pa_nil))) pss_nil)
   (pss_cons (ps_expr (pe_call (ok_check_number (K := K) T) (hr.mono (by decide)) (by rfl) T.m_check_number T.k_check_number (b_check_number T) .nil passes_cx (pa_cons pe_str (pa_cons (pv 6) (pa_cons pe_int (pa_cons (pe_glob (v := V.int 1000000) (by rfl) T.g_MOST_WHOLE ⟨_, rfl⟩) pa_nil))))))
   (pss_cons (ps_expr (pe_call (ok_check_number (K := K) T) (hr.mono (by decide)) (by rfl) T.m_check_number T.k_check_number (b_check_number T) .nil passes_cx (pa_cons pe_str (pa_cons (pv 5) (pa_cons pe_int (pa_cons (pv 6) pa_nil))))))
   (pss_cons (ps_fldK (K := K) (pv 0) (pv 4) rfl)
   (pss_cons (ps_fldK (K := K) (pv 0) (pv 5) rfl)
   (pss_one (ps_fldK (K := K) (pv 0) (pv 6) rfl))))))))), ?_⟩
  simp only [Ent.args]
  walk_at "rda"
  refine ⟨x, d, n, w, B, _, dx, rfl, hN, ce_Parting T, hsz.1, fun g1 H1 hN => ?_, fun b H1 s1 => kE (fun hg => b hg.1) H1 s1⟩
  walk_at "rda"
  refine ⟨_, _, rfl, by decide +kernel, hsz.2, fun g2 H2 sm => ?_, fun b H2 sm => kE (fun hg => b hg.2.1) H2 (hN.s.trans sm)⟩
  have hN := hN.same sm
  walk_at "rda"
  by_cases g3 : u = w
  ·rw [if_pos g3]
   exact ⟨by rw [sizeLine_eq]; decide, kE (fun hg => hg.2.2.1 g3) _ hN.s⟩
  rw [if_neg g3]
  refine ⟨_, _, _, _, rfl, by decide +kernel, by decide, by decide, fun g4 => ?_, fun b => kE (fun hg => b ⟨hg.2.2.2.1.1, hg.2.2.2.1.2⟩) _ hN.s⟩
  walk_at "rda"
  refine ⟨_, _, _, _, rfl, by decide +kernel, by decide, l300 (by have := g4.1; omega) (by have := g4.2; omega), fun g5 => ?_, fun b => kE (fun hg => b ⟨hg.2.2.2.2.1, hg.2.2.2.2.2⟩) _ hN.s⟩
  have hg : (Ent.part d n w u s t).good := ⟨g1, g2, g3, g4, g5⟩
  have k := k hg
  walk_at "rda"
  refine ⟨_, dx, _, hN.h, T.cl_Parting, T.n_Parting_other, by simp [fsE], ?_⟩
  rw [putF_at (f := Str.ofString "other") ["day", "number", "ware"] (by rfl) (by decide +kernel)]
  have hN := hN.put (gs := (fsE d n w ++ [(Str.ofString "other", V.str u)])) rfl
  refine ⟨_, dx, _, hN.h, T.cl_Parting, T.n_Parting_share, by simp [fsE], ?_⟩
  rw [putF_at (f := Str.ofString "share") ["day", "number", "ware", "other"] (by rfl) (by decide +kernel)]
  have hN := hN.put (gs := ((fsE d n w ++ [(Str.ofString "other", V.str u)]) ++ [(Str.ofString "share", V.int s)])) rfl
  refine ⟨_, dx, _, hN.h, T.cl_Parting, T.n_Parting_whole, by simp [fsE], ?_⟩
  rw [putF_at (f := Str.ofString "whole") ["day", "number", "ware", "other", "share"] (by rfl) (by decide +kernel)]
  have hN := hN.put (gs := (((fsE d n w ++ [(Str.ofString "other", V.str u)]) ++ [(Str.ofString "share", V.int s)]) ++ [(Str.ofString "whole", V.int t)])) rfl
  exact k _ ⟨dx, nv, hN, hv.same hN.s, fun q e => by cases hv; cases e⟩
end
end My
namespace My
open PySem L2 PyProof.Rows
section
variable {P : Program} {w : World} {K : Fg_} {mg : Str -> Option Value} {base : Heap} {A : Adr} {D : Fds}
def spWord (isK : Ent -> Bool) : Sp := fun vs H Q _ => ∃ (x : Addr) (e : Ent), isK e = true /\ vs = [.ref x] /\ Q (.str e.word) H
def spTold (A : Adr) (isK : Ent -> Bool) : Sp := fun vs H Q _ => ∃ (x : Addr) (e : Ent), isK e = true /\ vs = [.ref x] /\ IsE A H x e /\
 ∀ t nt H', Same H H' -> H t = Option.none -> H' t = some (.tup (.str e.word :: e.args nt)) -> NT H' nt e.lots -> Q (.ref t) H'
theorem ok_Buy_word (T : Txt K mg A D) : FnOk P w K mg base CX0 1 A.Buy_word D.Buy_word ["self"] (spWord is_buy) := by
 refine T.F_Buy_word.ok sc_Buy_word (fun vs H Q E h => ?_) (fun cdv A' outer s0 H vs Q E hr h => ?_)
 ·obtain ⟨x, e, hk, rfl, _⟩ := h; rfl
 ·obtain ⟨x, e, hk, rfl, k⟩ := h
  refine ⟨_, (pss_one (ps_ret pe_str)), ?_⟩
  walk_at "rda"
  cases e <;> first | exact k | cases hk
theorem ok_Sell_word (T : Txt K mg A D) : FnOk P w K mg base CX0 1 A.Sell_word D.Sell_word ["self"] (spWord is_sell) := by
 refine T.F_Sell_word.ok sc_Sell_word (fun vs H Q E h => ?_) (fun cdv A' outer s0 H vs Q E hr h => ?_)
 ·obtain ⟨x, e, hk, rfl, _⟩ := h; rfl
 ·obtain ⟨x, e, hk, rfl, k⟩ := h
  refine ⟨_, (pss_one (ps_ret pe_str)), ?_⟩
  walk_at "rda"
  cases e <;> first | exact k | cases hk
theorem ok_Gift_word (T : Txt K mg A D) : FnOk P w K mg base CX0 1 A.Gift_word D.Gift_word ["self"] (spWord is_gift) := by
 refine T.F_Gift_word.ok sc_Gift_word (fun vs H Q E h => ?_) (fun cdv A' outer s0 H vs Q E hr h => ?_)
 ·obtain ⟨x, e, hk, rfl, _⟩ := h; rfl
 ·obtain ⟨x, e, hk, rfl, k⟩ := h
  refine ⟨_, (pss_one (ps_ret pe_str)), ?_⟩
  walk_at "rda"
  cases e <;> first | exact k | cases hk
theorem ok_Give_word (T : Txt K mg A D) : FnOk P w K mg base CX0 1 A.Give_word D.Give_word ["self"] (spWord is_give) := by
 refine T.F_Give_word.ok sc_Give_word (fun vs H Q E h => ?_) (fun cdv A' outer s0 H vs Q E hr h => ?_)
 ·obtain ⟨x, e, hk, rfl, _⟩ := h; rfl
 ·obtain ⟨x, e, hk, rfl, k⟩ := h
  refine ⟨_, (pss_one (ps_ret pe_str)), ?_⟩
  walk_at "rda"
  cases e <;> first | exact k | cases hk
theorem ok_Split_word (T : Txt K mg A D) : FnOk P w K mg base CX0 1 A.Split_word D.Split_word ["self"] (spWord is_split) := by
 refine T.F_Split_word.ok sc_Split_word (fun vs H Q E h => ?_) (fun cdv A' outer s0 H vs Q E hr h => ?_)
 ·obtain ⟨x, e, hk, rfl, _⟩ := h; rfl
 ·obtain ⟨x, e, hk, rfl, k⟩ := h
  refine ⟨_, (pss_one (ps_ret pe_str)), ?_⟩
  walk_at "rda"
  cases e <;> first | exact k | cases hk
theorem ok_Parting_word (T : Txt K mg A D) : FnOk P w K mg base CX0 1 A.Parting_word D.Parting_word ["self"] (spWord is_part) := by
 refine T.F_Parting_word.ok sc_Parting_word (fun vs H Q E h => ?_) (fun cdv A' outer s0 H vs Q E hr h => ?_)
 ·obtain ⟨x, e, hk, rfl, _⟩ := h; rfl
 ·obtain ⟨x, e, hk, rfl, k⟩ := h
  refine ⟨_, (pss_one (ps_ret pe_str)), ?_⟩
  walk_at "rda"
  cases e <;> first | exact k | cases hk
theorem ok_Buy_told (T : Txt K mg A D) : FnOk P w K mg base CX0 2 A.Buy_told D.Buy_told ["self"] (spTold A is_buy) := by
 refine T.F_Buy_told.ok sc_Buy_told (fun vs H Q E h => ?_) (fun cdv A' outer s0 H vs Q E hr h => ?_)
 ·obtain ⟨x, e, hk, rfl, _⟩ := h; rfl
 ·obtain ⟨x, e, hk, rfl, ⟨dx, nv, hx, hn⟩, k⟩ := h
  refine ⟨_, (pss_one (ps_ret (pe_tup (pa_cons (pe_methD0 (pv 0) (.cons T.cl_Buy T.me_Buy_word (ok_Buy_word (K := K) T) (hr.mono (by decide)) (b_Buy_word T) .nil) pass0) (pa_cons (pe_fldK (K := K) (pv 0) rfl) (pa_cons (pe_fldK (K := K) (pv 0) rfl) (pa_cons (pe_fldK (K := K) (pv 0) rfl) (pa_cons (pe_fldK (K := K) (pv 0) rfl) (pa_cons (pe_fldK (K := K) (pv 0) rfl) (pa_cons (pe_fldK (K := K) (pv 0) rfl) pa_nil)))))))))), ?_⟩
  cases e with
  | sell => cases hk
  | gift => cases hk
  | give => cases hk
  | split => cases hk
  | part => cases hk
  | buy d n w p r f =>
  walk_at "rda"
  refine ⟨_, dx, _, hx, _, List.mem_cons_self, by rfl, ?_⟩
  refine ⟨x, .buy d n w p r f, rfl, rfl, ?_⟩
  refine ⟨_, dx, _, hx, T.cl_Buy, T.n_Buy_day, _, by rfl, ?_⟩
  refine ⟨_, dx, _, hx, T.cl_Buy, T.n_Buy_number, _, by rfl, ?_⟩
  refine ⟨_, dx, _, hx, T.cl_Buy, T.n_Buy_ware, _, by rfl, ?_⟩
  refine ⟨_, dx, _, hx, T.cl_Buy, T.n_Buy_pieces, _, by rfl, ?_⟩
  refine ⟨_, dx, _, hx, T.cl_Buy, T.n_Buy_price, _, by rfl, ?_⟩
  refine ⟨_, dx, _, hx, T.cl_Buy, T.n_Buy_fee, _, by rfl, ?_⟩
  refine ⟨by rw [sizeLine_eq]; decide, fun t ht => k t .non _ (Same.new ht) ht upd_same rfl⟩
theorem ok_Sell_told (T : Txt K mg A D) : FnOk P w K mg base CX0 2 A.Sell_told D.Sell_told ["self"] (spTold A is_sell) := by
 refine T.F_Sell_told.ok sc_Sell_told (fun vs H Q E h => ?_) (fun cdv A' outer s0 H vs Q E hr h => ?_)
 ·obtain ⟨x, e, hk, rfl, _⟩ := h; rfl
 ·obtain ⟨x, e, hk, rfl, ⟨dx, nv, hx, hn⟩, k⟩ := h
  refine ⟨_, (pss_cons (ps_set (i := 1) sc_Sell_told.nd rfl (Or.inl rfl) (pe_call (ok_named_told (K := K) T) (hr.mono (by decide)) (by rfl) T.m_named_told T.k_named_told (b_named_told T) .nil pass0 (pa_cons (pe_fldK (K := K) (pv 0) rfl) pa_nil)))
   (pss_one (ps_ret (pe_tup (pa_cons (pe_methD0 (pv 0) (.cons T.cl_Sell T.me_Sell_word (ok_Sell_word (K := K) T) (hr.mono (by decide)) (b_Sell_word T) .nil) pass0) (pa_cons (pe_fldK (K := K) (pv 0) rfl) (pa_cons (pe_fldK (K := K) (pv 0) rfl) (pa_cons (pe_fldK (K := K) (pv 0) rfl) (pa_cons (pe_fldK (K := K) (pv 0) rfl) (pa_cons (pe_fldK (K := K) (pv 0) rfl) (pa_cons (pe_fldK (K := K) (pv 0) rfl) (pa_cons (pv 1) pa_nil)))))))))))), ?_⟩
  cases e with
  | buy => cases hk
  | gift => cases hk
  | give => cases hk
  | split => cases hk
  | part => cases hk
  | sell d n w p r f o =>
  walk_at "rda"
  refine ⟨_, dx, _, hx, T.cl_Sell, T.n_Sell_named, _, by rfl, ?_⟩
  refine ⟨_, _, rfl, hn, fun nt H1 s1 h1 => ?_⟩
  walk_at "rda"
  refine ⟨_, dx, _, (s1 _ _ hx), _, List.mem_cons_self, by rfl, ?_⟩
  refine ⟨x, .sell d n w p r f o, rfl, rfl, ?_⟩
  refine ⟨_, dx, _, (s1 _ _ hx), T.cl_Sell, T.n_Sell_day, _, by rfl, ?_⟩
  refine ⟨_, dx, _, (s1 _ _ hx), T.cl_Sell, T.n_Sell_number, _, by rfl, ?_⟩
  refine ⟨_, dx, _, (s1 _ _ hx), T.cl_Sell, T.n_Sell_ware, _, by rfl, ?_⟩
  refine ⟨_, dx, _, (s1 _ _ hx), T.cl_Sell, T.n_Sell_pieces, _, by rfl, ?_⟩
  refine ⟨_, dx, _, (s1 _ _ hx), T.cl_Sell, T.n_Sell_price, _, by rfl, ?_⟩
  refine ⟨_, dx, _, (s1 _ _ hx), T.cl_Sell, T.n_Sell_fee, _, by rfl, ?_⟩
  refine ⟨by rw [sizeLine_eq]; decide, fun t ht => k t nt _ (s1.upd (s1.free ht)) (s1.free ht) upd_same (h1.same (Same.new ht))⟩
theorem ok_Gift_told (T : Txt K mg A D) : FnOk P w K mg base CX0 2 A.Gift_told D.Gift_told ["self"] (spTold A is_gift) := by
 refine T.F_Gift_told.ok sc_Gift_told (fun vs H Q E h => ?_) (fun cdv A' outer s0 H vs Q E hr h => ?_)
 ·obtain ⟨x, e, hk, rfl, _⟩ := h; rfl
 ·obtain ⟨x, e, hk, rfl, ⟨dx, nv, hx, hn⟩, k⟩ := h
  refine ⟨_, (pss_one (ps_ret (pe_tup (pa_cons (pe_methD0 (pv 0) (.cons T.cl_Gift T.me_Gift_word (ok_Gift_word (K := K) T) (hr.mono (by decide)) (b_Gift_word T) .nil) pass0) (pa_cons (pe_fldK (K := K) (pv 0) rfl) (pa_cons (pe_fldK (K := K) (pv 0) rfl) (pa_cons (pe_fldK (K := K) (pv 0) rfl) (pa_cons (pe_fldK (K := K) (pv 0) rfl) (pa_cons (pe_fldK (K := K) (pv 0) rfl) (pa_cons (pe_fldK (K := K) (pv 0) rfl) pa_nil)))))))))), ?_⟩
  cases e with
  | buy => cases hk
  | sell => cases hk
  | give => cases hk
  | split => cases hk
  | part => cases hk
  | gift d n w p c s =>
  walk_at "rda"
  refine ⟨_, dx, _, hx, _, List.mem_cons_self, by rfl, ?_⟩
  refine ⟨x, .gift d n w p c s, rfl, rfl, ?_⟩
  refine ⟨_, dx, _, hx, T.cl_Gift, T.n_Gift_day, _, by rfl, ?_⟩
  refine ⟨_, dx, _, hx, T.cl_Gift, T.n_Gift_number, _, by rfl, ?_⟩
  refine ⟨_, dx, _, hx, T.cl_Gift, T.n_Gift_ware, _, by rfl, ?_⟩
  refine ⟨_, dx, _, hx, T.cl_Gift, T.n_Gift_pieces, _, by rfl, ?_⟩
  refine ⟨_, dx, _, hx, T.cl_Gift, T.n_Gift_cost, _, by rfl, ?_⟩
  refine ⟨_, dx, _, hx, T.cl_Gift, T.n_Gift_since, _, by rfl, ?_⟩
  refine ⟨by rw [sizeLine_eq]; decide, fun t ht => k t .non _ (Same.new ht) ht upd_same rfl⟩
theorem ok_Give_told (T : Txt K mg A D) : FnOk P w K mg base CX0 2 A.Give_told D.Give_told ["self"] (spTold A is_give) := by
 refine T.F_Give_told.ok sc_Give_told (fun vs H Q E h => ?_) (fun cdv A' outer s0 H vs Q E hr h => ?_)
 ·obtain ⟨x, e, hk, rfl, _⟩ := h; rfl
 ·obtain ⟨x, e, hk, rfl, ⟨dx, nv, hx, hn⟩, k⟩ := h
  refine ⟨_, (pss_one (ps_ret (pe_tup (pa_cons (pe_methD0 (pv 0) (.cons T.cl_Give T.me_Give_word (ok_Give_word (K := K) T) (hr.mono (by decide)) (b_Give_word T) .nil) pass0) (pa_cons (pe_fldK (K := K) (pv 0) rfl) (pa_cons (pe_fldK (K := K) (pv 0) rfl) (pa_cons (pe_fldK (K := K) (pv 0) rfl) (pa_cons (pe_fldK (K := K) (pv 0) rfl) (pa_cons (pe_call (ok_named_told (K := K) T) (hr.mono (by decide)) (by rfl) T.m_named_told T.k_named_told (b_named_told T) .nil pass0 (pa_cons (pe_fldK (K := K) (pv 0) rfl) pa_nil)) pa_nil))))))))), ?_⟩
  cases e with
  | buy => cases hk
  | sell => cases hk
  | gift => cases hk
  | split => cases hk
  | part => cases hk
  | give d n w p o =>
  walk_at "rda"
  refine ⟨_, dx, _, hx, _, List.mem_cons_self, by rfl, ?_⟩
  refine ⟨x, .give d n w p o, rfl, rfl, ?_⟩
  refine ⟨_, dx, _, hx, T.cl_Give, T.n_Give_day, _, by rfl, ?_⟩
  refine ⟨_, dx, _, hx, T.cl_Give, T.n_Give_number, _, by rfl, ?_⟩
  refine ⟨_, dx, _, hx, T.cl_Give, T.n_Give_ware, _, by rfl, ?_⟩
  refine ⟨_, dx, _, hx, T.cl_Give, T.n_Give_pieces, _, by rfl, ?_⟩
  refine ⟨_, dx, _, hx, T.cl_Give, T.n_Give_named, _, by rfl, ?_⟩
  refine ⟨_, _, rfl, hn, fun nt H1 s1 h1 => ?_⟩
  walk_at "rda"
  refine ⟨by rw [sizeLine_eq]; decide, fun t ht => k t nt _ (s1.upd (s1.free ht)) (s1.free ht) upd_same (h1.same (Same.new ht))⟩
theorem ok_Split_told (T : Txt K mg A D) : FnOk P w K mg base CX0 2 A.Split_told D.Split_told ["self"] (spTold A is_split) := by
 refine T.F_Split_told.ok sc_Split_told (fun vs H Q E h => ?_) (fun cdv A' outer s0 H vs Q E hr h => ?_)
 ·obtain ⟨x, e, hk, rfl, _⟩ := h; rfl
 ·obtain ⟨x, e, hk, rfl, ⟨dx, nv, hx, hn⟩, k⟩ := h
  refine ⟨_, (pss_one (ps_ret (pe_tup (pa_cons (pe_methD0 (pv 0) (.cons T.cl_Split T.me_Split_word (ok_Split_word (K := K) T) (hr.mono (by decide)) (b_Split_word T) .nil) pass0) (pa_cons (pe_fldK (K := K) (pv 0) rfl) (pa_cons (pe_fldK (K := K) (pv 0) rfl) (pa_cons (pe_fldK (K := K) (pv 0) rfl) (pa_cons (pe_fldK (K := K) (pv 0) rfl) (pa_cons (pe_fldK (K := K) (pv 0) rfl) pa_nil))))))))), ?_⟩
  cases e with
  | buy => cases hk
  | sell => cases hk
  | gift => cases hk
  | give => cases hk
  | part => cases hk
  | split d n w m f =>
  walk_at "rda"
  refine ⟨_, dx, _, hx, _, List.mem_cons_self, by rfl, ?_⟩
  refine ⟨x, .split d n w m f, rfl, rfl, ?_⟩
  refine ⟨_, dx, _, hx, T.cl_Split, T.n_Split_day, _, by rfl, ?_⟩
  refine ⟨_, dx, _, hx, T.cl_Split, T.n_Split_number, _, by rfl, ?_⟩
  refine ⟨_, dx, _, hx, T.cl_Split, T.n_Split_ware, _, by rfl, ?_⟩
  refine ⟨_, dx, _, hx, T.cl_Split, T.n_Split_many, _, by rfl, ?_⟩
  refine ⟨_, dx, _, hx, T.cl_Split, T.n_Split_of, _, by rfl, ?_⟩
  refine ⟨by rw [sizeLine_eq]; decide, fun t ht => k t .non _ (Same.new ht) ht upd_same rfl⟩
theorem ok_Parting_told (T : Txt K mg A D) : FnOk P w K mg base CX0 2 A.Parting_told D.Parting_told ["self"] (spTold A is_part) := by
 refine T.F_Parting_told.ok sc_Parting_told (fun vs H Q E h => ?_) (fun cdv A' outer s0 H vs Q E hr h => ?_)
 ·obtain ⟨x, e, hk, rfl, _⟩ := h; rfl
 ·obtain ⟨x, e, hk, rfl, ⟨dx, nv, hx, hn⟩, k⟩ := h
  refine ⟨_, (pss_one (ps_ret (pe_tup (pa_cons (pe_methD0 (pv 0) (.cons T.cl_Parting T.me_Parting_word (ok_Parting_word (K := K) T) (hr.mono (by decide)) (b_Parting_word T) .nil) pass0) (pa_cons (pe_fldK (K := K) (pv 0) rfl) (pa_cons (pe_fldK (K := K) (pv 0) rfl) (pa_cons (pe_fldK (K := K) (pv 0) rfl) (pa_cons (pe_fldK (K := K) (pv 0) rfl) (pa_cons (pe_fldK (K := K) (pv 0) rfl) (pa_cons (pe_fldK (K := K) (pv 0) rfl) pa_nil)))))))))), ?_⟩
  cases e with
  | buy => cases hk
  | sell => cases hk
  | gift => cases hk
  | give => cases hk
  | split => cases hk
  | part d n w u s t =>
  walk_at "rda"
  refine ⟨_, dx, _, hx, _, List.mem_cons_self, by rfl, ?_⟩
  refine ⟨x, .part d n w u s t, rfl, rfl, ?_⟩
  refine ⟨_, dx, _, hx, T.cl_Parting, T.n_Parting_day, _, by rfl, ?_⟩
  refine ⟨_, dx, _, hx, T.cl_Parting, T.n_Parting_number, _, by rfl, ?_⟩
  refine ⟨_, dx, _, hx, T.cl_Parting, T.n_Parting_ware, _, by rfl, ?_⟩
  refine ⟨_, dx, _, hx, T.cl_Parting, T.n_Parting_other, _, by rfl, ?_⟩
  refine ⟨_, dx, _, hx, T.cl_Parting, T.n_Parting_share, _, by rfl, ?_⟩
  refine ⟨_, dx, _, hx, T.cl_Parting, T.n_Parting_whole, _, by rfl, ?_⟩
  refine ⟨by rw [sizeLine_eq]; decide, fun t ht => k t .non _ (Same.new ht) ht upd_same rfl⟩
end
end My
namespace My
open PySem L2 PyProof.Rows
section
variable {P : Program} {w : World} {K : Fg_} {mg : Str -> Option Value} {base : Heap} {A : Adr} {D : Fds}
theorem cut_from (xs : List V) (n : Nat) : cutV xs (some (n : Int)) none = xs.drop n := by
 unfold cutV
 rw [HT.sIx_none, HT.sIx_nat]
 rcases Nat.le_total n xs.length with h | h
 ·rw [Nat.min_eq_left h, List.take_of_length_le (by rw [List.length_drop]; exact Nat.le_refl _)]
 ·rw [Nat.min_eq_right h, List.drop_of_length_le (Nat.le_refl _), List.drop_of_length_le h, List.take_nil]
end
end My
namespace My
open PySem L2 PyProof.Rows
section
variable {P : Program} {w : World} {K : Fg_} {mg : Str -> Option Value} {base : Heap} {A : Adr} {D : Fds}
local macro_rules | `(tactic| walk_at "nx") => `(tactic| (rw [ap_seq]; walk_at "rdi"))
theorem tail1 (x : V) (r : List V) : cutV (x :: r) (some 1) Option.none = r := cut_from (x :: r) 1
theorem tail1_ne (x : V) (r : List V) : ¬ (HT.sIx (x :: r).length 0 (some 1) = 0 /\ HT.sIx (x :: r).length (x :: r).length Option.none = (x :: r).length) := fun h => by
 have h1 := h.1
 rw [show (1 : Int) = ((1 : Nat) : Int) from rfl, HT.sIx_nat, List.length_cons] at h1
 omega
def TupE (H : Hp) (t : Addr) (e : Ent) : Prop := ∃ nt, H t = some (.tup (.str e.word :: e.args nt)) /\ NT H nt e.lots
theorem TupE.same {H H' : Hp} {t : Addr} {e : Ent} (s : Same H H') : TupE H t e -> TupE H' t e := fun ⟨nt, h, n⟩ => ⟨nt, s _ _ h, n.same s⟩
theorem new_mk {H : Hp} {x dx C : Addr} (hx : H x = Option.none) (hdx : H dx = Option.none) : New H (upd (upd H dx (.own x)) x (.ins C dx [])) x C dx [] := ⟨(Same.new hdx).upd hx, hx, upd_same⟩
def sp__law_made (A : Adr) : Sp := fun vs H Q E => ∃ (t : Addr) (e : Ent), vs = [.ref t] /\ TupE H t e /\ e.sz /\ (e.good -> ∀ x B H', Same H B -> Made A B H' x e -> Q (.ref x) H') /\ (¬ e.good -> ∀ H', Same H H' -> E (.ref A.C_NoEntry) Option.none H')
theorem ok__law_made (T : Txt K mg A D) : FnOk P w K mg base (CX1 P w) 6 A._law_made D._law_made ["_law_told"] (sp__law_made A) := by
 refine T.F__law_made.okX sc__law_made (fun vs H Q E h => ?_) (fun cdv A' outer s0 H vs Q E hr h => ?_)
 ·obtain ⟨t, e, rfl, _⟩ := h; rfl
 ·obtain ⟨tt, e, rfl, ⟨nt, ht, hnt⟩, hg, k, kE⟩ := h
  refine ⟨_, (pss_cons (ps_set (i := 1) sc__law_made.nd rfl (Or.inl rfl) (pe_slice (sl_tupK (K := K)) (pv 0) (po_some pe_int) po_none))
   (pss_cons (ps_if (pt_cmpR (op_eq) (pe_ix (ix_tupK (K := K)) (pv 0) pe_int (fun _ _ => rfl)) pe_str (nomark _)) (pss_one (ps_ret (pe_make T.mk_Buy (ok_Buy___init__ (K := K) T) (hr.mono (by decide)) (by rfl) T.m_Buy (b_Buy___init___7 T).choose_spec.1 (b_Buy___init___7 T).choose_spec.2 passes_cx (pa_cons (pe_ix (ix_tupK (K := K)) (pv 1) pe_int (fun _ _ => rfl)) (pa_cons (pe_ix (ix_tupK (K := K)) (pv 1) pe_int (fun _ _ => rfl)) (pa_cons (pe_ix (ix_tupK (K := K)) (pv 1) pe_int (fun _ _ => rfl)) (pa_cons (pe_ix (ix_tupK (K := K)) (pv 1) pe_int (fun _ _ => rfl)) (pa_cons (pe_ix (ix_tupK (K := K)) (pv 1) pe_int (fun _ _ => rfl)) (pa_cons (pe_ix (ix_tupK (K := K)) (pv 1) pe_int (fun _ _ => rfl)) pa_nil))))))))) pss_nil)
   (pss_cons (ps_if (pt_cmpR (op_eq) (pe_ix (ix_tupK (K := K)) (pv 0) pe_int (fun _ _ => rfl)) pe_str (nomark _)) (pss_one (ps_ret (pe_make T.mk_Gift (ok_Gift___init__ (K := K) T) (hr.mono (by decide)) (by rfl) T.m_Gift (b_Gift___init__ T) .nil passes_cx (pa_cons (pe_ix (ix_tupK (K := K)) (pv 1) pe_int (fun _ _ => rfl)) (pa_cons (pe_ix (ix_tupK (K := K)) (pv 1) pe_int (fun _ _ => rfl)) (pa_cons (pe_ix (ix_tupK (K := K)) (pv 1) pe_int (fun _ _ => rfl)) (pa_cons (pe_ix (ix_tupK (K := K)) (pv 1) pe_int (fun _ _ => rfl)) (pa_cons (pe_ix (ix_tupK (K := K)) (pv 1) pe_int (fun _ _ => rfl)) (pa_cons (pe_ix (ix_tupK (K := K)) (pv 1) pe_int (fun _ _ => rfl)) pa_nil))))))))) pss_nil)
   (pss_cons (ps_if (pt_cmpR (op_eq) (pe_ix (ix_tupK (K := K)) (pv 0) pe_int (fun _ _ => rfl)) pe_str (nomark _)) (pss_one (ps_ret (pe_make T.mk_Split (ok_Split___init__ (K := K) T) (hr.mono (by decide)) (by rfl) T.m_Split (b_Split___init__ T) .nil passes_cx (pa_cons (pe_ix (ix_tupK (K := K)) (pv 1) pe_int (fun _ _ => rfl)) (pa_cons (pe_ix (ix_tupK (K := K)) (pv 1) pe_int (fun _ _ => rfl)) (pa_cons (pe_ix (ix_tupK (K := K)) (pv 1) pe_int (fun _ _ => rfl)) (pa_cons (pe_ix (ix_tupK (K := K)) (pv 1) pe_int (fun _ _ => rfl)) (pa_cons (pe_ix (ix_tupK (K := K)) (pv 1) pe_int (fun _ _ => rfl)) pa_nil)))))))) pss_nil)
   (pss_cons (ps_if (pt_cmpR (op_eq) (pe_ix (ix_tupK (K := K)) (pv 0) pe_int (fun _ _ => rfl)) pe_str (nomark _)) (pss_one (ps_ret (pe_make T.mk_Parting (ok_Parting___init__ (K := K) T) (hr.mono (by decide)) (by rfl) T.m_Parting (b_Parting___init__ T) .nil passes_cx (pa_cons (pe_ix (ix_tupK (K := K)) (pv 1) pe_int (fun _ _ => rfl)) (pa_cons (pe_ix (ix_tupK (K := K)) (pv 1) pe_int (fun _ _ => rfl)) (pa_cons (pe_ix (ix_tupK (K := K)) (pv 1) pe_int (fun _ _ => rfl)) (pa_cons (pe_ix (ix_tupK (K := K)) (pv 1) pe_int (fun _ _ => rfl)) (pa_cons (pe_ix (ix_tupK (K := K)) (pv 1) pe_int (fun _ _ => rfl)) (pa_cons (pe_ix (ix_tupK (K := K)) (pv 1) pe_int (fun _ _ => rfl)) pa_nil))))))))) pss_nil)
   (pss_cons (ps_set (i := 2) sc__law_made.nd rfl (Or.inl rfl) (pe_ix (ix_tupK (K := K)) (pv 1) (pe_un un_neg pe_int) (fun _ _ => rfl)))
   (pss_cons (ps_if (pt_cmpR (op_notN) (pv 2) pe_non (nomark _)) (pss_one (ps_set (i := 2) sc__law_made.nd rfl (Or.inl rfl) (pe_callTy (call_listK (K := K)) (by rfl) T.b_list (by decide +kernel) (pa_cons (pv 2) pa_nil)))) pss_nil)
   (pss_cons (ps_if (pt_cmpR (op_eq) (pe_ix (ix_tupK (K := K)) (pv 0) pe_int (fun _ _ => rfl)) pe_str (nomark _)) (pss_one (ps_ret (pe_make T.mk_Sell (ok_Sell___init__ (K := K) T) (hr.mono (by decide)) (by rfl) T.m_Sell (b_Sell___init___8 T).choose_spec.1 (b_Sell___init___8 T).choose_spec.2 passes_cx (pa_cons (pe_ix (ix_tupK (K := K)) (pv 1) pe_int (fun _ _ => rfl)) (pa_cons (pe_ix (ix_tupK (K := K)) (pv 1) pe_int (fun _ _ => rfl)) (pa_cons (pe_ix (ix_tupK (K := K)) (pv 1) pe_int (fun _ _ => rfl)) (pa_cons (pe_ix (ix_tupK (K := K)) (pv 1) pe_int (fun _ _ => rfl)) (pa_cons (pe_ix (ix_tupK (K := K)) (pv 1) pe_int (fun _ _ => rfl)) (pa_cons (pe_ix (ix_tupK (K := K)) (pv 1) pe_int (fun _ _ => rfl)) (pa_cons (pv 2) pa_nil)))))))))) pss_nil)
   (pss_one (ps_ret (pe_make T.mk_Give (ok_Give___init__ (K := K) T) (hr.mono (by decide)) (by rfl) T.m_Give (b_Give___init___6 T).choose_spec.1 (b_Give___init___6 T).choose_spec.2 passes_cx (pa_cons (pe_ix (ix_tupK (K := K)) (pv 1) pe_int (fun _ _ => rfl)) (pa_cons (pe_ix (ix_tupK (K := K)) (pv 1) pe_int (fun _ _ => rfl)) (pa_cons (pe_ix (ix_tupK (K := K)) (pv 1) pe_int (fun _ _ => rfl)) (pa_cons (pe_ix (ix_tupK (K := K)) (pv 1) pe_int (fun _ _ => rfl)) (pa_cons (pv 2) pa_nil)))))))))))))))), ?_⟩
  simp only [start_eq]
  walk_at "nx"
  refine ⟨_, SqT.of ht, tail1_ne _ _, fun cc hc => ?_⟩
  rw [tail1]
  obtain ⟨H1, hH1⟩ : ∃ H1, H1 = upd H cc (.tup (e.args nt)) := ⟨_, rfl⟩
  rw [<- hH1]
  have hs : Same H H1 := hH1 ▸ Same.new hc
  have h0 : H1 cc = some (.tup (e.args nt)) := by rw [hH1, upd_same]
  cases e with
  | buy d n w p r f =>
   have ht2 : H1 tt = some (.tup [.str "buy", .int d, .int n, .str w, .int p, .int r, .int f]) := hs _ _ ht
   have h1 : H1 cc = some (.tup [.int d, .int n, .str w, .int p, .int r, .int f]) := h0
   walk_at "nx"
   refine ⟨_, SqT.of ht2, _, rfl, rfl, ?_⟩
   rw [if_pos rfl]
   refine ⟨_, SqT.of h1, _, rfl, ?_⟩
   refine ⟨_, SqT.of h1, _, rfl, ?_⟩
   refine ⟨_, SqT.of h1, _, rfl, ?_⟩
   refine ⟨_, SqT.of h1, _, rfl, ?_⟩
   refine ⟨_, SqT.of h1, _, rfl, ?_⟩
   refine ⟨_, SqT.of h1, _, rfl, ?_⟩
   intro x dx hx hdx hne
   exact ⟨x, .buy d n w p r f, H1, dx, .non, rfl, rfl, new_mk hx hdx, hg, rfl, fun g H' hM => ⟨rfl, k g x _ H' hs hM⟩, fun b H' sB => kE b H' (Same.trans hs sB)⟩
  | gift d n w p c s =>
   have ht2 : H1 tt = some (.tup [.str "gift", .int d, .int n, .str w, .int p, .int c, .int s]) := hs _ _ ht
   have h1 : H1 cc = some (.tup [.int d, .int n, .str w, .int p, .int c, .int s]) := h0
   walk_at "nx"
   refine ⟨_, SqT.of ht2, _, rfl, rfl, ?_⟩
   rw [if_neg (by decide +kernel)]
   walk_at "nx"
   refine ⟨_, SqT.of ht2, _, rfl, rfl, ?_⟩
   rw [if_pos rfl]
   refine ⟨_, SqT.of h1, _, rfl, ?_⟩
   refine ⟨_, SqT.of h1, _, rfl, ?_⟩
   refine ⟨_, SqT.of h1, _, rfl, ?_⟩
   refine ⟨_, SqT.of h1, _, rfl, ?_⟩
   refine ⟨_, SqT.of h1, _, rfl, ?_⟩
   refine ⟨_, SqT.of h1, _, rfl, ?_⟩
   intro x dx hx hdx hne
   exact ⟨x, .gift d n w p c s, H1, dx, .non, rfl, rfl, new_mk hx hdx, hg, rfl, fun g H' hM => ⟨rfl, k g x _ H' hs hM⟩, fun b H' sB => kE b H' (Same.trans hs sB)⟩
  | split d n w m f =>
   have ht2 : H1 tt = some (.tup [.str "split", .int d, .int n, .str w, .int m, .int f]) := hs _ _ ht
   have h1 : H1 cc = some (.tup [.int d, .int n, .str w, .int m, .int f]) := h0
   walk_at "nx"
   refine ⟨_, SqT.of ht2, _, rfl, rfl, ?_⟩
   rw [if_neg (by decide +kernel)]
   walk_at "nx"
   refine ⟨_, SqT.of ht2, _, rfl, rfl, ?_⟩
   rw [if_neg (by decide +kernel)]
   walk_at "nx"
   refine ⟨_, SqT.of ht2, _, rfl, rfl, ?_⟩
   rw [if_pos rfl]
   refine ⟨_, SqT.of h1, _, rfl, ?_⟩
   refine ⟨_, SqT.of h1, _, rfl, ?_⟩
   refine ⟨_, SqT.of h1, _, rfl, ?_⟩
   refine ⟨_, SqT.of h1, _, rfl, ?_⟩
   refine ⟨_, SqT.of h1, _, rfl, ?_⟩
   intro x dx hx hdx hne
   exact ⟨x, .split d n w m f, H1, dx, .non, rfl, rfl, new_mk hx hdx, hg, rfl, fun g H' hM => ⟨rfl, k g x _ H' hs hM⟩, fun b H' sB => kE b H' (Same.trans hs sB)⟩
  | part d n w u s t =>
   have ht2 : H1 tt = some (.tup [.str "part", .int d, .int n, .str w, .str u, .int s, .int t]) := hs _ _ ht
   have h1 : H1 cc = some (.tup [.int d, .int n, .str w, .str u, .int s, .int t]) := h0
   walk_at "nx"
   refine ⟨_, SqT.of ht2, _, rfl, rfl, ?_⟩
   rw [if_neg (by decide +kernel)]
   walk_at "nx"
   refine ⟨_, SqT.of ht2, _, rfl, rfl, ?_⟩
   rw [if_neg (by decide +kernel)]
   walk_at "nx"
   refine ⟨_, SqT.of ht2, _, rfl, rfl, ?_⟩
   rw [if_neg (by decide +kernel)]
   walk_at "nx"
   refine ⟨_, SqT.of ht2, _, rfl, rfl, ?_⟩
   rw [if_pos rfl]
   refine ⟨_, SqT.of h1, _, rfl, ?_⟩
   refine ⟨_, SqT.of h1, _, rfl, ?_⟩
   refine ⟨_, SqT.of h1, _, rfl, ?_⟩
   refine ⟨_, SqT.of h1, _, rfl, ?_⟩
   refine ⟨_, SqT.of h1, _, rfl, ?_⟩
   refine ⟨_, SqT.of h1, _, rfl, ?_⟩
   intro x dx hx hdx hne
   exact ⟨x, .part d n w u s t, H1, dx, .non, rfl, rfl, new_mk hx hdx, hg, rfl, fun g H' hM => ⟨rfl, k g x _ H' hs hM⟩, fun b H' sB => kE b H' (Same.trans hs sB)⟩
  | sell d n w p r f o =>
   have ht2 : H1 tt = some (.tup [.str "sell", .int d, .int n, .str w, .int p, .int r, .int f, nt]) := hs _ _ ht
   have h1 : H1 cc = some (.tup [.int d, .int n, .str w, .int p, .int r, .int f, nt]) := h0
   walk_at "nx"
   refine ⟨_, SqT.of ht2, _, rfl, rfl, ?_⟩
   rw [if_neg (by decide +kernel)]
   walk_at "nx"
   refine ⟨_, SqT.of ht2, _, rfl, rfl, ?_⟩
   rw [if_neg (by decide +kernel)]
   walk_at "nx"
   refine ⟨_, SqT.of ht2, _, rfl, rfl, ?_⟩
   rw [if_neg (by decide +kernel)]
   walk_at "nx"
   refine ⟨_, SqT.of ht2, _, rfl, rfl, ?_⟩
   rw [if_neg (by decide +kernel)]
   walk_at "nx"
   refine ⟨_, SqT.of h1, _, rfl, ?_⟩
   cases o with
   | none =>
    cases hnt
    walk_at "nx"
    walk_at "nx"
    refine ⟨_, SqT.of ht2, _, rfl, rfl, ?_⟩
    rw [if_pos rfl]
    refine ⟨_, SqT.of h1, _, rfl, ?_⟩
    refine ⟨_, SqT.of h1, _, rfl, ?_⟩
    refine ⟨_, SqT.of h1, _, rfl, ?_⟩
    refine ⟨_, SqT.of h1, _, rfl, ?_⟩
    refine ⟨_, SqT.of h1, _, rfl, ?_⟩
    refine ⟨_, SqT.of h1, _, rfl, ?_⟩
    intro x dx hx hdx hne
    exact ⟨x, .sell d n w p r f Option.none, H1, dx, .non, rfl, rfl, new_mk hx hdx, hg, rfl, fun g H' hM => ⟨rfl, k g x _ H' hs hM⟩, fun b H' sB => kE b H' (Same.trans hs sB)⟩
   | some rs =>
    obtain ⟨l, rfl, hl, hL⟩ := hnt
    walk_at "nx"
    refine ⟨_, .inr (SqT.of (hs _ _ hl)), fun q hq => ?_⟩
    have s2 := Same.new (o := .lst (refs rs)) hq
    walk_at "nx"
    refine ⟨_, SqT.of (s2 _ _ ht2), _, rfl, rfl, ?_⟩
    rw [if_pos rfl]
    refine ⟨_, SqT.of (s2 _ _ h1), _, rfl, ?_⟩
    refine ⟨_, SqT.of (s2 _ _ h1), _, rfl, ?_⟩
    refine ⟨_, SqT.of (s2 _ _ h1), _, rfl, ?_⟩
    refine ⟨_, SqT.of (s2 _ _ h1), _, rfl, ?_⟩
    refine ⟨_, SqT.of (s2 _ _ h1), _, rfl, ?_⟩
    refine ⟨_, SqT.of (s2 _ _ h1), _, rfl, ?_⟩
    intro x dx hx hdx hne
    exact ⟨x, .sell d n w p r f (some rs), (upd H1 q (.lst (refs rs))), dx, (.ref q), rfl, rfl, new_mk hx hdx, hg, ⟨q, rfl, upd_same, (hL.same hs).same s2⟩, fun g H' hM => ⟨rfl, k g x _ H' (hs.trans s2) hM⟩, fun b H' sB => kE b H' (Same.trans (hs.trans s2) sB)⟩
  | give d n w p o =>
   have ht2 : H1 tt = some (.tup [.str "give", .int d, .int n, .str w, .int p, nt]) := hs _ _ ht
   have h1 : H1 cc = some (.tup [.int d, .int n, .str w, .int p, nt]) := h0
   walk_at "nx"
   refine ⟨_, SqT.of ht2, _, rfl, rfl, ?_⟩
   rw [if_neg (by decide +kernel)]
   walk_at "nx"
   refine ⟨_, SqT.of ht2, _, rfl, rfl, ?_⟩
   rw [if_neg (by decide +kernel)]
   walk_at "nx"
   refine ⟨_, SqT.of ht2, _, rfl, rfl, ?_⟩
   rw [if_neg (by decide +kernel)]
   walk_at "nx"
   refine ⟨_, SqT.of ht2, _, rfl, rfl, ?_⟩
   rw [if_neg (by decide +kernel)]
   walk_at "nx"
   refine ⟨_, SqT.of h1, _, rfl, ?_⟩
   cases o with
   | none =>
    cases hnt
    walk_at "nx"
    walk_at "nx"
    refine ⟨_, SqT.of ht2, _, rfl, rfl, ?_⟩
    rw [if_neg (by decide +kernel)]
    refine ⟨_, SqT.of h1, _, rfl, ?_⟩
    refine ⟨_, SqT.of h1, _, rfl, ?_⟩
    refine ⟨_, SqT.of h1, _, rfl, ?_⟩
    refine ⟨_, SqT.of h1, _, rfl, ?_⟩
    intro x dx hx hdx hne
    exact ⟨x, .give d n w p Option.none, H1, dx, .non, rfl, rfl, new_mk hx hdx, hg, rfl, fun g H' hM => ⟨rfl, k g x _ H' hs hM⟩, fun b H' sB => kE b H' (Same.trans hs sB)⟩
   | some rs =>
    obtain ⟨l, rfl, hl, hL⟩ := hnt
    walk_at "nx"
    refine ⟨_, .inr (SqT.of (hs _ _ hl)), fun q hq => ?_⟩
    have s2 := Same.new (o := .lst (refs rs)) hq
    walk_at "nx"
    refine ⟨_, SqT.of (s2 _ _ ht2), _, rfl, rfl, ?_⟩
    rw [if_neg (by decide +kernel)]
    refine ⟨_, SqT.of (s2 _ _ h1), _, rfl, ?_⟩
    refine ⟨_, SqT.of (s2 _ _ h1), _, rfl, ?_⟩
    refine ⟨_, SqT.of (s2 _ _ h1), _, rfl, ?_⟩
    refine ⟨_, SqT.of (s2 _ _ h1), _, rfl, ?_⟩
    intro x dx hx hdx hne
    exact ⟨x, .give d n w p (some rs), (upd H1 q (.lst (refs rs))), dx, (.ref q), rfl, rfl, new_mk hx hdx, hg, ⟨q, rfl, upd_same, (hL.same hs).same s2⟩, fun g H' hM => ⟨rfl, k g x _ H' (hs.trans s2) hM⟩, fun b H' sB => kE b H' (Same.trans (hs.trans s2) sB)⟩
end
end My
namespace My
open PySem L2 PyProof.Rows
section
variable {P : Program} {w : World} {K : Fg_} {mg : Str -> Option Value} {base : Heap} {A : Adr} {D : Fds}
local macro_rules | `(tactic| walk_at "nx") => `(tactic| ((try dsimp only); rw [ap_seq]; walk_at "rdi"))
def sp__law_refused : Sp := fun vs H Q _ => ∃ (t : Addr) (e : Ent), vs = [.ref t] /\ TupE H t e /\ e.sz /\ ¬ e.good /\ ∀ H', Same H H' -> Q (.bl true) H'
theorem ok__law_refused (T : Txt K mg A D) : FnOk P w K mg base CX0 7 A._law_refused D._law_refused ["_law_told"] (sp__law_refused) := by
 refine T.F__law_refused.ok sc__law_refused (fun vs H Q E h => ?_) (fun cdv A' outer s H vs Q E hr h => ?_)
 ·obtain ⟨t, e, rfl, _⟩ := h; rfl
 ·obtain ⟨t, e, rfl, ht, hz, hb, k⟩ := h
  refine ⟨_, (pss_cons (ps_set (i := 1) sc__law_refused.nd rfl (Or.inl rfl) (pe_lst pa_nil))
   (pss_cons (ps_try (i := 2) (pex_call (ok__law_made (K := K) T) (hr.mono (by decide)) (by rfl) T.m__law_made T.k__law_made (b__law_made T) .nil (pa_cons (pv 0) pa_nil)) T.x_NoEntry (by rfl) T.m_NoEntry rfl rfl sc__law_refused.nd rfl rfl (fun ea => (pss_cons (ps_set (i := 3) sc__law_refused.nd rfl (Or.inl rfl) (pe_callB (call_isXsK (K := K)) (by rfl) T.b_isinstance (by decide +kernel) (pa_cons (pv 2) (pa_cons (pe_tup (pa_cons (pe_glob (v := V.ref A.C_Late) (by rfl) T.m_Late rfl) (pa_cons (pe_glob (v := V.ref A.C_NoLot) (by rfl) T.m_NoLot rfl) (pa_cons (pe_glob (v := V.ref A.C_NoNumber) (by rfl) T.m_NoNumber rfl) (pa_cons (pe_glob (v := V.ref A.C_NoPieces) (by rfl) T.m_NoPieces rfl) (pa_cons (pe_glob (v := V.ref A.C_NotHeld) (by rfl) T.m_NotHeld rfl) (pa_cons (pe_glob (v := V.ref A.C_NoText) (by rfl) T.m_NoText rfl) (pa_cons (pe_glob (v := V.ref A.C_NoWay) (by rfl) T.m_NoWay rfl) (pa_cons (pe_glob (v := V.ref A.C_NoWeights) (by rfl) T.m_NoWeights rfl) (pa_cons (pe_glob (v := V.ref A.C_Twice) (by rfl) T.m_Twice rfl) pa_nil)))))))))) pa_nil))))
    (pss_one (ps_set (i := 1) sc__law_refused.nd rfl (Or.inl rfl) (pe_lst (pa_cons (pe_callB (call_isXK (K := K)) (by rfl) T.b_isinstance (by decide +kernel) (pa_cons (pv 2) (pa_cons (pe_glob (v := V.ref A.C_LotError) (by rfl) T.m_LotError rfl) pa_nil))) (pa_cons (pe_callB (call_isXK (K := K)) (by rfl) T.b_isinstance (by decide +kernel) (pa_cons (pv 2) (pa_cons (pe_ty "ValueError" (by rfl) T.b_ValueError (by decide +kernel)) pa_nil))) (pa_cons (pv 3) pa_nil)))))))))
   (pss_one (ps_ret (pe_cmpR (op_eqDK (K := K) hr) (pv 1) (pe_lst (pa_cons pe_bl (pa_cons pe_bl (pa_cons pe_bl pa_nil)))) (nomark _)))))), ?_⟩
  have lz : ∀ n : Nat, n <= 1000 -> n <= sizeLine := fun n h => by rw [sizeLine_eq]; omega
  walk_at "rd"
  refine ⟨Nat.zero_le _, fun p hp => ?_⟩
  walk_at "rda"
  refine ⟨t, e, rfl, ht.same (Same.new hp), hz, fun g => (hb g).elim, fun _ H1 s1 => ⟨rfl, fun ea hea => ?_⟩⟩
  have S1 := (Same.new (o := .lst []) hp).trans (s1.trans (Same.new (o := excO A.C_NoEntry ea) hea))
  have he : (upd H1 ea (excO A.C_NoEntry ea)) ea = some (excO A.C_NoEntry ea) := upd_same
  generalize upd H1 ea (excO A.C_NoEntry ea) = H2 at S1 he
  refine ⟨lz _ (by decide), fun p3 hp3 => ?_⟩
  have s3 := Same.new (o := .tup [V.ref A.C_Late, V.ref A.C_NoLot, V.ref A.C_NoNumber, V.ref A.C_NoPieces, V.ref A.C_NotHeld, V.ref A.C_NoText, V.ref A.C_NoWay, V.ref A.C_NoWeights, V.ref A.C_Twice]) hp3
  have he3 := s3 _ _ he
  have t3 : (upd H2 p3 (.tup [V.ref A.C_Late, V.ref A.C_NoLot, V.ref A.C_NoNumber, V.ref A.C_NoPieces, V.ref A.C_NotHeld, V.ref A.C_NoText, V.ref A.C_NoWay, V.ref A.C_NoWeights, V.ref A.C_Twice])) p3 = some (.tup ([A.C_Late, A.C_NoLot, A.C_NoNumber, A.C_NoPieces, A.C_NotHeld, A.C_NoText, A.C_NoWay, A.C_NoWeights, A.C_Twice].map V.ref)) := upd_same
  have S3 := S1.trans s3
  generalize upd H2 p3 (.tup [V.ref A.C_Late, V.ref A.C_NoLot, V.ref A.C_NoNumber, V.ref A.C_NoPieces, V.ref A.C_NotHeld, V.ref A.C_NoText, V.ref A.C_NoWay, V.ref A.C_NoWeights, V.ref A.C_Twice]) = H3 at he3 t3 S3
  refine ⟨_, he3, T.x_NoEntry, T.y_NoEntry, _, t3, false, T.kx3, _, he3, T.x_NoEntry, T.y_NoEntry, true, .inl T.su_e, _, he3, T.x_NoEntry, T.y_NoEntry, true, .inr T.kx2, lz _ (by decide), fun p4 hp4 => ⟨lz _ (by decide), fun p5 hp5 => ?_⟩⟩
  refine ⟨.lst [.bl true, .bl true, .bl false], .lst [.bl true, .bl true, .bl false], .lst (SqL.of (Same.new hp5 _ _ upd_same)) (.cons (.bl _) (.cons (.bl _) (.cons (.bl _) .nil))), .lst (SqL.of upd_same) (.cons (.bl _) (.cons (.bl _) (.cons (.bl _) .nil))), by decide, by decide, ?_⟩
  rw [deqD_refl]
  exact k _ ((S3.trans (Same.new hp4)).trans (Same.new hp5))
end
end My
namespace My
open PySem L2 PyProof.Rows
section
variable {P : Program} {w : World} {K : Fg_} {mg : Str -> Option Value} {base : Heap} {A : Adr} {D : Fds}
noncomputable def sig__law_good (T : Txt K mg A D) (cdv : Value) (A' : Around) (outer : List Env) (s0 : Shared) (H : Hp) (E : XK) (hr : Room 1 (A'.deeper (envOfC "_law_good" (defScope s__law_good) s0.heap.objs.size A._law_good cdv))) :
  { t : TS // PSs (cxOf CX0 P w K mg base ["_law_script", "_law_day", "_law_number", "_law_pieces", "_law_price", "_law_fee", "_law_whole", "_law_many", "_law_of", "_law_head", "_law_named", "_law_rows"] "_law_good" (defScope s__law_good) A._law_good cdv A' outer s0 H E).nox (defBody s__law_good) t } :=
 ⟨_, (pss_cons (ps_asg (pe_call (ok__law_digits (K := K) T) (hr.mono (by decide)) (by rfl) T.m__law_digits T.k__law_digits (b__law_digits T) .nil pass0 (pa_cons (pe_call (ok__law_cell_at (K := K) T) (hr.mono (by decide)) (by rfl) T.m__law_cell_at T.k__law_cell_at (b__law_cell_at T) .nil pass0 (pa_cons (pv 0) (pa_cons pe_int pa_nil))) (pa_cons (pe_lst (pa_cons (pe_op op_add (pe_op op_pow pe_int pe_int) pe_int) (pa_cons (pe_op op_add (pe_op op_pow pe_int pe_int) pe_int) (pa_cons (pe_op op_pow pe_int pe_int) (pa_cons (pe_op op_add (pe_op op_pow pe_int pe_int) pe_int) pa_nil))))) pa_nil))) (pg_lstK (K := K) (n := 4) rfl (pgs_cons (pg_name (i := 1) sc__law_good.nd rfl (Or.inl rfl)) (pgs_cons (pg_name (i := 2) sc__law_good.nd rfl (Or.inl rfl)) (pgs_cons (pg_name (i := 3) sc__law_good.nd rfl (Or.inl rfl)) (pgs_cons (pg_name (i := 4) sc__law_good.nd rfl (Or.inl rfl)) pgs_nil))))))
   (pss_cons (ps_asg (pe_call (ok__law_digits (K := K) T) (hr.mono (by decide)) (by rfl) T.m__law_digits T.k__law_digits (b__law_digits T) .nil pass0 (pa_cons (pe_call (ok__law_cell_at (K := K) T) (hr.mono (by decide)) (by rfl) T.m__law_cell_at T.k__law_cell_at (b__law_cell_at T) .nil pass0 (pa_cons (pv 0) (pa_cons pe_int pa_nil))) (pa_cons (pe_lst (pa_cons (pe_op op_add (pe_op op_pow pe_int pe_int) pe_int) (pa_cons (pe_op op_pow pe_int pe_int) (pa_cons pe_int (pa_cons pe_int pa_nil))))) pa_nil))) (pg_lstK (K := K) (n := 4) rfl (pgs_cons (pg_name (i := 5) sc__law_good.nd rfl (Or.inl rfl)) (pgs_cons (pg_name (i := 6) sc__law_good.nd rfl (Or.inl rfl)) (pgs_cons (pg_name (i := 7) sc__law_good.nd rfl (Or.inl rfl)) (pgs_cons (pg_name (i := 8) sc__law_good.nd rfl (Or.inl rfl)) pgs_nil))))))
   (pss_cons (ps_set (i := 9) sc__law_good.nd rfl (Or.inl rfl) (pe_tup (pa_cons (pv 1) (pa_cons (pv 2) (pa_cons pe_str pa_nil)))))
   (pss_cons (ps_set (i := 10) sc__law_good.nd rfl (Or.inl rfl) (pe_tup (pa_cons (pe_tup (pa_cons pe_int (pa_cons (pe_op op_add (pv 3) pe_int) pa_nil))) pa_nil)))
   (pss_cons (ps_if (pt_cmpR (op_gt) (pv 3) pe_int (nomark _)) (pss_one (ps_set (i := 10) sc__law_good.nd rfl (Or.inl rfl) (pe_tup (pa_cons (pe_tup (pa_cons (pv 2) (pa_cons (pv 3) pa_nil))) (pa_cons (pe_tup (pa_cons (pe_op op_mod (pe_op op_add (pv 2) pe_int) (pe_op op_pow pe_int pe_int)) (pa_cons pe_int pa_nil))) pa_nil))))) pss_nil)
   (pss_cons (ps_set (i := 11) sc__law_good.nd rfl (Or.inl rfl) (pe_lst (pa_cons (pe_op (op_catTK (K := K)) (pe_op (op_catTK (K := K)) (pe_tup (pa_cons pe_str pa_nil)) (pv 9)) (pe_tup (pa_cons (pe_op op_add (pv 3) pe_int) (pa_cons (pv 4) (pa_cons (pv 5) pa_nil))))) (pa_cons (pe_op (op_catTK (K := K)) (pe_op (op_catTK (K := K)) (pe_tup (pa_cons pe_str pa_nil)) (pv 9)) (pe_tup (pa_cons (pe_op op_add (pv 3) pe_int) (pa_cons (pv 4) (pa_cons (pv 5) (pa_cons (pv 10) pa_nil)))))) pa_nil))))
   (pss_cons (ps_set (i := 11) sc__law_good.nd rfl (Or.inl rfl) (pe_op op_cat (pv 11) (pe_lst (pa_cons (pe_op (op_catTK (K := K)) (pe_op (op_catTK (K := K)) (pe_tup (pa_cons pe_str pa_nil)) (pv 9)) (pe_tup (pa_cons (pe_op op_add (pv 3) pe_int) (pa_cons (pe_op op_mulU (pv 4) (pv 5)) (pa_cons (pe_op op_fdivB (pv 1) pe_int) pa_nil))))) (pa_cons (pe_op (op_catTK (K := K)) (pe_op (op_catTK (K := K)) (pe_tup (pa_cons pe_str pa_nil)) (pv 9)) (pe_tup (pa_cons (pe_op op_add (pv 3) pe_int) (pa_cons (pv 10) pa_nil)))) pa_nil)))))
   (pss_one (ps_ret (pe_op op_cat (pv 11) (pe_lst (pa_cons (pe_op (op_catTK (K := K)) (pe_op (op_catTK (K := K)) (pe_tup (pa_cons pe_str pa_nil)) (pv 9)) (pe_tup (pa_cons (pe_op op_add (pv 7) pe_int) (pa_cons (pe_op op_add (pv 8) pe_int) pa_nil)))) (pa_cons (pe_op (op_catTK (K := K)) (pe_op (op_catTK (K := K)) (pe_tup (pa_cons pe_str pa_nil)) (pv 9)) (pe_tup (pa_cons pe_str (pa_cons (pe_op op_mod (pv 5) (pe_op op_add (pv 6) pe_int)) (pa_cons (pe_op op_add (pv 6) pe_int) pa_nil))))) pa_nil)))))))))))))⟩
end
end My
namespace My
open PySem L2 PyProof.Rows
section
variable {P : Program} {w : World} {K : Fg_} {mg : Str -> Option Value} {base : Heap} {A : Adr} {D : Fds}
local macro_rules | `(tactic| walk_at "nx") => `(tactic| ((try dsimp only); rw [ap_seq]; walk_at "rdi"))
abbrev EL := List (Addr × Ent)
def refsE (es : EL) : List V := es.map fun r => V.ref r.1
theorem seq_genL {t u : TS} {D : Ends} {σ : L2.St} {H : Hp} (P : L2.St -> Hp -> Prop) (k : ∀ σ' H', P σ' H' -> u D σ' H') (h : ∀ N : L2.St -> Hp -> Prop, (∀ σ' H', P σ' H' -> N σ' H') -> t { D with nx := N } σ H) : tSeq t u D σ H := h (u D) k
def Ent.lk : Ent -> Prop
 | .sell _ _ _ _ _ _ o => ∃ rs, o = some rs /\ rs.length <= 3
 | .give _ _ _ _ o => ∃ rs, o = some rs /\ rs.length <= 3
 | .part _ _ w _ _ _ => w = Str.ofString "cup"
 | _ => True
def sp__law_good (K : Fg_) : Sp := fun vs H Q _ => ∃ (a : Addr) (ns : List Int), vs = [.ref a] /\ SqL K H a (ns.map V.int) /\ ns.length <= 63 /\
 ∀ p (tl : EL) H', Same H H' -> H p = Option.none -> H' p = some (.lst (refsE tl)) -> (∀ r ∈ tl, TupE H' r.1 r.2 /\ r.2.good /\ r.2.lk) -> tl.length <= 6 -> Q (.ref p) H'
theorem cat_t {H : Hp} {a b : Addr} {xs ys : List V} {R : VK} (ha : H a = some (.tup xs)) (hb : H b = some (.tup ys)) (hx : xs ≠ []) (hl : xs.length + ys.length <= 1000) (k : ∀ p H', Same H H' -> H' p = some (.tup (xs ++ ys)) -> R (.ref p) H') : rCatT K (.ref a) (.ref b) H R :=
 ⟨a, b, xs, ys, rfl, rfl, SqT.of ha, SqT.of hb, hx, by rw [sizeLine_eq]; omega, fun e => k a H (Same.refl H) (by rw [e, List.append_nil]; exact ha), fun _ p hp => k p _ (Same.new hp) upd_same⟩
theorem row_a {H : Hp} {ph : Addr} {w : V} {hd : List V} {R : VK} (hph : H ph = some (.tup hd)) (hl : hd.length <= 900) (k : ∀ p H', Same H H' -> H' p = some (.tup ([w] ++ hd)) -> R (.ref p) H') :
  1 <= sizeLine /\ ∀ p1, H p1 = Option.none -> rCatT K (.ref p1) (.ref ph) (upd H p1 (.tup [w])) R :=
 ⟨by rw [sizeLine_eq]; decide, fun p1 h1 => cat_t upd_same (Same.new h1 _ _ hph) (List.cons_ne_nil _ _) (by rw [List.length_singleton]; omega) fun p H' s h => k p H' ((Same.new h1).trans s) h⟩
theorem row_b {H : Hp} {a : Addr} {xs ys : List V} {n : Nat} {R : VK} (ha : H a = some (.tup xs)) (hx : xs ≠ []) (hl : xs.length + ys.length <= 1000) (hn : n <= 1000) (k : ∀ p H', Same H H' -> H' p = some (.tup (xs ++ ys)) -> R (.ref p) H') :
  n <= sizeLine /\ ∀ p2, H p2 = Option.none -> rCatT K (.ref a) (.ref p2) (upd H p2 (.tup ys)) R :=
 ⟨by rw [sizeLine_eq]; omega, fun p2 h2 => cat_t (Same.new h2 _ _ ha) upd_same hx hl fun p H' s h => k p H' ((Same.new h2).trans s) h⟩
theorem nm_cup : Nm (Str.ofString "cup") := by decide +kernel
theorem nm_pot : Nm (Str.ofString "pot") := by decide +kernel
theorem ok__law_good (T : Txt K mg A D) : FnOk P w K mg base CX0 2 A._law_good D._law_good ["_law_script"] (sp__law_good K) := by
 refine T.F__law_good.ok sc__law_good (fun vs H Q E h => ?_) (fun cdv A' outer s0 H vs Q E hr h => ?_)
 ·obtain ⟨a, ns, rfl, _⟩ := h; rfl
 ·obtain ⟨a, ns, rfl, hS, hl, k⟩ := h
  refine ⟨(sig__law_good (base := base) T cdv A' outer s0 H E hr).1, (sig__law_good (base := base) T cdv A' outer s0 H E hr).2, ?_⟩
  unfold sig__law_good
  simp only [start_eq]
  walk_at "nx"
  have cp : ∀ {n : Int}, n = 6 \/ n = 9 -> CPow 10 n := fun h => by rcases h with rfl | rfl <;> exact ⟨by decide, by decide, by decide⟩
  refine ⟨a, ns, 0, rfl, hS, cp (.inl rfl), cp (.inl rfl), cp (.inr rfl), cp (.inr rfl), by rw [sizeLine_eq]; decide, fun p2 hp2 => ?_⟩
  have n2 := Same.new (o := .lst [V.int (10 ^ Int.toNat 6 + 1), V.int (10 ^ Int.toNat 6 + 1), V.int (10 ^ Int.toNat 9), V.int (10 ^ Int.toNat 9 + 1)]) hp2
  refine ⟨ns.getD 0 0, p2, [1000001, 1000001, 1000000000, 1000000001], rfl, SqL.of (by rw [upd_same]; rfl), by unfold CDivB; decide, by decide, fun p3 H3 t3 hp3 h3 => ?_⟩
  obtain ⟨d, n, p, r, hdg, bd, bn, bp, br⟩ : ∃ d n p r, digs (ns.getD 0 0) [1000001, 1000001, 1000000000, 1000000001] = [d, n, p, r] /\ (0 <= d /\ d < 1000001) /\ (0 <= n /\ n < 1000001) /\ (0 <= p /\ p < 1000000000) /\ (0 <= r /\ r < 1000000001) := ⟨_, _, _, _, rfl, by omega, by omega, by omega, by omega⟩
  rw [hdg] at h3
  have S3 := n2.trans t3
  refine ⟨p3, rfl, _, SqL.of h3, rfl, _, _, rfl, _, _, rfl, _, _, rfl, _, _, rfl, rfl, ?_⟩
  clear h3 hdg t3 n2
  walk_at "nx"
  refine ⟨a, ns, 1, rfl, S3.seq hS, cp (.inr rfl), cp (.inl rfl), by rw [sizeLine_eq]; decide, fun p4 hp4 => ?_⟩
  have n4 := Same.new (o := .lst [V.int (10 ^ Int.toNat 9 + 1), V.int (10 ^ Int.toNat 6), V.int 1000, V.int 1000]) hp4
  refine ⟨ns.getD 1 0, p4, [1000000001, 1000000, 1000, 1000], rfl, SqL.of (by rw [upd_same]; rfl), by unfold CDivB; decide, by decide, fun p5 H5 t5 hp5 h5 => ?_⟩
  obtain ⟨f, t, m, o, hdg, bf, bt, bm, bo⟩ : ∃ d n p r, digs (ns.getD 1 0) [1000000001, 1000000, 1000, 1000] = [d, n, p, r] /\ (0 <= d /\ d < 1000000001) /\ (0 <= n /\ n < 1000000) /\ (0 <= p /\ p < 1000) /\ (0 <= r /\ r < 1000) := ⟨_, _, _, _, rfl, by omega, by omega, by omega, by omega⟩
  rw [hdg] at h5
  have S5 := S3.trans (n4.trans t5)
  refine ⟨p5, rfl, _, SqL.of h5, rfl, _, _, rfl, _, _, rfl, _, _, rfl, _, _, rfl, rfl, ?_⟩
  clear h5 hdg t5 n4 S3
  walk_at "nx"
  refine ⟨by rw [sizeLine_eq]; decide, fun ph hph => ?_⟩
  have S6 := S5.trans (Same.new (o := .tup [V.int d, V.int n, V.str (Str.ofString "cup")]) hph)
  have h6 : (upd H5 ph (.tup [V.int d, V.int n, V.str (Str.ofString "cup")])) ph = some (.tup [V.int d, V.int n, V.str (Str.ofString "cup")]) := upd_same
  generalize upd H5 ph (.tup [V.int d, V.int n, V.str (Str.ofString "cup")]) = H6 at S6 h6
  clear S5
  walk_at "nx"
  refine ⟨by rw [sizeLine_eq]; decide, fun q1 hq1 => ⟨by rw [sizeLine_eq]; decide, fun q2 hq2 => ?_⟩⟩
  have N1 := Same.new (o := .tup [V.int 5, V.int (p + 1)]) hq1
  have g1 : (upd H6 q1 (.tup [V.int 5, V.int (p + 1)])) q1 = some (.tup [V.int 5, V.int (p + 1)]) := upd_same
  generalize upd H6 q1 (.tup [V.int 5, V.int (p + 1)]) = H7 at N1 g1 hq2
  have N2 := Same.new (o := .tup [V.ref q1]) hq2
  have g2 : (upd H7 q2 (.tup [V.ref q1])) q2 = some (.tup [V.ref q1]) := upd_same
  generalize upd H7 q2 (.tup [V.ref q1]) = H8 at N2 g2
  have S8 := S6.trans (N1.trans N2)
  have h8 := (N1.trans N2) _ _ h6
  have g18 := N2 _ _ g1
  try dsimp only
  refine seq_genL (fun σ' H' => ∃ (q : Addr) (rs : Rs), σ' = [some (.ref a), some (.int d), some (.int n), some (.int p), some (.int r), some (.int f), some (.int t), some (.int m), some (.int o), some (.ref ph), some (.ref q), Option.none] /\ Same H H' /\ H' ph = some (.tup [V.int d, V.int n, V.str (Str.ofString "cup")]) /\ H' q = some (.tup (refs rs)) /\ Lots H' rs /\ rs.length <= 3 /\ GoodN rs (p + 1)) ?_ fun N hN => ?_
  rotate_left
  ·walk_at "rdi"
   by_cases hp0 : 0 < p
   ·rw [if_pos hp0]
    refine ⟨by rw [sizeLine_eq]; decide, fun q3 hq3 => ⟨cp (.inl rfl), by decide, by rw [sizeLine_eq]; decide, fun q4 hq4 => ⟨by rw [sizeLine_eq]; decide, fun q5 hq5 => ?_⟩⟩⟩
    have N3 := Same.new (o := .tup [V.int n, V.int p]) hq3
    have g3 : (upd H8 q3 (.tup [V.int n, V.int p])) q3 = some (.tup [V.int n, V.int p]) := upd_same
    generalize upd H8 q3 (.tup [V.int n, V.int p]) = H9 at N3 g3 hq4 hq5
    have N4 := Same.new (o := .tup [V.int ((n + 1) % 10 ^ Int.toNat 6), V.int 1]) hq4
    have g4 : (upd H9 q4 (.tup [V.int ((n + 1) % 10 ^ Int.toNat 6), V.int 1])) q4 = some (.tup [V.int ((n + 1) % 1000000), V.int 1]) := upd_same
    generalize upd H9 q4 (.tup [V.int ((n + 1) % 10 ^ Int.toNat 6), V.int 1]) = H10 at N4 g4 hq5
    have N5 := Same.new (o := .tup [V.ref q3, V.ref q4]) hq5
    have N35 := N3.trans (N4.trans N5)
    refine hN _ _ ⟨q5, [(q3, n, p), (q4, (n + 1) % 1000000, 1)], rfl, S8.trans N35, N35 _ _ h8, upd_same, fun x hx => ?_, by simp, by simp, fun x hx => ?_, ?_, by simp⟩
    ·rcases List.mem_cons.mp hx with rfl | hx
     ·exact (N4.trans N5) _ _ g3
     ·rw [List.mem_singleton.mp hx]
      exact N5 _ _ g4
    ·rcases List.mem_cons.mp hx with rfl | hx
     ·exact ⟨bn.1, by show n <= _; omega, by show 1 <= p; omega, by show p <= p + 1; omega⟩
     ·rw [List.mem_singleton.mp hx]
      exact ⟨by show 0 <= (n + 1) % 1000000; omega, by show (n + 1) % 1000000 <= _; omega, show (1 : Int) <= 1 by decide, by show (1 : Int) <= p + 1; omega⟩
    ·rw [List.map_cons, List.map_cons, List.map_nil, List.nodup_cons]
     refine ⟨fun h => ?_, by simp⟩
     have : n = (n + 1) % 1000000 := List.mem_singleton.mp h
     omega
   ·rw [if_neg hp0]
    have hp1 : p = 0 := by omega
    refine hN _ _ ⟨q2, [(q1, 5, p + 1)], rfl, S8, h8, g2, fun x hx => by rw [List.mem_singleton.mp hx]; exact g18, by simp, by simp, fun x hx => by rw [List.mem_singleton.mp hx]; exact ⟨show (0 : Int) <= 5 by decide, show (5 : Int) <= 1000000 by decide, by show 1 <= p + 1; omega, by show p + 1 <= p + 1; omega⟩, by simp, by simp⟩
  ·rintro σ9 H9 ⟨q, rs, rfl, S9, h9, g9, hL9, hsh, hG⟩
   clear S8 h8 g2 g18 N1 N2 g1 S6 h6
   walk_at "nx"
   have nc : ∀ {v : V} {l : List V}, v :: l ≠ [] := fun {_ _} => List.cons_ne_nil _ _
   have bB : Base d n (Str.ofString "cup") := ⟨bd.1, by omega, bn.1, by omega, nm_cup⟩
   refine row_a h9 (by simp) fun c1 I1 t1 k1 => row_b (n := 3) k1 nc (by simp) (by decide) fun c2 I2 t2 k2 => row_a ((t1.trans t2) _ _ h9) (by simp) fun c3 I3 t3 k3 => row_b (n := 4) k3 nc (by simp) (by decide) fun c4 I4 t4 k4 => ⟨by rw [sizeLine_eq]; decide, fun c5 hc5 => ?_⟩
   have T4 := t1.trans (t2.trans (t3.trans t4))
   have e2 : TupE I4 c2 (.buy d n (Str.ofString "cup") (p + 1) r f) := ⟨.non, (t3.trans t4) _ _ k2, rfl⟩
   have e4 : TupE I4 c4 (.sell d n (Str.ofString "cup") (p + 1) r f (some rs)) := ⟨.ref q, k4, q, rfl, T4 _ _ g9, hL9.same T4⟩
   have N5 := Same.new (o := .lst [V.ref c2, V.ref c4]) hc5
   have k5 : (upd I4 c5 (.lst [V.ref c2, V.ref c4])) c5 = some (.lst [V.ref c2, V.ref c4]) := upd_same
   generalize upd I4 c5 (.lst [V.ref c2, V.ref c4]) = I5 at N5 k5
   have T5 := T4.trans N5
   have h5 := T5 _ _ h9
   have e2 := e2.same N5
   have e4 := e4.same N5
   walk_at "nx"
   refine row_a h5 (by simp) fun c6 I6 t6 k6 => ⟨CMulU.big (Nat.lt_of_le_of_lt (show r.natAbs <= 1000000000 from by omega) (by decide)) (Nat.lt_of_le_of_lt (show f.natAbs <= 1000000000 from by omega) (by decide)), by unfold CDivB; decide, row_b (n := 3) k6 nc (by simp) (by decide) fun c7 I7 t7 k7 => row_a ((t6.trans t7) _ _ h5) (by simp) fun c8 I8 t8 k8 => row_b (n := 2) k8 nc (by simp) (by decide) fun c9 I9 t9 k9 => ⟨by rw [sizeLine_eq]; decide, fun ca hca => ?_⟩⟩
   have T9 := t6.trans (t7.trans (t8.trans t9))
   have e7 : TupE I9 c7 (.gift d n (Str.ofString "cup") (p + 1) (r * f) (d / 2)) := ⟨.non, (t8.trans t9) _ _ k7, rfl⟩
   have T59 := T5.trans T9
   have e9 : TupE I9 c9 (.give d n (Str.ofString "cup") (p + 1) (some rs)) := ⟨.ref q, k9, q, rfl, T59 _ _ g9, hL9.same T59⟩
   have Na := Same.new (o := .lst [V.ref c7, V.ref c9]) hca
   have ka : (upd I9 ca (.lst [V.ref c7, V.ref c9])) ca = some (.lst [V.ref c7, V.ref c9]) := upd_same
   generalize upd I9 ca (.lst [V.ref c7, V.ref c9]) = Ia at Na ka
   refine ⟨_, (T9.trans Na) _ _ k5, _, ka, by rw [sizeLine_eq]; simp, fun cb hcb => ?_⟩
   have Nb := Same.new (o := .lst ([V.ref c2, V.ref c4] ++ [V.ref c7, V.ref c9])) hcb
   have kb : (upd Ia cb (.lst ([V.ref c2, V.ref c4] ++ [V.ref c7, V.ref c9]))) cb = some (.lst ([V.ref c2, V.ref c4] ++ [V.ref c7, V.ref c9])) := upd_same
   generalize upd Ia cb (.lst ([V.ref c2, V.ref c4] ++ [V.ref c7, V.ref c9])) = Ib at Nb kb
   have Tb := T9.trans (Na.trans Nb)
   have hb := Tb _ _ h5
   have e2 := e2.same Tb
   have e4 := e4.same Tb
   have e7 := e7.same (Na.trans Nb)
   have e9 := e9.same (Na.trans Nb)
   clear t1 t2 t3 t4 t6 t7 t8 t9 k1 k2 k3 k4 k6 k7 k8 k9 ka k5
   refine row_a hb (by simp) fun d1 J1 t1 k1 => row_b (n := 2) k1 nc (by simp) (by decide) fun d2 J2 t2 k2 => row_a ((t1.trans t2) _ _ hb) (by simp) fun d3 J3 t3 k3 => ?_
   refine ⟨by omega, row_b (n := 3) k3 nc (by simp) (by decide) fun d4 J4 t4 k4 => ⟨by rw [sizeLine_eq]; decide, fun d5 hd5 => ?_⟩⟩
   have U4 := t1.trans (t2.trans (t3.trans t4))
   have Nd := Same.new (o := .lst [V.ref d2, V.ref d4]) hd5
   have kd : (upd J4 d5 (.lst [V.ref d2, V.ref d4])) d5 = some (.lst [V.ref d2, V.ref d4]) := upd_same
   have x2 : TupE J4 d2 (.split d n (Str.ofString "cup") (m + 1) (o + 1)) := ⟨.non, (t3.trans t4) _ _ k2, rfl⟩
   have x4 : TupE J4 d4 (.part d n (Str.ofString "cup") (Str.ofString "pot") (f % (t + 2)) (t + 1)) := ⟨.non, k4, rfl⟩
   generalize upd J4 d5 (.lst [V.ref d2, V.ref d4]) = J5 at Nd kd
   refine ⟨_, (U4.trans Nd) _ _ kb, _, kd, by rw [sizeLine_eq]; simp, fun pz hpz => ?_⟩
   have Nz := Same.new (o := .lst ([V.ref c2, V.ref c4] ++ [V.ref c7, V.ref c9] ++ [V.ref d2, V.ref d4])) hpz
   have Uz := U4.trans (Nd.trans Nz)
   have Sz := S9.trans (T5.trans (Tb.trans Uz))
   have hpc : 1 <= p + 1 /\ p + 1 <= 1000000000 := by omega
   have hrf : 0 <= r * f /\ r * f <= 1000000000000000000 := ⟨Int.mul_nonneg br.1 bf.1, Int.le_trans (Int.mul_le_mul (show r <= 1000000000 by omega) (show f <= 1000000000 by omega) bf.1 (by decide)) (by decide)⟩
   refine k pz [(c2, .buy d n (Str.ofString "cup") (p + 1) r f), (c4, .sell d n (Str.ofString "cup") (p + 1) r f (some rs)), (c7, .gift d n (Str.ofString "cup") (p + 1) (r * f) (d / 2)), (c9, .give d n (Str.ofString "cup") (p + 1) (some rs)), (d2, .split d n (Str.ofString "cup") (m + 1) (o + 1)), (d4, .part d n (Str.ofString "cup") (Str.ofString "pot") (f % (t + 2)) (t + 1))] _ Sz ?_ upd_same ?_ (by simp)
   ·exact (S9.trans (T5.trans (Tb.trans (U4.trans Nd)))).free hpz
   ·have ft := Int.emod_nonneg f (show t + 2 ≠ 0 by omega)
    have fl := Int.emod_lt_of_pos f (show 0 < t + 2 by omega)
    intro z hz
    rcases List.mem_cons.mp hz with rfl | hz
    ·exact ⟨e2.same Uz, ⟨bB, hpc, ⟨br.1, by omega⟩, bf.1, by omega⟩, True.intro⟩
    rcases List.mem_cons.mp hz with rfl | hz
    ·exact ⟨e4.same Uz, ⟨bB, hpc, ⟨br.1, by omega⟩, ⟨bf.1, by omega⟩, hG⟩, rs, rfl, hsh⟩
    rcases List.mem_cons.mp hz with rfl | hz
    ·exact ⟨e7.same Uz, ⟨bB, hpc, hrf, by omega, by omega⟩, True.intro⟩
    rcases List.mem_cons.mp hz with rfl | hz
    ·exact ⟨e9.same Uz, ⟨bB, hpc, hG⟩, rs, rfl, hsh⟩
    rcases List.mem_cons.mp hz with rfl | hz
    ·exact ⟨x2.same (Nd.trans Nz), ⟨bB, ⟨by omega, by omega⟩, by omega, by omega⟩, True.intro⟩
    rcases List.mem_cons.mp hz with rfl | hz
    ·exact ⟨x4.same (Nd.trans Nz), ⟨bB, nm_pot, by decide +kernel, ⟨by omega, by omega⟩, ft, by omega⟩, rfl⟩
    cases hz
end
end My
namespace My
open PySem L2 PyProof.Rows
section
variable {P : Program} {w : World} {K : Fg_} {mg : Str -> Option Value} {base : Heap} {A : Adr} {D : Fds}
structure PEo (X : Cx) (e : Expr) (t : TE) : Prop where
 h : PE X e t
structure PSq (X : Cx) (s : Stmt) (t : TS) : Prop where
 h : PS X s t
structure PSo (X : Cx) (s : List Stmt) (t : TS) : Prop where
 h : PSs X s t
theorem pso_cons {X : Cx} {st : Stmt} {rest : List Stmt} {t u : TS} (a : PSq X st t) (b : PSo X rest u) : PSo X (st :: rest) (tSeq t u) := ⟨pss_cons a.h b.h⟩
theorem psq_set {X : Cx} {pos : Pos} {i : Nat} {x : Str} {e : Expr} {te : TE} {pos' : Pos} (hN : X.N.Nodup) (hi : X.N[i]? = some x) (hx : Loc X.env.scope x) (he : PEo X e te) (hs : swapsWith e (some (.Name x pos')) pos.line X.env = pure false := by rfl) (hf : X.fn x = true \/ X.env.scope.names.lookup x = some .local := by first | exact .inl rfl | exact .inr rfl) :
  PSq X (.Assign [.Name x pos'] e pos) (tAsg te (gName i)) := ⟨ps_set hN hi hx he.h hs hf⟩
theorem peo_disp2 {X : Cx} {pos : Pos} {k1 k2 v1 v2 : Expr} {s1 s2 t1 t2 : TE} (a1 : PEo X k1 s1) (b1 : PEo X v1 t1) (a2 : PEo X k2 s2) (b2 : PEo X v2 t2) : PEo X (.Dict [some k1, some k2] [v1, v2] pos) (tDisp [(s1, t1), (s2, t2)]) :=
 ⟨pe_disp (pps_cons a1.h b1.h (pps_cons a2.h b2.h pps_nil)) rfl rfl (List.cons_ne_nil _ _) (Nat.le_of_ble_eq_true rfl)⟩
noncomputable def sig__law_ranges (T : Txt K mg A D) (cdv : Value) (A' : Around) (outer : List Env) (s0 : Shared) (H : Hp) (E : XK) (hr : Room 0 (A'.deeper (envOfC "_law_ranges" (defScope s__law_ranges) s0.heap.objs.size A._law_ranges cdv))) :
  { t : TS // PSo (cxOf CX0 P w K mg base ["_law_told", "_law_ranges_here"] "_law_ranges" (defScope s__law_ranges) A._law_ranges cdv A' outer s0 H E).nox (defBody s__law_ranges) t } :=
 ⟨_, (pso_cons (psq_set (i := 1) sc__law_ranges.nd rfl (Or.inl rfl) (peo_disp2 ⟨pe_int⟩ ⟨(pe_tup (pa_cons pe_int (pa_cons (pe_op op_pow pe_int pe_int) pa_nil)))⟩ ⟨pe_int⟩ ⟨(pe_tup (pa_cons pe_int (pa_cons (pe_op op_pow pe_int pe_int) pa_nil)))⟩)) ⟨(pss_cons (ps_if (pt_cmpR (op_inK (K := K)) (pe_ix (ix_tupK (K := K)) (pv 0) pe_int (fun _ _ => rfl)) (pe_tup (pa_cons pe_str (pa_cons pe_str (pa_cons pe_str (pa_cons pe_str pa_nil))))) (by with_unfolding_all rfl)) (pss_one (ps_dput (hu_of hr) (pv 1) pe_int (pe_tup (pa_cons pe_int (pa_cons (pe_op op_pow pe_int pe_int) pa_nil))) rfl)) pss_nil)
   (pss_cons (ps_if (pt_cmpR (op_inK (K := K)) (pe_ix (ix_tupK (K := K)) (pv 0) pe_int (fun _ _ => rfl)) (pe_tup (pa_cons pe_str (pa_cons pe_str pa_nil))) (by with_unfolding_all rfl)) (pss_cons (ps_dput (hu_of hr) (pv 1) pe_int (pe_tup (pa_cons pe_int (pa_cons (pe_op op_pow pe_int pe_int) pa_nil))) rfl)
    (pss_one (ps_dput (hu_of hr) (pv 1) pe_int (pe_tup (pa_cons pe_int (pa_cons (pe_op op_pow pe_int pe_int) pa_nil))) rfl))) pss_nil)
   (pss_cons (ps_if (pt_cmpR (op_eq) (pe_ix (ix_tupK (K := K)) (pv 0) pe_int (fun _ _ => rfl)) pe_str (nomark _)) (pss_cons (ps_dput (hu_of hr) (pv 1) pe_int (pe_tup (pa_cons pe_int (pa_cons (pe_op op_pow pe_int pe_int) pa_nil))) rfl)
    (pss_one (ps_dput (hu_of hr) (pv 1) pe_int (pe_tup (pa_cons pe_int (pa_cons (pe_ix (ix_tupK (K := K)) (pv 0) pe_int (fun _ _ => rfl)) pa_nil))) rfl))) pss_nil)
   (pss_cons (ps_if (pt_cmpR (op_eq) (pe_ix (ix_tupK (K := K)) (pv 0) pe_int (fun _ _ => rfl)) pe_str (nomark _)) (pss_cons (ps_dput (hu_of hr) (pv 1) pe_int (pe_tup (pa_cons pe_int (pa_cons pe_int pa_nil))) rfl)
    (pss_one (ps_dput (hu_of hr) (pv 1) pe_int (pe_tup (pa_cons pe_int (pa_cons pe_int pa_nil))) rfl))) pss_nil)
   (pss_cons (ps_if (pt_cmpR (op_eq) (pe_ix (ix_tupK (K := K)) (pv 0) pe_int (fun _ _ => rfl)) pe_str (nomark _)) (pss_cons (ps_dput (hu_of hr) (pv 1) pe_int (pe_tup (pa_cons pe_int (pa_cons (pe_ix (ix_tupK (K := K)) (pv 0) pe_int (fun _ _ => rfl)) pa_nil))) rfl)
    (pss_one (ps_dput (hu_of hr) (pv 1) pe_int (pe_tup (pa_cons (pe_callB (call_maxK rfl) (by rfl) T.b_max (by decide +kernel) (pa_cons pe_int (pa_cons (pe_ix (ix_tupK (K := K)) (pv 0) pe_int (fun _ _ => rfl)) pa_nil))) (pa_cons (pe_op op_pow pe_int pe_int) pa_nil))) rfl))) pss_nil)
   (pss_one (ps_ret (pv 1))))))))⟩)⟩
end
end My
namespace My
open PySem L2 PyProof.Rows
section
variable {P : Program} {w : World} {K : Fg_} {mg : Str -> Option Value} {base : Heap} {A : Adr} {D : Fds}
local macro_rules | `(tactic| walk_at "nx") => `(tactic| ((try dsimp only); rw [ap_seq]; walk_at "rdi"))
def rgE : Ent -> List (Int × Int × Int)
 | .buy .. => [(1, 0, 1000000), (2, 0, 1000000), (4, 1, 1000000000), (5, 0, 1000000000), (6, 0, 1000000000)]
 | .sell .. => [(1, 0, 1000000), (2, 0, 1000000), (4, 1, 1000000000), (5, 0, 1000000000), (6, 0, 1000000000)]
 | .gift d _ _ _ _ _ => [(1, 0, 1000000), (2, 0, 1000000), (4, 1, 1000000000), (5, 0, 1000000000000000000), (6, 0, d)]
 | .give .. => [(1, 0, 1000000), (2, 0, 1000000), (4, 1, 1000000000)]
 | .split .. => [(1, 0, 1000000), (2, 0, 1000000), (4, 1, 1000), (5, 1, 1000)]
 | .part _ _ _ _ s t => [(1, 0, 1000000), (2, 0, 1000000), (5, 0, t), (6, if s > 1 then s else 1, 1000000)]
abbrev RR := List (Addr × Int × Int × Int)
def dR (rr : RR) : List (Key × V) := rr.map fun r => (Sum.inl r.2.1, V.ref r.1)
def RAt (H : Hp) (rr : RR) : Prop := ∀ r ∈ rr, H r.1 = some (.tup [.int r.2.2.1, .int r.2.2.2])
theorem RAt.same {H H' : Hp} {rr : RR} (h : RAt H rr) (s : Same H H') : RAt H' rr := fun r hr => s _ _ (h r hr)
theorem dR_put {rr : RR} {k lo hi : Int} {q : Addr} (h : k ∉ rr.map (·.2.1)) : putK (dR rr) (Sum.inl k) (.ref q) = dR (rr ++ [(q, k, lo, hi)]) := by
 unfold putK
 have : ((dR rr).any fun kv => decide (kv.1 = Sum.inl k)) = false := by
  rw [List.any_eq_false]
  intro kv hkv
  obtain ⟨r, hr, rfl⟩ := List.mem_map.mp hkv
  rw [decide_eq_true_iff]
  exact fun z => h (List.mem_map.mpr ⟨r, hr, Sum.inl.inj z⟩)
 rw [this, if_neg (fun z => nomatch z)]
 unfold dR
 rw [List.map_append]
 rfl
structure Rg11 (H H' : Hp) (pd t : Addr) (e : Ent) (nt : V) (rr : RR) (ks : List (Int × Int × Int)) : Prop where
 s : Same H H'
 d : H' pd = some (.dK (dR rr))
 r : RAt H' rr
 t : H' t = some (.tup (.str e.word :: e.args nt))
 k : rr.map (·.2) = ks
theorem Rg11.same {H H' H'' : Hp} {pd t : Addr} {e : Ent} {nt : V} {rr : RR} {ks : List (Int × Int × Int)} (h : Rg11 H H' pd t e nt rr ks) (s : Same H' H'') : Rg11 H H'' pd t e nt rr ks := ⟨h.s.trans s, s _ _ h.d, h.r.same s, s _ _ h.t, h.k⟩
theorem Rg11.put {H H' : Hp} {pd t q : Addr} {e : Ent} {nt : V} {rr : RR} {ks : List (Int × Int × Int)} {k lo hi : Int} (h : Rg11 H H' pd t e nt rr ks) (hpd : H pd = Option.none) (hq : H' q = some (.tup [.int lo, .int hi])) (hk : k ∉ ks.map (·.1)) :
  Rg11 H (upd H' pd (.dK (putK (dR rr) (Sum.inl k) (.ref q)))) pd t e nt (rr ++ [(q, k, lo, hi)]) (ks ++ [(k, lo, hi)]) := by
 have ne : ∀ {b : Addr} {xs : List V}, H' b = some (.tup xs) -> b ≠ pd := fun hb z => by rw [z, h.d] at hb; cases hb
 have hk' : k ∉ rr.map (·.2.1) := by
  have : rr.map (·.2.1) = ks.map (·.1) := by rw [<- h.k, List.map_map]; rfl
  rw [this]; exact hk
 refine ⟨h.s.upd hpd, by rw [upd_same, dR_put hk'], fun r hr => ?_, by rw [upd_ne (ne h.t)]; exact h.t, by rw [List.map_append, h.k]; rfl⟩
 rcases List.mem_append.mp hr with hr | hr
 ·rw [upd_ne (ne (h.r r hr))]; exact h.r r hr
 ·rw [List.mem_singleton.mp hr, upd_ne (ne hq)]; exact hq
theorem rg_len {H H' : Hp} {pd t : Addr} {e : Ent} {nt : V} {rr : RR} {ks : List (Int × Int × Int)} (h : Rg11 H H' pd t e nt rr ks) (hl : ks.length < 1000) : (dR rr).length < sizeLine := by
 have := congrArg List.length h.k
 rw [List.length_map] at this
 unfold dR
 rw [List.length_map, sizeLine_eq]
 omega
def sp__law_ranges (K : Fg_) : Sp := fun vs H Q _ => ∃ (t : Addr) (e : Ent), vs = [.ref t] /\ TupE H t e /\
 ∀ p (rr : RR) H', Same H H' -> H p = Option.none -> H' p = some (.dK (dR rr)) -> RAt H' rr -> rr.map (·.2) = rgE e -> Q (.ref p) H'
theorem ok__law_ranges (T : Txt K mg A D) : FnOk P w K mg base CX0 1 A._law_ranges D._law_ranges ["_law_told"] (sp__law_ranges K) := by
 refine T.F__law_ranges.ok sc__law_ranges (fun vs H Q E h => ?_) (fun cdv A' outer s0 H vs Q E hr h => ?_)
 ·obtain ⟨t, e, rfl, _⟩ := h; rfl
 ·obtain ⟨t, e, rfl, ⟨nt, ht, hnt⟩, k⟩ := h
  obtain ⟨st, hst⟩ : ∃ st, st = sig__law_ranges (P := P) (w := w) (base := base) T cdv A' outer s0 H E hr := ⟨_, rfl⟩
  rcases st with ⟨t1, ⟨h2⟩⟩
  refine ⟨t1, ?_, ?_⟩
  ·assumption
  rw [show t1 = (sig__law_ranges (P := P) (w := w) (base := base) T cdv A' outer s0 H E hr).1 from congrArg Subtype.val hst]
  clear hst h2
  unfold sig__law_ranges
  simp only [start_eq]
  rw [ap_seq]
  walk_at "rdi"
  unfold tDisp
  intro pd hpd
  simp only [tPairs]
  have cp : ∀ {n : Int}, n = 6 \/ n = 9 \/ n = 18 -> CPow 10 n := fun h => by rcases h with rfl | rfl | rfl <;> exact ⟨by decide, by decide, by decide⟩
  walk_at "rdi"
  refine ⟨cp (.inl rfl), by rw [sizeLine_eq]; decide, fun q1 h1 => ⟨cp (.inl rfl), by rw [sizeLine_eq]; decide, fun q2 h2 => ?_⟩⟩
  have N1 := Same.new (o := .dK []) hpd
  have g0 : (upd H pd (.dK [])) pd = some (.dK []) := upd_same
  generalize upd H pd (.dK []) = H1 at N1 g0 h1 h2
  have N2 := Same.new (o := .tup [V.int 0, V.int (10 ^ Int.toNat 6)]) h1
  have g1 : (upd H1 q1 (.tup [V.int 0, V.int (10 ^ Int.toNat 6)])) q1 = some (.tup [V.int 0, V.int 1000000]) := upd_same
  generalize upd H1 q1 (.tup [V.int 0, V.int (10 ^ Int.toNat 6)]) = H2 at N2 g1 h2
  have N3 := Same.new (o := .tup [V.int 0, V.int (10 ^ Int.toNat 6)]) h2
  have g2 : (upd H2 q2 (.tup [V.int 0, V.int (10 ^ Int.toNat 6)])) q2 = some (.tup [V.int 0, V.int 1000000]) := upd_same
  generalize upd H2 q2 (.tup [V.int 0, V.int (10 ^ Int.toNat 6)]) = H3 at N3 g2
  have g0 := N3 _ _ (N2 _ _ g0)
  have g1 := N3 _ _ g1
  have S3 := N1.trans (N2.trans N3)
  refine ⟨g0, [(Sum.inl 1, .ref q1), (Sum.inl 2, .ref q2)], rfl, by simp, ?_⟩
  have ne : ∀ {b : Addr} {xs : List V}, H3 b = some (.tup xs) -> b ≠ pd := fun hb z => by rw [z, g0] at hb; cases hb
  have L : Rg11 H (upd H3 pd (.dK (mergeK [] [(Sum.inl 1, .ref q1), (Sum.inl 2, .ref q2)]))) pd t e nt [(q1, 1, 0, 1000000), (q2, 2, 0, 1000000)] [(1, 0, 1000000), (2, 0, 1000000)] := by
   refine ⟨S3.upd hpd, by rw [upd_same]; rfl, fun r hr => ?_, by rw [upd_ne (ne (S3 _ _ ht))]; exact S3 _ _ ht, rfl⟩
   rcases List.mem_cons.mp hr with rfl | hr
   ·rw [upd_ne (ne g1)]; exact g1
   ·rw [List.mem_singleton.mp hr, upd_ne (ne g2)]; exact g2
  generalize upd H3 pd (.dK (mergeK [] [(Sum.inl 1, .ref q1), (Sum.inl 2, .ref q2)])) = H4 at L
  clear N1 N2 N3 g0 g1 g2 S3 ne ht
  cases e with
  | buy d n w p r f =>
   walk_at "nx"
   refine ⟨_, SqT.of L.t, V.str (Str.ofString "buy"), rfl, by rw [sizeLine_eq]; decide, fun qa ha => ⟨_, .inr (SqT.of upd_same), rfl, rfl, ?_⟩⟩
   replace L := L.same (Same.new (o := .tup [V.str (Str.ofString "buy"), V.str (Str.ofString "sell"), V.str (Str.ofString "gift"), V.str (Str.ofString "give")]) ha)
   rw [if_pos (by decide +kernel)]
   revert L; generalize upd _ qa _ = Hn; intro L
   refine ⟨cp (.inr (.inl rfl)), by rw [sizeLine_eq]; decide, fun qb hb => ⟨_, DPut.k (k := Sum.inl 4) (L.same (Same.new hb)).d (rg_len L (by decide)), ?_⟩⟩
   replace L := (L.same (Same.new (o := .tup [V.int 1, V.int (10 ^ Int.toNat 9)]) hb)).put (k := 4) (lo := 1) (hi := 1000000000) hpd upd_same (by simp)
   revert L; generalize upd _ pd _ = Hn; intro L
   walk_at "nx"
   refine ⟨_, SqT.of L.t, V.str (Str.ofString "buy"), rfl, by rw [sizeLine_eq]; decide, fun qa ha => ⟨_, .inr (SqT.of upd_same), rfl, rfl, ?_⟩⟩
   replace L := L.same (Same.new (o := .tup [V.str (Str.ofString "buy"), V.str (Str.ofString "sell")]) ha)
   rw [if_pos (by decide +kernel)]
   revert L; generalize upd _ qa _ = Hn; intro L
   walk_at "nx"
   refine ⟨cp (.inr (.inl rfl)), by rw [sizeLine_eq]; decide, fun qb hb => ⟨_, DPut.k (k := Sum.inl 5) (L.same (Same.new hb)).d (rg_len L (by decide)), ?_⟩⟩
   replace L := (L.same (Same.new (o := .tup [V.int 0, V.int (10 ^ Int.toNat 9)]) hb)).put (k := 5) (lo := 0) (hi := 1000000000) hpd upd_same (by simp)
   revert L; generalize upd _ pd _ = Hn; intro L
   refine ⟨cp (.inr (.inl rfl)), by rw [sizeLine_eq]; decide, fun qb hb => ⟨_, DPut.k (k := Sum.inl 6) (L.same (Same.new hb)).d (rg_len L (by decide)), ?_⟩⟩
   replace L := (L.same (Same.new (o := .tup [V.int 0, V.int (10 ^ Int.toNat 9)]) hb)).put (k := 6) (lo := 0) (hi := 1000000000) hpd upd_same (by simp)
   revert L; generalize upd _ pd _ = Hn; intro L
   walk_at "nx"
   refine ⟨_, SqT.of L.t, V.str (Str.ofString "buy"), rfl, rfl, ?_⟩
   rw [if_neg (by decide +kernel)]
   walk_at "nx"
   refine ⟨_, SqT.of L.t, V.str (Str.ofString "buy"), rfl, rfl, ?_⟩
   rw [if_neg (by decide +kernel)]
   walk_at "nx"
   refine ⟨_, SqT.of L.t, V.str (Str.ofString "buy"), rfl, rfl, ?_⟩
   rw [if_neg (by decide +kernel)]
   exact k pd _ _ L.s hpd L.d L.r L.k
  | sell d n w p r f o =>
   walk_at "nx"
   refine ⟨_, SqT.of L.t, V.str (Str.ofString "sell"), rfl, by rw [sizeLine_eq]; decide, fun qa ha => ⟨_, .inr (SqT.of upd_same), rfl, rfl, ?_⟩⟩
   replace L := L.same (Same.new (o := .tup [V.str (Str.ofString "buy"), V.str (Str.ofString "sell"), V.str (Str.ofString "gift"), V.str (Str.ofString "give")]) ha)
   rw [if_pos (by decide +kernel)]
   revert L; generalize upd _ qa _ = Hn; intro L
   refine ⟨cp (.inr (.inl rfl)), by rw [sizeLine_eq]; decide, fun qb hb => ⟨_, DPut.k (k := Sum.inl 4) (L.same (Same.new hb)).d (rg_len L (by decide)), ?_⟩⟩
   replace L := (L.same (Same.new (o := .tup [V.int 1, V.int (10 ^ Int.toNat 9)]) hb)).put (k := 4) (lo := 1) (hi := 1000000000) hpd upd_same (by simp)
   revert L; generalize upd _ pd _ = Hn; intro L
   walk_at "nx"
   refine ⟨_, SqT.of L.t, V.str (Str.ofString "sell"), rfl, by rw [sizeLine_eq]; decide, fun qa ha => ⟨_, .inr (SqT.of upd_same), rfl, rfl, ?_⟩⟩
   replace L := L.same (Same.new (o := .tup [V.str (Str.ofString "buy"), V.str (Str.ofString "sell")]) ha)
   rw [if_pos (by decide +kernel)]
   revert L; generalize upd _ qa _ = Hn; intro L
   walk_at "nx"
   refine ⟨cp (.inr (.inl rfl)), by rw [sizeLine_eq]; decide, fun qb hb => ⟨_, DPut.k (k := Sum.inl 5) (L.same (Same.new hb)).d (rg_len L (by decide)), ?_⟩⟩
   replace L := (L.same (Same.new (o := .tup [V.int 0, V.int (10 ^ Int.toNat 9)]) hb)).put (k := 5) (lo := 0) (hi := 1000000000) hpd upd_same (by simp)
   revert L; generalize upd _ pd _ = Hn; intro L
   refine ⟨cp (.inr (.inl rfl)), by rw [sizeLine_eq]; decide, fun qb hb => ⟨_, DPut.k (k := Sum.inl 6) (L.same (Same.new hb)).d (rg_len L (by decide)), ?_⟩⟩
   replace L := (L.same (Same.new (o := .tup [V.int 0, V.int (10 ^ Int.toNat 9)]) hb)).put (k := 6) (lo := 0) (hi := 1000000000) hpd upd_same (by simp)
   revert L; generalize upd _ pd _ = Hn; intro L
   walk_at "nx"
   refine ⟨_, SqT.of L.t, V.str (Str.ofString "sell"), rfl, rfl, ?_⟩
   rw [if_neg (by decide +kernel)]
   walk_at "nx"
   refine ⟨_, SqT.of L.t, V.str (Str.ofString "sell"), rfl, rfl, ?_⟩
   rw [if_neg (by decide +kernel)]
   walk_at "nx"
   refine ⟨_, SqT.of L.t, V.str (Str.ofString "sell"), rfl, rfl, ?_⟩
   rw [if_neg (by decide +kernel)]
   exact k pd _ _ L.s hpd L.d L.r L.k
  | gift d n w p c s =>
   walk_at "nx"
   refine ⟨_, SqT.of L.t, V.str (Str.ofString "gift"), rfl, by rw [sizeLine_eq]; decide, fun qa ha => ⟨_, .inr (SqT.of upd_same), rfl, rfl, ?_⟩⟩
   replace L := L.same (Same.new (o := .tup [V.str (Str.ofString "buy"), V.str (Str.ofString "sell"), V.str (Str.ofString "gift"), V.str (Str.ofString "give")]) ha)
   rw [if_pos (by decide +kernel)]
   revert L; generalize upd _ qa _ = Hn; intro L
   refine ⟨cp (.inr (.inl rfl)), by rw [sizeLine_eq]; decide, fun qb hb => ⟨_, DPut.k (k := Sum.inl 4) (L.same (Same.new hb)).d (rg_len L (by decide)), ?_⟩⟩
   replace L := (L.same (Same.new (o := .tup [V.int 1, V.int (10 ^ Int.toNat 9)]) hb)).put (k := 4) (lo := 1) (hi := 1000000000) hpd upd_same (by simp)
   revert L; generalize upd _ pd _ = Hn; intro L
   walk_at "nx"
   refine ⟨_, SqT.of L.t, V.str (Str.ofString "gift"), rfl, by rw [sizeLine_eq]; decide, fun qa ha => ⟨_, .inr (SqT.of upd_same), rfl, rfl, ?_⟩⟩
   replace L := L.same (Same.new (o := .tup [V.str (Str.ofString "buy"), V.str (Str.ofString "sell")]) ha)
   rw [if_neg (by decide +kernel)]
   revert L; generalize upd _ qa _ = Hn; intro L
   walk_at "nx"
   refine ⟨_, SqT.of L.t, V.str (Str.ofString "gift"), rfl, rfl, ?_⟩
   rw [if_pos rfl]
   walk_at "nx"
   refine ⟨cp (.inr (.inr rfl)), by rw [sizeLine_eq]; decide, fun qb hb => ⟨_, DPut.k (k := Sum.inl 5) (L.same (Same.new hb)).d (rg_len L (by decide)), ?_⟩⟩
   replace L := (L.same (Same.new (o := .tup [V.int 0, V.int (10 ^ Int.toNat 18)]) hb)).put (k := 5) (lo := 0) (hi := 1000000000000000000) hpd upd_same (by simp)
   revert L; generalize upd _ pd _ = Hn; intro L
   refine ⟨_, SqT.of L.t, _, rfl, by rw [sizeLine_eq]; decide, fun qb hb => ⟨_, DPut.k (k := Sum.inl 6) (L.same (Same.new hb)).d (rg_len L (by decide)), ?_⟩⟩
   replace L := (L.same (Same.new (o := .tup [V.int 0, V.int d]) hb)).put (k := 6) (lo := 0) (hi := d) hpd upd_same (by simp)
   revert L; generalize upd _ pd _ = Hn; intro L
   walk_at "nx"
   refine ⟨_, SqT.of L.t, V.str (Str.ofString "gift"), rfl, rfl, ?_⟩
   rw [if_neg (by decide +kernel)]
   walk_at "nx"
   refine ⟨_, SqT.of L.t, V.str (Str.ofString "gift"), rfl, rfl, ?_⟩
   rw [if_neg (by decide +kernel)]
   exact k pd _ _ L.s hpd L.d L.r L.k
  | give d n w p o =>
   walk_at "nx"
   refine ⟨_, SqT.of L.t, V.str (Str.ofString "give"), rfl, by rw [sizeLine_eq]; decide, fun qa ha => ⟨_, .inr (SqT.of upd_same), rfl, rfl, ?_⟩⟩
   replace L := L.same (Same.new (o := .tup [V.str (Str.ofString "buy"), V.str (Str.ofString "sell"), V.str (Str.ofString "gift"), V.str (Str.ofString "give")]) ha)
   rw [if_pos (by decide +kernel)]
   revert L; generalize upd _ qa _ = Hn; intro L
   refine ⟨cp (.inr (.inl rfl)), by rw [sizeLine_eq]; decide, fun qb hb => ⟨_, DPut.k (k := Sum.inl 4) (L.same (Same.new hb)).d (rg_len L (by decide)), ?_⟩⟩
   replace L := (L.same (Same.new (o := .tup [V.int 1, V.int (10 ^ Int.toNat 9)]) hb)).put (k := 4) (lo := 1) (hi := 1000000000) hpd upd_same (by simp)
   revert L; generalize upd _ pd _ = Hn; intro L
   walk_at "nx"
   refine ⟨_, SqT.of L.t, V.str (Str.ofString "give"), rfl, by rw [sizeLine_eq]; decide, fun qa ha => ⟨_, .inr (SqT.of upd_same), rfl, rfl, ?_⟩⟩
   replace L := L.same (Same.new (o := .tup [V.str (Str.ofString "buy"), V.str (Str.ofString "sell")]) ha)
   rw [if_neg (by decide +kernel)]
   revert L; generalize upd _ qa _ = Hn; intro L
   walk_at "nx"
   refine ⟨_, SqT.of L.t, V.str (Str.ofString "give"), rfl, rfl, ?_⟩
   rw [if_neg (by decide +kernel)]
   walk_at "nx"
   refine ⟨_, SqT.of L.t, V.str (Str.ofString "give"), rfl, rfl, ?_⟩
   rw [if_neg (by decide +kernel)]
   walk_at "nx"
   refine ⟨_, SqT.of L.t, V.str (Str.ofString "give"), rfl, rfl, ?_⟩
   rw [if_neg (by decide +kernel)]
   exact k pd _ _ L.s hpd L.d L.r L.k
  | split d n w m f =>
   walk_at "nx"
   refine ⟨_, SqT.of L.t, V.str (Str.ofString "split"), rfl, by rw [sizeLine_eq]; decide, fun qa ha => ⟨_, .inr (SqT.of upd_same), rfl, rfl, ?_⟩⟩
   replace L := L.same (Same.new (o := .tup [V.str (Str.ofString "buy"), V.str (Str.ofString "sell"), V.str (Str.ofString "gift"), V.str (Str.ofString "give")]) ha)
   rw [if_neg (by decide +kernel)]
   revert L; generalize upd _ qa _ = Hn; intro L
   walk_at "nx"
   refine ⟨_, SqT.of L.t, V.str (Str.ofString "split"), rfl, by rw [sizeLine_eq]; decide, fun qa ha => ⟨_, .inr (SqT.of upd_same), rfl, rfl, ?_⟩⟩
   replace L := L.same (Same.new (o := .tup [V.str (Str.ofString "buy"), V.str (Str.ofString "sell")]) ha)
   rw [if_neg (by decide +kernel)]
   revert L; generalize upd _ qa _ = Hn; intro L
   walk_at "nx"
   refine ⟨_, SqT.of L.t, V.str (Str.ofString "split"), rfl, rfl, ?_⟩
   rw [if_neg (by decide +kernel)]
   walk_at "nx"
   refine ⟨_, SqT.of L.t, V.str (Str.ofString "split"), rfl, rfl, ?_⟩
   rw [if_pos rfl]
   walk_at "nx"
   refine ⟨by rw [sizeLine_eq]; decide, fun qb hb => ⟨_, DPut.k (k := Sum.inl 4) (L.same (Same.new hb)).d (rg_len L (by decide)), ?_⟩⟩
   replace L := (L.same (Same.new (o := .tup [V.int 1, V.int 1000]) hb)).put (k := 4) (lo := 1) (hi := 1000) hpd upd_same (by simp)
   revert L; generalize upd _ pd _ = Hn; intro L
   refine ⟨by rw [sizeLine_eq]; decide, fun qb hb => ⟨_, DPut.k (k := Sum.inl 5) (L.same (Same.new hb)).d (rg_len L (by decide)), ?_⟩⟩
   replace L := (L.same (Same.new (o := .tup [V.int 1, V.int 1000]) hb)).put (k := 5) (lo := 1) (hi := 1000) hpd upd_same (by simp)
   revert L; generalize upd _ pd _ = Hn; intro L
   walk_at "nx"
   refine ⟨_, SqT.of L.t, V.str (Str.ofString "split"), rfl, rfl, ?_⟩
   rw [if_neg (by decide +kernel)]
   exact k pd _ _ L.s hpd L.d L.r L.k
  | part d n w u s t2 =>
   walk_at "nx"
   refine ⟨_, SqT.of L.t, V.str (Str.ofString "part"), rfl, by rw [sizeLine_eq]; decide, fun qa ha => ⟨_, .inr (SqT.of upd_same), rfl, rfl, ?_⟩⟩
   replace L := L.same (Same.new (o := .tup [V.str (Str.ofString "buy"), V.str (Str.ofString "sell"), V.str (Str.ofString "gift"), V.str (Str.ofString "give")]) ha)
   rw [if_neg (by decide +kernel)]
   revert L; generalize upd _ qa _ = Hn; intro L
   walk_at "nx"
   refine ⟨_, SqT.of L.t, V.str (Str.ofString "part"), rfl, by rw [sizeLine_eq]; decide, fun qa ha => ⟨_, .inr (SqT.of upd_same), rfl, rfl, ?_⟩⟩
   replace L := L.same (Same.new (o := .tup [V.str (Str.ofString "buy"), V.str (Str.ofString "sell")]) ha)
   rw [if_neg (by decide +kernel)]
   revert L; generalize upd _ qa _ = Hn; intro L
   walk_at "nx"
   refine ⟨_, SqT.of L.t, V.str (Str.ofString "part"), rfl, rfl, ?_⟩
   rw [if_neg (by decide +kernel)]
   walk_at "nx"
   refine ⟨_, SqT.of L.t, V.str (Str.ofString "part"), rfl, rfl, ?_⟩
   rw [if_neg (by decide +kernel)]
   walk_at "nx"
   refine ⟨_, SqT.of L.t, V.str (Str.ofString "part"), rfl, rfl, ?_⟩
   rw [if_pos rfl]
   walk_at "nx"
   refine ⟨_, SqT.of L.t, _, rfl, by rw [sizeLine_eq]; decide, fun qb hb => ⟨_, DPut.k (k := Sum.inl 5) (L.same (Same.new hb)).d (rg_len L (by decide)), ?_⟩⟩
   replace L := (L.same (Same.new (o := .tup [V.int 0, V.int t2]) hb)).put (k := 5) (lo := 0) (hi := t2) hpd upd_same (by simp)
   revert L; generalize upd _ pd _ = Hn; intro L
   refine ⟨_, SqT.of L.t, _, rfl, 1, s, rfl, cp (.inl rfl), by rw [sizeLine_eq]; decide, fun qb hb => ⟨_, DPut.k (k := Sum.inl 6) (L.same (Same.new hb)).d (rg_len L (by simp)), ?_⟩⟩
   replace L := (L.same (Same.new (o := .tup [V.int (if s > 1 then s else 1), V.int (10 ^ Int.toNat 6)]) hb)).put (k := 6) (lo := if s > 1 then s else 1) (hi := 1000000) hpd upd_same (by simp)
   exact k pd _ _ L.s hpd L.d L.r L.k
end
end My
namespace My
open PySem L2 PyProof.Rows
section
variable {P : Program} {w : World} {K : Fg_} {mg : Str -> Option Value} {base : Heap} {A : Adr} {D : Fds}
def Ent.setI (k n : Int) : Ent -> Ent
 | .buy d m w p r f => .buy (if k = 1 then n else d) (if k = 2 then n else m) w (if k = 4 then n else p) (if k = 5 then n else r) (if k = 6 then n else f)
 | .sell d m w p r f o => .sell (if k = 1 then n else d) (if k = 2 then n else m) w (if k = 4 then n else p) (if k = 5 then n else r) (if k = 6 then n else f) o
 | .gift d m w p c s => .gift (if k = 1 then n else d) (if k = 2 then n else m) w (if k = 4 then n else p) (if k = 5 then n else c) (if k = 6 then n else s)
 | .give d m w p o => .give (if k = 1 then n else d) (if k = 2 then n else m) w (if k = 4 then n else p) o
 | .split d m w a b => .split (if k = 1 then n else d) (if k = 2 then n else m) w (if k = 4 then n else a) (if k = 5 then n else b)
 | .part d m w u s t => .part (if k = 1 then n else d) (if k = 2 then n else m) w u (if k = 5 then n else s) (if k = 6 then n else t)
def Ent.setW (z : Str) : Ent -> Ent
 | .buy d m _ p r f => .buy d m z p r f
 | .sell d m _ p r f o => .sell d m z p r f o
 | .gift d m _ p c s => .gift d m z p c s
 | .give d m _ p o => .give d m z p o
 | .split d m _ a b => .split d m z a b
 | .part d m _ u s t => .part d m z u s t
def Ent.setU (z : Str) : Ent -> Ent
 | .part d m w _ s t => .part d m w z s t
 | e => e
def tdE (e : Ent) (nt : V) : List V := .str e.word :: e.args nt
theorem all5 {α : Type} {P : α -> Prop} {a b c d f : α} (h1 : P a) (h2 : P b) (h3 : P c) (h4 : P d) (h5 : P f) : ∀ r ∈ [a, b, c, d, f], P r := by
 intro r hr
 simp only [List.mem_cons, List.not_mem_nil, or_false] at hr
 rcases hr with rfl | rfl | rfl | rfl | rfl <;> assumption
theorem all4 {α : Type} {P : α -> Prop} {a b c d : α} (h1 : P a) (h2 : P b) (h3 : P c) (h4 : P d) : ∀ r ∈ [a, b, c, d], P r := by
 intro r hr
 simp only [List.mem_cons, List.not_mem_nil, or_false] at hr
 rcases hr with rfl | rfl | rfl | rfl <;> assumption
theorem all3 {α : Type} {P : α -> Prop} {a b c : α} (h1 : P a) (h2 : P b) (h3 : P c) : ∀ r ∈ [a, b, c], P r := by
 intro r hr
 simp only [List.mem_cons, List.not_mem_nil, or_false] at hr
 rcases hr with rfl | rfl | rfl <;> assumption
theorem set_td (e : Ent) (nt : V) (n : Int) : ∀ r ∈ rgE e, cutV (tdE e nt) Option.none (some r.1) ++ [.int n] ++ cutV (tdE e nt) (some (r.1 + 1)) Option.none = tdE (e.setI r.1 n) nt := by
 cases e with
 | give => exact all3 rfl rfl rfl
 | split => exact all4 rfl rfl rfl rfl
 | part => exact all4 rfl rfl rfl rfl
 | _ => exact all5 rfl rfl rfl rfl rfl
theorem set_bad {e : Ent} (n : Int) : ∀ r ∈ rgE e, (n < r.2.1 \/ r.2.2 < n) -> ¬ (e.setI r.1 n).good := by
 cases e with
 | buy d m w p r f =>
  refine all5 (fun h g => ?_) (fun h g => ?_) (fun h g => ?_) (fun h g => ?_) (fun h g => ?_)
  ·have := g.1.d0; have := g.1.d1; simp at *; omega
  ·have := g.1.n0; have := g.1.n1; simp at *; omega
  ·have := g.2.1; unfold Rg at this; simp at *; omega
  ·have := g.2.2.1; unfold Rg at this; simp at *; omega
  ·have := g.2.2.2; unfold Rg at this; simp at *; omega
 | sell d m w p r f o =>
  refine all5 (fun h g => ?_) (fun h g => ?_) (fun h g => ?_) (fun h g => ?_) (fun h g => ?_)
  ·have := g.1.d0; have := g.1.d1; simp at *; omega
  ·have := g.1.n0; have := g.1.n1; simp at *; omega
  ·have := g.2.1; unfold Rg at this; simp at *; omega
  ·have := g.2.2.1; unfold Rg at this; simp at *; omega
  ·have := g.2.2.2.1; unfold Rg at this; simp at *; omega
 | gift d m w p c s =>
  refine all5 (fun h g => ?_) (fun h g => ?_) (fun h g => ?_) (fun h g => ?_) (fun h g => ?_)
  ·have := g.1.d0; have := g.1.d1; simp at *; omega
  ·have := g.1.n0; have := g.1.n1; simp at *; omega
  ·have := g.2.1; unfold Rg at this; simp at *; omega
  ·have := g.2.2.1; unfold Rg at this; simp at *; omega
  ·have := g.2.2.2; unfold Rg at this; simp at *; omega
 | give d m w p o =>
  refine all3 (fun h g => ?_) (fun h g => ?_) (fun h g => ?_)
  ·have := g.1.d0; have := g.1.d1; simp at *; omega
  ·have := g.1.n0; have := g.1.n1; simp at *; omega
  ·have := g.2.1; unfold Rg at this; simp at *; omega
 | split d m w a b =>
  refine all4 (fun h g => ?_) (fun h g => ?_) (fun h g => ?_) (fun h g => ?_)
  ·have := g.1.d0; have := g.1.d1; simp at *; omega
  ·have := g.1.n0; have := g.1.n1; simp at *; omega
  ·have := g.2.1; unfold Rg at this; simp at *; omega
  ·have := g.2.2; unfold Rg at this; simp at *; omega
 | part d m w u s t =>
  refine all4 (fun h g => ?_) (fun h g => ?_) (fun h g => ?_) (fun h g => ?_)
  ·have := g.1.d0; have := g.1.d1; simp at *; omega
  ·have := g.1.n0; have := g.1.n1; simp at *; omega
  ·have := g.2.2.2.2; unfold Rg at this; simp at *; omega
  ·have h1 := g.2.2.2.1; have h2 := g.2.2.2.2; unfold Rg at h1 h2; simp at *; split at h <;> omega
theorem good_sz {e : Ent} (h : e.good) : e.sz := by
 have nm : ∀ {z : Str}, Nm z -> z.length <= 1000 := fun h => Nat.le_trans h.2.1 (by decide)
 cases e with
 | sell d m w p r f o => exact ⟨nm h.1.w, fun rs e => by subst e; exact h.2.2.2.2.l⟩
 | give d m w p o => exact ⟨nm h.1.w, fun rs e => by subst e; exact h.2.2.l⟩
 | part d m w u s t => exact ⟨nm h.1.w, nm h.2.1⟩
 | _ => exact nm h.1.w
theorem set_sz {e : Ent} {k n : Int} (h : e.sz) : (e.setI k n).sz := by cases e <;> exact h
theorem setW_sz {e : Ent} {z : Str} (h : e.sz) (hz : z.length <= 1000) : (e.setW z).sz := by
 cases e with
 | sell => exact ⟨hz, h.2⟩
 | give => exact ⟨hz, h.2⟩
 | part => exact ⟨hz, h.2⟩
 | _ => exact hz
theorem setW_bad {e : Ent} {z : Str} (hz : ¬ Nm z) : ¬ (e.setW z).good := fun h => by cases e <;> exact hz h.1.w
theorem setW_td (e : Ent) (nt : V) (z : Str) : cutV (tdE e nt) Option.none (some 3) ++ [.str z] ++ cutV (tdE e nt) (some 4) Option.none = tdE (e.setW z) nt := by cases e <;> rfl
theorem set_lots (e : Ent) (k n : Int) : (e.setI k n).lots = e.lots := by cases e <;> rfl
theorem setW_lots (e : Ent) (z : Str) : (e.setW z).lots = e.lots := by cases e <;> rfl
def NWh (L : Nat) (k : Int) : Prop := ¬ (HT.sIx L 0 Option.none = 0 /\ HT.sIx L L (some k) = L) /\ ¬ (HT.sIx L 0 (some (k + 1)) = 0 /\ HT.sIx L L Option.none = L)
theorem set_ne (e : Ent) (nt : V) : ∀ r ∈ rgE e, NWh (tdE e nt).length r.1 /\ cutV (tdE e nt) Option.none (some r.1) ≠ [] := by
 have nc : ∀ {v : V} {l : List V}, v :: l ≠ [] := fun {_ _} => List.cons_ne_nil _ _
 cases e with
 | buy => exact all5 ⟨show NWh 7 1 from by unfold NWh; decide, nc⟩ ⟨show NWh 7 2 from by unfold NWh; decide, nc⟩ ⟨show NWh 7 4 from by unfold NWh; decide, nc⟩ ⟨show NWh 7 5 from by unfold NWh; decide, nc⟩ ⟨show NWh 7 6 from by unfold NWh; decide, nc⟩
 | sell => exact all5 ⟨show NWh 8 1 from by unfold NWh; decide, nc⟩ ⟨show NWh 8 2 from by unfold NWh; decide, nc⟩ ⟨show NWh 8 4 from by unfold NWh; decide, nc⟩ ⟨show NWh 8 5 from by unfold NWh; decide, nc⟩ ⟨show NWh 8 6 from by unfold NWh; decide, nc⟩
 | gift => exact all5 ⟨show NWh 7 1 from by unfold NWh; decide, nc⟩ ⟨show NWh 7 2 from by unfold NWh; decide, nc⟩ ⟨show NWh 7 4 from by unfold NWh; decide, nc⟩ ⟨show NWh 7 5 from by unfold NWh; decide, nc⟩ ⟨show NWh 7 6 from by unfold NWh; decide, nc⟩
 | give => exact all3 ⟨show NWh 6 1 from by unfold NWh; decide, nc⟩ ⟨show NWh 6 2 from by unfold NWh; decide, nc⟩ ⟨show NWh 6 4 from by unfold NWh; decide, nc⟩
 | split => exact all4 ⟨show NWh 6 1 from by unfold NWh; decide, nc⟩ ⟨show NWh 6 2 from by unfold NWh; decide, nc⟩ ⟨show NWh 6 4 from by unfold NWh; decide, nc⟩ ⟨show NWh 6 5 from by unfold NWh; decide, nc⟩
 | part => exact all4 ⟨show NWh 7 1 from by unfold NWh; decide, nc⟩ ⟨show NWh 7 2 from by unfold NWh; decide, nc⟩ ⟨show NWh 7 5 from by unfold NWh; decide, nc⟩ ⟨show NWh 7 6 from by unfold NWh; decide, nc⟩
theorem w_ne (e : Ent) (nt : V) : NWh (tdE e nt).length 3 /\ cutV (tdE e nt) Option.none (some 3) ≠ [] := by
 have nc : ∀ {v : V} {l : List V}, v :: l ≠ [] := fun {_ _} => List.cons_ne_nil _ _
 cases e with
 | buy => exact ⟨show NWh 7 3 from by unfold NWh; decide, nc⟩
 | sell => exact ⟨show NWh 8 3 from by unfold NWh; decide, nc⟩
 | gift => exact ⟨show NWh 7 3 from by unfold NWh; decide, nc⟩
 | give => exact ⟨show NWh 6 3 from by unfold NWh; decide, nc⟩
 | split => exact ⟨show NWh 6 3 from by unfold NWh; decide, nc⟩
 | part => exact ⟨show NWh 7 3 from by unfold NWh; decide, nc⟩
theorem valR {rr : RR} {m : Int} (h : m ∈ rr.map (·.2.1)) : ∃ r, r ∈ rr /\ r.2.1 = m /\ valV (dR rr) (Sum.inl m) = some (.ref r.1) := by
 induction rr with
 | nil => cases h
 | cons r rr ih =>
  by_cases e : r.2.1 = m
  ·refine ⟨r, .head _, e, ?_⟩
   show valV ((Sum.inl r.2.1, V.ref r.1) :: dR rr) (Sum.inl m) = _
   rw [valV_pos (by rw [e])]
  ·rcases List.mem_cons.mp h with h | h
   ·exact (e h.symm).elim
   ·obtain ⟨q, h1, h2, h3⟩ := ih h
    refine ⟨q, .tail _ h1, h2, ?_⟩
    show valV ((Sum.inl r.2.1, V.ref r.1) :: dR rr) (Sum.inl m) = _
    rw [valV_neg (fun z => e (Sum.inl.inj z)), h3]
theorem rg_len60 (e : Ent) : (rgE e).length <= 5 := by cases e <;> exact Nat.le_of_ble_eq_true rfl
theorem td_len (e : Ent) (nt : V) : (tdE e nt).length <= 20 := by cases e <;> exact Nat.le_of_ble_eq_true rfl
theorem part_is {e : Ent} (h : e.word = Str.ofString "part") : ∃ d m w u s t, e = .part d m w u s t := by
 cases e with
 | part d m w u s t => exact ⟨d, m, w, u, s, t, rfl⟩
 | buy => exact absurd h (show Str.ofString "buy" ≠ Str.ofString "part" by decide +kernel)
 | sell => exact absurd h (show Str.ofString "sell" ≠ Str.ofString "part" by decide +kernel)
 | gift => exact absurd h (show Str.ofString "gift" ≠ Str.ofString "part" by decide +kernel)
 | give => exact absurd h (show Str.ofString "give" ≠ Str.ofString "part" by decide +kernel)
 | split => exact absurd h (show Str.ofString "split" ≠ Str.ofString "part" by decide +kernel)
theorem u_td {e : Ent} (h : e.word = Str.ofString "part") (nt : V) (z : Str) : NWh (tdE e nt).length 4 /\ cutV (tdE e nt) Option.none (some 4) ≠ [] /\ cutV (tdE e nt) Option.none (some 4) ++ [.str z] ++ cutV (tdE e nt) (some 5) Option.none = tdE (e.setU z) nt := by
 obtain ⟨d, m, w, u, s, t, rfl⟩ := part_is h
 exact ⟨show NWh 7 4 from by unfold NWh; decide, List.cons_ne_nil _ _, rfl⟩
theorem setU_lots (e : Ent) (z : Str) : (e.setU z).lots = e.lots := by cases e <;> rfl
theorem setU_sz {e : Ent} {z : Str} (h : e.sz) (hz : z.length <= 1000) : (e.setU z).sz := by
 cases e with
 | part => exact ⟨h.1, hz⟩
 | _ => exact h
theorem setU_bad {e : Ent} (h : e.word = Str.ofString "part") (hlk : e.lk) {z : Str} (hz : ¬ Nm z \/ z = Str.ofString "cup") : ¬ (e.setU z).good := by
 obtain ⟨d, m, w, u, s, t, rfl⟩ := part_is h
 intro g
 rcases hz with hz | hz
 ·exact hz g.2.1
 ·exact g.2.2.1 (hz.trans hlk.symm)
theorem nm_isin (e : Ent) : inV (V.str e.word) [V.str (Str.ofString "sell"), V.str (Str.ofString "give")] = true -> e.lk -> e.lots ≠ Option.none /\ ∀ rs, e.lots = some rs -> rs.length <= 3 := by
 cases e with
 | sell => exact fun _ ⟨rs, h, hl⟩ => by subst h; exact ⟨(fun z => nomatch z), fun q e => by cases e; exact hl⟩
 | give => exact fun _ ⟨rs, h, hl⟩ => by subst h; exact ⟨(fun z => nomatch z), fun q e => by cases e; exact hl⟩
 | buy => exact fun h => absurd h (show inV (V.str (Str.ofString "buy")) [V.str (Str.ofString "sell"), V.str (Str.ofString "give")] ≠ true by decide +kernel)
 | gift => exact fun h => absurd h (show inV (V.str (Str.ofString "gift")) [V.str (Str.ofString "sell"), V.str (Str.ofString "give")] ≠ true by decide +kernel)
 | split => exact fun h => absurd h (show inV (V.str (Str.ofString "split")) [V.str (Str.ofString "sell"), V.str (Str.ofString "give")] ≠ true by decide +kernel)
 | part => exact fun h => absurd h (show inV (V.str (Str.ofString "part")) [V.str (Str.ofString "sell"), V.str (Str.ofString "give")] ≠ true by decide +kernel)
def badN : List Str := [Str.ofString "", Str.ofString "abcdefghi", Str.ofString "Cup", Str.ofString "cup1", Str.ofString "cu p", Str.ofString "c-p", Str.ofString "cup "]
theorem badN_ok : ∀ z ∈ badN, ¬ Nm z /\ z.length <= 1000 := by
 intro z hz
 have key : ∀ z ∈ badN, decide (Nm z) = false /\ z.length <= 1000 := by unfold badN; decide +kernel
 exact ⟨fun h => (by have := (key z hz).1; rw [decide_eq_true h] at this; cases this), (key z hz).2⟩
end
end My
namespace My
open PySem L2 PyProof.Rows
section
variable {P : Program} {w : World} {K : Fg_} {mg : Str -> Option Value} {base : Heap} {A : Adr} {D : Fds}
local macro_rules | `(tactic| walk_at "nx") => `(tactic| ((try dsimp only); rw [ap_seq]; walk_at "rdi"))
def But' (D : Addr) (H H' : Hp) : Prop := ∀ b u, b ≠ D -> H b = some u -> H' b = some u
theorem But'.same {D : Addr} {H H' H'' : Hp} (h : But' D H H') (s : Same H' H'') : But' D H H'' := fun b u n e => s _ _ (h b u n e)
theorem But'.put {D : Addr} {H H' : Hp} {o : HO} (h : But' D H H') : But' D H (upd H' D o) := fun b u n e => by rw [upd_ne n]; exact h b u n e
theorem But'.trans {D : Addr} {H H' H'' : Hp} (h : But' D H H') (s : But' D H' H'') : But' D H H'' := fun b u n e => s _ _ n (h b u n e)
theorem tupE_but' {D t : Addr} {H H' : Hp} {e : Ent} {xs : List V} (h : TupE H t e) (hD : H D = some (.lst xs)) (hb : But' D H H') : TupE H' t e := by
 obtain ⟨nt, h1, h2⟩ := h
 refine ⟨nt, hb _ _ (fun z => by rw [z, hD] at h1; cases h1) h1, ?_⟩
 revert h2
 cases e.lots with
 | none => exact fun h => h
 | some rs =>
  rintro ⟨q, rfl, h3, h4⟩
  refine ⟨q, rfl, hb _ _ (fun z => by rw [z, hD] at h3; cases h3) h3, fun r hr => hb _ _ (fun z => ?_) (h4 r hr)⟩
  have h5 := h4 r hr
  rw [z, hD] at h5
  cases h5
abbrev NR := List (Addr × Rs)
def refsN (l : NR) : List V := l.map fun r => V.ref r.1
structure Nr (H H' : Hp) (pf : Addr) (nl : NR) (p : Int) (n : Nat) : Prop where
 s : Same H H'
 f : H' pf = some (.lst (refsN nl))
 b : ∀ r ∈ nl, H' r.1 = some (.tup (refs r.2)) /\ Lots H' r.2 /\ r.2.length <= 5 /\ ¬ GoodN r.2 p
 l : nl.length <= n
theorem Nr.same {H H' H'' : Hp} {pf : Addr} {nl : NR} {p : Int} {n : Nat} (h : Nr H H' pf nl p n) (s : Same H' H'') : Nr H H'' pf nl p n := ⟨h.s.trans s, s _ _ h.f, fun r hr => ⟨s _ _ (h.b r hr).1, (h.b r hr).2.1.same s, (h.b r hr).2.2⟩, h.l⟩
def sp__law_bad_names (K : Fg_) : Sp := fun vs H Q _ => ∃ (t : Addr) (e : Ent) (far : Int), vs = [.ref t, .int far] /\ TupE H t e /\ e.good /\ e.lots ≠ Option.none /\ (∀ rs, e.lots = some rs -> rs.length <= 3) /\ 1 <= far /\
 ∀ p (bl : EL) H', Same H H' -> H p = Option.none -> H' p = some (.lst (refsE bl)) -> (∀ r ∈ bl, TupE H' r.1 r.2 /\ r.2.sz /\ ¬ r.2.good) -> bl.length <= 8 -> Q (.ref p) H'
theorem lots_good {e : Ent} {rs : Rs} (hg : e.good) (h : e.lots = some rs) : ∃ p, 1 <= p /\ GoodN rs p := by
 cases e with
 | sell d m w p r f o => subst h; exact ⟨p, hg.2.1.1, hg.2.2.2.2⟩
 | give d m w p o => subst h; exact ⟨p, hg.2.1.1, hg.2.2⟩
 | _ => cases h
def Ent.setL (rs : Rs) : Ent -> Ent
 | .sell d m w p r f _ => .sell d m w p r f (some rs)
 | .give d m w p _ => .give d m w p (some rs)
 | e => e
theorem setL_td {e : Ent} {rs0 : Rs} (h : e.lots = some rs0) (nt nt' : V) : cutV (tdE e nt) Option.none (some (-1)) ++ [nt'] = tdE e nt' := by
 cases e with
 | sell => rfl
 | give => rfl
 | _ => cases h
theorem setL_is {e : Ent} {rs0 rs : Rs} (h : e.lots = some rs0) (nt' : V) : tdE e nt' = tdE (e.setL rs) nt' /\ (e.setL rs).lots = some rs := by
 cases e with
 | sell => exact ⟨rfl, rfl⟩
 | give => exact ⟨rfl, rfl⟩
 | _ => cases h
theorem setL_sz {e : Ent} {rs0 rs : Rs} (h : e.lots = some rs0) (hg : e.good) (hl : rs.length <= 5) : (e.setL rs).sz := by
 have hz := good_sz hg
 cases e with
 | sell => exact ⟨hz.1, fun q e => by cases e; exact hl⟩
 | give => exact ⟨hz.1, fun q e => by cases e; exact hl⟩
 | _ => cases h
theorem setL_bad {e : Ent} {rs0 rs : Rs} {p : Int} (h : e.lots = some rs0) (hg : e.good) (hp : GoodN rs0 p) (hb : ¬ GoodN rs p) : ¬ (e.setL rs).good := fun g => by
 cases e with
 | sell d m w p' r f o => subst h; exact hb (by have := hg.2.2.2.2.s; rw [hp.s] at this; rw [this]; exact g.2.2.2.2)
 | give d m w p' o => subst h; exact hb (by have := hg.2.2.s; rw [hp.s] at this; rw [this]; exact g.2.2)
 | _ => cases h
theorem last_td {e : Ent} {rs0 : Rs} (h : e.lots = some rs0) (nt : V) : atI (tdE e nt) (-1) = some nt := by
 cases e with
 | sell => rfl
 | give => rfl
 | _ => cases h
theorem bad_dup {r0 : Addr × Int × Int} {rest : Rs} {a : Addr} {x p : Int} : ¬ GoodN ((r0 :: rest) ++ [(a, r0.2.1, x)]) p := fun h => by
 have := h.u
 rw [List.map_append, List.map_cons, List.cons_append, List.nodup_cons] at this
 exact this.1 (by simp)
theorem bad_zero {rs : Rs} {a : Addr} {i p : Int} : ¬ GoodN (rs ++ [(a, i, 0)]) p := fun h => by
 have := (h.b (a, i, 0) (by simp)).2.2.1
 exact absurd (show (1 : Int) <= 0 from this) (by decide)
theorem bad_nil {p : Int} (hp : 1 <= p) : ¬ GoodN [] p := fun h => by
 have : (0 : Int) = p := h.s
 omega
theorem bad_two {r0 : Addr × Int × Int} {p : Int} : ¬ GoodN [r0, r0] p := fun h => by
 have := h.u
 simp at this
theorem bad_sum {r0 : Addr × Int × Int} {rest : Rs} {a : Addr} {i j p : Int} (hG : GoodN (r0 :: rest) p) (hj : j ≠ r0.2.2) : ¬ GoodN ((a, i, j) :: rest) p := fun h => by
 have h1 := hG.s
 have h2 := h.s
 rw [List.map_cons, List.sum_cons] at h1 h2
 exact hj (by show j = _; have h2 : j + _ = p := h2; omega)
theorem bad_num {rest : Rs} {a : Addr} {i j p : Int} (hi : i < 0 \/ 1000000 < i) : ¬ GoodN ((a, i, j) :: rest) p := fun h => by
 have := h.b (a, i, j) (.head _)
 have h1 : 0 <= i := this.1
 have h2 : i <= 1000000 := this.2.1
 omega
theorem Nr.put {H H' : Hp} {pf q : Addr} {nl : NR} {p : Int} {n : Nat} {rs : Rs} (h : Nr H H' pf nl p n) (hpf : H pf = Option.none) (hq : H' q = some (.tup (refs rs))) (hL : Lots H' rs) (hl : rs.length <= 5) (hb : ¬ GoodN rs p) : Nr H (upd H' pf (.lst (refsN nl ++ [.ref q]))) pf (nl ++ [(q, rs)]) p (n + 1) := by
 have ne : ∀ {b : Addr} {xs : List V}, H' b = some (.tup xs) -> b ≠ pf := fun hb z => by rw [z, h.f] at hb; cases hb
 have kl : ∀ {rs : Rs}, Lots H' rs -> Lots (upd H' pf (.lst (refsN nl ++ [.ref q]))) rs := fun h r hr => by rw [upd_ne (ne (h r hr))]; exact h r hr
 refine ⟨h.s.upd hpf, by rw [upd_same]; unfold refsN; rw [List.map_append]; rfl, fun r hr => ?_, by rw [List.length_append]; exact Nat.succ_le_succ h.l⟩
 rcases List.mem_append.mp hr with hr | hr
 ·exact ⟨by rw [upd_ne (ne (h.b r hr).1)]; exact (h.b r hr).1, kl (h.b r hr).2.1, (h.b r hr).2.2⟩
 ·rw [List.mem_singleton.mp hr]
  exact ⟨by rw [upd_ne (ne hq)]; exact hq, kl hL, hl, hb⟩
theorem Nr.nil {H H' : Hp} {pf : Addr} {p : Int} (s : Same H H') (hpf : H' pf = some (.lst [])) : Nr H H' pf [] p 0 := ⟨s, hpf, (fun r hr => nomatch hr), Nat.le_refl _⟩
def rSlV (K : Fg_) : V -> Option Int -> Option Int -> Hp -> VK -> Prop := rSlW K
theorem sl_tupVK {X : Cx} {K : Fg_} (hK : X.K = K := by rfl) : SlR X (rSlV K) := sl_tupWK hK
theorem sl_one {H : Hp} {l : Addr} {r0 : Addr × Int × Int} {rest : Rs} {Q : VK} (hl : H l = some (.tup (refs (r0 :: rest)))) (k : ∀ q H', Same H H' -> H' q = some (.tup [.ref r0.1]) -> Q (.ref q) H') : rSlV K (.ref l) Option.none (some 1) H Q := by
 refine ⟨l, _, rfl, SqT.of hl, fun hw => ?_, fun _ p hp => k p _ (Same.new hp) ?_⟩
 ·have e : cutV (refs (r0 :: rest)) Option.none (some 1) = [V.ref r0.1] := cut_none (refs (r0 :: rest)) 1
  have e2 : cutV (refs (r0 :: rest)) Option.none (some 1) = refs (r0 :: rest) := by
   unfold cutV
   rw [hw.1, hw.2, Nat.sub_zero, List.drop_zero, List.take_of_length_le (Nat.le_refl _)]
  exact k l H (Same.refl H) (by rw [hl, <- e, e2])
 ·rw [upd_same]
  exact congrArg (fun x => some (HO.tup x)) (cut_none (refs (r0 :: rest)) 1)
theorem sl_rest {H : Hp} {l : Addr} {r0 : Addr × Int × Int} {rest : Rs} {Q : VK} (hl : H l = some (.tup (refs (r0 :: rest)))) (k : ∀ q H', Same H H' -> H' q = some (.tup (refs rest)) -> Q (.ref q) H') : rSlV K (.ref l) (some 1) Option.none H Q := by
 refine ⟨l, _, rfl, SqT.of hl, fun hw => ?_, fun _ p hp => k p _ (Same.new hp) ?_⟩
 ·have h1 := hw.1
  rw [show (1 : Int) = ((1 : Nat) : Int) from rfl, HT.sIx_nat, refs_len, List.length_cons] at h1
  omega
 ·rw [upd_same]
  exact congrArg (fun x => some (HO.tup x)) (cut_from (refs (r0 :: rest)) 1)
theorem Lots.snoc {H : Hp} {rs : Rs} {a : Addr} {i j : Int} (h : Lots H rs) (ha : H a = some (.tup [.int i, .int j])) : Lots H (rs ++ [(a, i, j)]) := fun r hr => by
 rcases List.mem_append.mp hr with hr | hr
 ·exact h r hr
 ·rw [List.mem_singleton.mp hr]; exact ha
theorem refs_snoc (rs : Rs) (a : Addr) (i j : Int) : refs rs ++ [.ref a] = refs (rs ++ [(a, i, j)]) := by unfold refs; rw [List.map_append]; rfl
theorem l_ne {e : Ent} {rs0 : Rs} (h : e.lots = some rs0) (nt : V) : ¬ (HT.sIx (tdE e nt).length 0 Option.none = 0 /\ HT.sIx (tdE e nt).length (tdE e nt).length (some (-1)) = (tdE e nt).length) /\ cutV (tdE e nt) Option.none (some (-1)) ≠ [] := by
 cases e with
 | sell => exact ⟨show ¬ (HT.sIx 8 0 Option.none = 0 /\ HT.sIx 8 8 (some (-1)) = 8) from by decide, List.cons_ne_nil _ _⟩
 | give => exact ⟨show ¬ (HT.sIx 6 0 Option.none = 0 /\ HT.sIx 6 6 (some (-1)) = 6) from by decide, List.cons_ne_nil _ _⟩
 | _ => cases h
theorem el_ofN {F : Addr -> Ent -> Prop} (G : Rs -> Ent) : ∀ {acc : List V} {nl : NR}, acc.length = nl.length -> (∀ (i : Nat) v, acc[i]? = some v -> ∃ b r, nl[i]? = some r /\ v = .ref b /\ F b (G r.2)) -> ∃ es : EL, acc = refsE es /\ es.length = nl.length /\ ∀ r ∈ es, F r.1 r.2 /\ ∃ q ∈ nl, r.2 = G q.2
 | [], nl, hl, _ => by
  cases nl with
  | nil => exact ⟨[], rfl, rfl, fun g h => (List.not_mem_nil h).elim⟩
  | cons _ _ => simp at hl
 | v :: acc, nl, hl, h => by
  cases nl with
  | nil => simp at hl
  | cons r nl =>
   obtain ⟨b, r', e, rfl, hf⟩ := h 0 v rfl
   cases e
   obtain ⟨es, e1, e2, e3⟩ := el_ofN G (acc := acc) (nl := nl) (by simpa using hl) fun i v hv => h (i + 1) v hv
   refine ⟨(b, G r.2) :: es, by rw [e1]; rfl, by rw [List.length_cons, List.length_cons, e2], fun g hg => ?_⟩
   rcases List.mem_cons.mp hg with rfl | hg
   ·exact ⟨hf, r, .head _, rfl⟩
   ·obtain ⟨h1, q, h2, h3⟩ := e3 g hg
    exact ⟨h1, q, .tail _ h2, h3⟩
theorem ok__law_bad_names (T : Txt K mg A D) : FnOk P w K mg base CX0 1 A._law_bad_names D._law_bad_names ["_law_told", "_law_far"] (sp__law_bad_names K) := by
 refine T.F__law_bad_names.ok sc__law_bad_names (fun vs H Q E h => ?_) (fun cdv A' outer s0 H vs Q E hr h => ?_)
 ·obtain ⟨t, e, far, rfl, _⟩ := h; rfl
 ·obtain ⟨t, e, far, rfl, ⟨nt, ht, hnt⟩, hg, hlo, hsh, hfar, k⟩ := h
  refine ⟨_, (pss_cons (ps_set (i := 2) sc__law_bad_names.nd rfl (Or.inl rfl) (pe_ix (ix_tupK (K := K)) (pv 0) (pe_un un_neg pe_int) (fun _ _ => rfl)))
   (pss_cons (ps_asg (pe_ix (ix_tupK (K := K)) (pv 2) pe_int (fun _ _ => rfl)) (pg_tupK (K := K) (n := 2) rfl (pgs_cons (pg_name (i := 3) sc__law_bad_names.nd rfl (Or.inl rfl)) (pgs_cons (pg_name (i := 4) sc__law_bad_names.nd rfl (Or.inl rfl)) pgs_nil))))
   (pss_cons (ps_set (i := 5) sc__law_bad_names.nd rfl (Or.inl rfl) (pe_lst (pa_cons (pe_op (op_catTK (K := K)) (pv 2) (pe_tup (pa_cons (pe_tup (pa_cons (pv 3) (pa_cons pe_int pa_nil))) pa_nil))) (pa_cons (pe_op (op_catTK (K := K)) (pv 2) (pe_tup (pa_cons (pe_tup (pa_cons (pe_op op_add (pv 3) pe_int) (pa_cons pe_int pa_nil))) pa_nil))) (pa_cons (pe_tup pa_nil) (pa_cons (pe_op (op_catTK (K := K)) (pe_slice (sl_tupVK (K := K)) (pv 2) po_none (po_some pe_int)) (pe_slice (sl_tupVK (K := K)) (pv 2) po_none (po_some pe_int))) pa_nil))))))
   (pss_cons (ps_for PassesOwn.never rfl (pi_listK (K := K) (pe_lst (pa_cons (pe_tup (pa_cons (pv 3) (pa_cons (pe_op op_add (pv 4) pe_int) pa_nil))) (pa_cons (pe_tup (pa_cons (pv 3) (pa_cons (pe_op op_sub (pv 4) pe_int) pa_nil))) (pa_cons (pe_tup (pa_cons (pe_op op_sub pe_int (pv 1)) (pa_cons (pv 4) pa_nil))) (pa_cons (pe_tup (pa_cons (pe_op op_add (pe_op op_pow pe_int pe_int) (pv 1)) (pa_cons (pv 4) pa_nil))) pa_nil)))))) (pg_name (i := 6) sc__law_bad_names.nd rfl (Or.inl rfl))
    (pss_one (ps_expr (pe_bmK (K := K) PySem.F.plainAttrs_list PySem.F.slot_list_append PySem.F.type_list_append mt_append (pv 5) (pa_cons (pe_op (op_catTK (K := K)) (pe_tup (pa_cons (pv 6) pa_nil)) (pe_slice (sl_tupVK (K := K)) (pv 2) (po_some pe_int) po_none)) pa_nil)))))
   (pss_one (ps_ret (pe_comp (cap := [Option.none, some 0]) (N' := ["_law_row", "_law_told"]) rfl (by walk_at "compok") (pi_listK (K := K) (pv 5)) (fun _ _ _ _ => (pg_name (i := 0) (show (["_law_row", "_law_told"] : List Str).Nodup from by decide +kernel) rfl (Or.inl rfl) (Or.inr rfl))) (fun _ _ _ _ => pts_nil) (fun _ _ _ _ => (pe_op (op_catTK (K := K)) (pe_slice (sl_tupK (K := K)) (pv 1) po_none (po_some (pe_un un_neg pe_int))) (pe_tup (pa_cons (pv 0) pa_nil))))))))))), ?_⟩
  obtain ⟨rs, hrs⟩ : ∃ rs, e.lots = some rs := by
   cases h : e.lots with
   | none => exact (hlo h).elim
   | some rs => exact ⟨rs, rfl⟩
  rw [hrs] at hnt
  obtain ⟨l, rfl, hl, hL⟩ := hnt
  obtain ⟨p, hp1, hG⟩ := lots_good hg hrs
  obtain ⟨r0, rest, hr0⟩ : ∃ r0 rest, rs = r0 :: rest := by
   cases rs with
   | nil => have := hG.s; simp at this; omega
   | cons a b => exact ⟨a, b, rfl⟩
  subst hr0
  simp only [start_eq]
  walk_at "nx"
  refine ⟨_, SqT.of ht, _, last_td hrs _, ?_⟩
  walk_at "nx"
  refine ⟨_, SqT.of hl, V.ref r0.1, atI_nat (j := 0) rfl, r0.1, rfl, _, SqT.of (hL r0 (.head _)), rfl, _, _, rfl, _, _, rfl, rfl, ?_⟩
  walk_at "nx"
  have nc : ∀ {v : V} {l : List V}, v :: l ≠ [] := fun {_ _} => List.cons_ne_nil _ _
  have h5 := hG.l
  have hshort : (r0 :: rest).length <= 3 := hsh _ hrs
  have hlr : (refs (r0 :: rest)).length <= 5 := by rw [refs_len]; exact h5
  refine ⟨by rw [sizeLine_eq]; decide, fun a1 ha1 => ⟨by rw [sizeLine_eq]; decide, fun a2 ha2 => ?_⟩⟩
  have N1 := Same.new (o := .tup [V.int r0.2.1, V.int 1]) ha1
  have g1 : (upd H a1 (.tup [V.int r0.2.1, V.int 1])) a1 = some (.tup [V.int r0.2.1, V.int 1]) := upd_same
  generalize upd H a1 (.tup [V.int r0.2.1, V.int 1]) = H1 at N1 g1 ha2
  refine cat_t (Same.new ha2 _ _ (N1 _ _ hl)) upd_same nc (by rw [List.length_singleton]; omega) fun q1 H2 s2 hq1 => ?_
  have N2 := (Same.new (o := .tup [V.ref a1]) ha2).trans s2
  have g1 := N2 _ _ g1
  rw [refs_snoc _ a1 r0.2.1 1] at hq1
  have S2 := N1.trans N2
  refine ⟨by rw [sizeLine_eq]; decide, fun a3 ha3 => ⟨by rw [sizeLine_eq]; decide, fun a4 ha4 => ?_⟩⟩
  have N3 := Same.new (o := .tup [V.int (r0.2.1 + 2), V.int 0]) ha3
  have g3 : (upd H2 a3 (.tup [V.int (r0.2.1 + 2), V.int 0])) a3 = some (.tup [V.int (r0.2.1 + 2), V.int 0]) := upd_same
  generalize upd H2 a3 (.tup [V.int (r0.2.1 + 2), V.int 0]) = H3 at N3 g3 ha4
  refine cat_t (Same.new ha4 _ _ (N3 _ _ (S2 _ _ hl))) upd_same nc (by rw [List.length_singleton]; omega) fun q2 H4 s4 hq2 => ?_
  have N4 := (Same.new (o := .tup [V.ref a3]) ha4).trans s4
  have g3 := N4 _ _ g3
  rw [refs_snoc _ a3 (r0.2.1 + 2) 0] at hq2
  have S4 := S2.trans (N3.trans N4)
  refine ⟨Nat.zero_le _, fun a5 ha5 => ?_⟩
  have N5 := Same.new (o := .tup []) ha5
  have g5 : (upd H4 a5 (.tup [])) a5 = some (.tup (refs [])) := upd_same
  generalize upd H4 a5 (.tup []) = H5 at N5 g5
  have S5 := S4.trans N5
  refine sl_one (S5 _ _ hl) fun b1 H6 s6 hb1 => sl_one (s6 _ _ (S5 _ _ hl)) fun b2 H7 s7 hb2 => cat_t (s7 _ _ hb1) hb2 nc (by simp) fun q4 H8 s8 hq4 => ?_
  have S58 := s6.trans (s7.trans s8)
  have S8 := S5.trans S58
  refine ⟨by rw [sizeLine_eq]; decide, fun pf hpf => ?_⟩
  have hL8 := hL.same S8
  have T28 := N3.trans (N4.trans (N5.trans S58))
  have T48 := N5.trans S58
  have n9 := Same.new (o := .lst [V.ref q1, V.ref q2, V.ref a5, V.ref q4]) hpf
  have hpf0 : H pf = Option.none := S8.free hpf
  have k9 : (upd H8 pf (.lst [V.ref q1, V.ref q2, V.ref a5, V.ref q4])) pf = some (.lst [V.ref q1, V.ref q2, V.ref a5, V.ref q4]) := upd_same
  have hq1 := n9 _ _ (T28 _ _ hq1)
  have hq2 := n9 _ _ (T48 _ _ hq2)
  have g5 := n9 _ _ (S58 _ _ g5)
  have hq4 := n9 _ _ hq4
  have g1 := n9 _ _ (T28 _ _ g1)
  have g3 := n9 _ _ (T48 _ _ g3)
  generalize upd H8 pf (.lst [V.ref q1, V.ref q2, V.ref a5, V.ref q4]) = H9 at n9 k9 hq1 hq2 g5 hq4 g1 g3
  have S9 := S8.trans n9
  have hL9 := hL8.same n9
  have hl9 := S9 _ _ hl
  have R9 : Nr H H9 pf [(q1, (r0 :: rest) ++ [(a1, r0.2.1, 1)]), (q2, (r0 :: rest) ++ [(a3, r0.2.1 + 2, 0)]), (a5, []), (q4, [r0, r0])] p 4 := by
   have hrl : (r0 :: rest).length <= 3 := hshort
   refine ⟨S9, k9, fun r hr => ?_, by simp⟩
   simp only [List.mem_cons, List.not_mem_nil, or_false] at hr
   rcases hr with rfl | rfl | rfl | rfl
   ·exact ⟨hq1, hL9.snoc g1, by rw [List.length_append]; show _ + 1 <= 5; omega, bad_dup⟩
   ·exact ⟨hq2, hL9.snoc g3, by rw [List.length_append]; show _ + 1 <= 5; omega, bad_zero⟩
   ·exact ⟨g5, (fun r hr => nomatch hr), Nat.zero_le _, bad_nil hp1⟩
   ·exact ⟨hq4, (fun r hr => by simp only [List.mem_cons, List.not_mem_nil, or_false, or_self] at hr; rw [hr]; exact hL9 r0 (.head _)), by simp, bad_two⟩
  clear hq1 hq2 g5 hq4 g1 g3 k9 N1 N2 N3 N4 N5 s2 s4 s6 s7 s8 hb1 hb2 T28 T48 S58 n9 S8 hL8 S2 S4 S5
  try dsimp only
  rw [ap_seq, ap_for]
  walk_at "rdi"
  have z2 : 2 <= sizeLine := by rw [sizeLine_eq]; decide
  refine ⟨z2, fun c1 hc1 => ⟨z2, fun c2 hc2 => ⟨z2, fun c3 hc3 => ⟨⟨by decide, by decide, by decide⟩, z2, fun c4 hc4 => ⟨by rw [sizeLine_eq]; decide, fun pl hpl => ?_⟩⟩⟩⟩⟩
  have m1 := Same.new (o := .tup [V.int r0.2.1, V.int (r0.2.2 + 1)]) hc1
  have w1 : (upd H9 c1 (.tup [V.int r0.2.1, V.int (r0.2.2 + 1)])) c1 = some (.tup [V.int r0.2.1, V.int (r0.2.2 + 1)]) := upd_same
  generalize upd H9 c1 (.tup [V.int r0.2.1, V.int (r0.2.2 + 1)]) = I1 at m1 w1 hc2 hc3 hc4 hpl
  have m2 := Same.new (o := .tup [V.int r0.2.1, V.int (r0.2.2 - 1)]) hc2
  have w2 : (upd I1 c2 (.tup [V.int r0.2.1, V.int (r0.2.2 - 1)])) c2 = some (.tup [V.int r0.2.1, V.int (r0.2.2 - 1)]) := upd_same
  generalize upd I1 c2 (.tup [V.int r0.2.1, V.int (r0.2.2 - 1)]) = I2 at m2 w2 hc3 hc4 hpl
  have m3 := Same.new (o := .tup [V.int (0 - far), V.int r0.2.2]) hc3
  have w3 : (upd I2 c3 (.tup [V.int (0 - far), V.int r0.2.2])) c3 = some (.tup [V.int (0 - far), V.int r0.2.2]) := upd_same
  generalize upd I2 c3 (.tup [V.int (0 - far), V.int r0.2.2]) = I3 at m3 w3 hc4 hpl
  have m4 := Same.new (o := .tup [V.int (10 ^ Int.toNat 6 + far), V.int r0.2.2]) hc4
  have w4 : (upd I3 c4 (.tup [V.int (10 ^ Int.toNat 6 + far), V.int r0.2.2])) c4 = some (.tup [V.int (1000000 + far), V.int r0.2.2]) := upd_same
  generalize upd I3 c4 (.tup [V.int (10 ^ Int.toNat 6 + far), V.int r0.2.2]) = I4 at m4 w4 hpl
  have m5 := Same.new (o := .lst [V.ref c1, V.ref c2, V.ref c3, V.ref c4]) hpl
  have w5 : (upd I4 pl (.lst [V.ref c1, V.ref c2, V.ref c3, V.ref c4])) pl = some (.lst [V.ref c1, V.ref c2, V.ref c3, V.ref c4]) := upd_same
  have hplf : pl ≠ pf := fun z => by rw [z, m4 _ _ (m3 _ _ (m2 _ _ (m1 _ _ R9.f)))] at hpl; cases hpl
  generalize upd I4 pl (.lst [V.ref c1, V.ref c2, V.ref c3, V.ref c4]) = I5 at m5 w5
  have M5 := m1.trans (m2.trans (m3.trans (m4.trans m5)))
  have R5 := R9.same M5
  have hl5 := M5 _ _ hl9
  have hL5 := hL9.same M5
  have hf5 := R5.f
  have nf : ∀ {b : Addr} {xs : List V}, I5 b = some (.tup xs) -> b ≠ pf := fun hb z => by rw [z, hf5] at hb; cases hb
  have prs : ∀ y ∈ [V.ref c1, V.ref c2, V.ref c3, V.ref c4], ∃ c i j, y = .ref c /\ I5 c = some (.tup [.int i, .int j]) /\ ¬ GoodN ((c, i, j) :: rest) p := by
   intro y hy
   simp only [List.mem_cons, List.not_mem_nil, or_false] at hy
   rcases hy with rfl | rfl | rfl | rfl
   ·exact ⟨c1, _, _, rfl, (m2.trans (m3.trans (m4.trans m5))) _ _ w1, bad_sum hG (by omega)⟩
   ·exact ⟨c2, _, _, rfl, (m3.trans (m4.trans m5)) _ _ w2, bad_sum hG (by omega)⟩
   ·exact ⟨c3, _, _, rfl, (m4.trans m5) _ _ w3, bad_num (by omega)⟩
   ·exact ⟨c4, _, _, rfl, m5 _ _ w4, bad_num (by omega)⟩
  clear w1 w2 w3 w4 m1 m2 m3 m4 m5 R9 hL9 hl9
  refine ⟨⟨_, SqL.of w5⟩, ?_⟩
  refine ForP.list (K := K) (a := pl) (xs := [V.ref c1, V.ref c2, V.ref c3, V.ref c4]) (fun j σ H' => (∃ v6, σ = [some (.ref t), some (.int far), some (.ref l), some (.int r0.2.1), some (.int r0.2.2), some (.ref pf), v6]) /\ (∃ nl, Nr H H' pf nl p (4 + j)) /\ But' pf I5 H')
   ⟨⟨_, rfl⟩, ⟨_, R5⟩, fun b u _ h => h⟩ (fun j σ H' _ ⟨_, _, hb⟩ => SqL.of (hb _ _ hplf w5)) ?_ ?_
  ·rintro j y σ J hy ⟨⟨v6, rfl⟩, ⟨nl, RJ⟩, hbJ⟩
   have hjl : j < 4 := (List.getElem?_eq_some_iff.mp hy).1
   obtain ⟨c, i1, j1, rfl, hc, hbad⟩ := prs y (List.mem_of_getElem? hy)
   have hcJ := hbJ _ _ (nf hc) hc
   have hlJ := hbJ _ _ (nf hl5) hl5
   have hLJ : Lots J rest := fun r hr => hbJ _ _ (nf (hL5 r (.tail _ hr))) (hL5 r (.tail _ hr))
   walk_at "rdi"
   have hrl5 : (refs rest).length <= 4 := by rw [refs_len]; have := hshort; rw [List.length_cons] at this; omega
   refine ⟨.inl ⟨rfl, _, SqL.of RJ.f⟩, by rw [sizeLine_eq]; decide, fun a ha => sl_rest (Same.new ha _ _ hlJ) fun b J2 s2 hb => cat_t (s2 _ _ upd_same) hb nc (by rw [List.length_singleton]; omega) fun q J3 s3 hq => ?_⟩
   have sJ := (Same.new (o := .tup [V.ref c]) ha).trans (s2.trans s3)
   have hq : J3 q = some (.tup (refs ((c, i1, j1) :: rest))) := hq
   have hLq : Lots J3 ((c, i1, j1) :: rest) := fun r hr => by
    rcases List.mem_cons.mp hr with rfl | hr
    ·exact sJ _ _ hcJ
    ·exact sJ _ _ (hLJ r hr)
   have hln : (refsN nl).length = nl.length := List.length_map _
   have hnl := RJ.l
   exact ⟨_, sJ _ _ RJ.f, by rw [hln, sizeLine_eq]; omega, ⟨_, (RJ.same sJ).put hpf0 hq hLq (by rw [List.length_cons]; rw [refs_len] at hrl5; omega) hbad⟩, (hbJ.same sJ).put⟩
  ·rintro σ J ⟨⟨v6, rfl⟩, ⟨nl, RJ⟩, hbJ⟩
   have htJ := hbJ _ _ (nf ((S9.trans M5) _ _ ht)) ((S9.trans M5) _ _ ht)
   walk_at "rdi"
   have hnl := RJ.l
   have hln : (refsN nl).length = nl.length := List.length_map _
   have hnl8 : nl.length <= 8 := hnl
   obtain ⟨v1, v2⟩ := l_ne hrs (.ref l)
   refine ⟨⟨_, SqL.of RJ.f⟩, ?_⟩
   refine CompP.listE (K := K) (fun σ => ∃ a, σ = [a, some (.ref t)]) (fun i v H' => ∃ b r, nl[i]? = some r /\ v = .ref b /\ TupE H' b (e.setL r.2)) (SqL.of RJ.f) ⟨_, rfl⟩ (by rw [hln, sizeLine_eq]; omega) ?_ ?_
   ·rintro Da i x hx σ J1 R ⟨_, rfl⟩ sm hD ⟨acc, hA⟩ kk
    obtain ⟨r, hr', rfl⟩ : ∃ r, nl[i]? = some r /\ x = .ref r.1 := by
     unfold refsN at hx
     rw [List.getElem?_map] at hx
     cases h : nl[i]? with
     | none => rw [h] at hx; cases hx
     | some r => rw [h] at hx; exact ⟨r, rfl, (Option.some.inj hx).symm⟩
    obtain ⟨y1, y2, y3, y4⟩ := RJ.b r (List.mem_of_getElem? hr')
    have tl20 := td_len e (.ref l)
    have tlc := cutV_length (tdE e (.ref l)) Option.none (some (-1))
    walk_at "rdi"
    refine ⟨_, SqT.of (sm _ _ htJ), v1, fun p1 h1 => ⟨by rw [sizeLine_eq]; decide, fun p2 h2 => ?_⟩⟩
    refine cat_t (Same.new h2 _ _ upd_same) upd_same v2 (by rw [List.length_singleton]; show (cutV (tdE e (.ref l)) Option.none (some (-1))).length + 1 <= 1000; omega) fun q J2 s2 hq => ?_
    have s12 := (Same.new (o := .tup (cutV (tdE e (.ref l)) Option.none (some (-1)))) h1).trans ((Same.new (o := .tup [V.ref r.1]) h2).trans s2)
    have hq : J2 q = some (.tup (cutV (tdE e (.ref l)) Option.none (some (-1)) ++ [V.ref r.1])) := hq
    rw [setL_td hrs, (setL_is (rs := r.2) hrs _).1] at hq
    have hT : TupE J2 q (e.setL r.2) := ⟨.ref r.1, hq, by rw [(setL_is (rs := r.2) hrs .non).2]; exact ⟨r.1, rfl, s12 _ _ (sm _ _ y1), (y2.same sm).same s12⟩⟩
    exact kk (.ref q) _ J2 ⟨_, rfl⟩ s12 fun H' hb => ⟨q, r, hr', rfl, tupE_but' hT (s12 _ _ hA) hb⟩
   ·intro Da H' acc hD sm hA hlen hF
    rw [hln] at hlen
    obtain ⟨es, e1, e2, e3⟩ := el_ofN (F := TupE H') (fun rs => e.setL rs) hlen hF
    rw [e1] at hA
    refine k Da es H' (RJ.s.trans sm) (RJ.s.free hD) hA (fun r hr => ?_) (by omega)
    obtain ⟨h1, q, h2, h3⟩ := e3 r hr
    obtain ⟨y1, y2, y3, y4⟩ := RJ.b q h2
    rw [h3] at h1 ⊢
    exact ⟨h1, setL_sz hrs hg y3, setL_bad hrs hg hG y4⟩
end
end My
namespace My
open PySem L2 PyProof.Rows
section
variable {P : Program} {w : World} {K : Fg_} {mg : Str -> Option Value} {base : Heap} {A : Adr} {D : Fds}
noncomputable def sig__law_bad (T : Txt K mg A D) (cdv : Value) (A' : Around) (outer : List Env) (s0 : Shared) (H : Hp) (E : XK) (hr : Room 1 (A'.deeper (envOfC "_law_bad" (defScope s__law_bad) s0.heap.objs.size A._law_bad cdv))) :
  { t : TS // PSs (cxOf CX0 P w K mg base ["_law_told", "_law_far", "_law_found", "_law_ranges_here", "_law_at", "_law_low", "_law_high", "_law_number", "_law_name"] "_law_bad" (defScope s__law_bad) A._law_bad cdv A' outer s0 H E).nox (defBody s__law_bad) t } :=
 ⟨_, (pss_cons (ps_set (i := 2) sc__law_bad.nd rfl (Or.inl rfl) (pe_lst pa_nil))
   (pss_cons (ps_set (i := 3) sc__law_bad.nd rfl (Or.inl rfl) (pe_call (ok__law_ranges (K := K) T) (hr.mono (by decide)) (by rfl) T.m__law_ranges T.k__law_ranges (b__law_ranges T) .nil pass0 (pa_cons (pv 0) pa_nil)))
   (pss_cons (ps_for PassesOwn.never rfl (pi_listK (K := K) (pe_callB (call_sortDI rfl) (by rfl) T.b_sorted (by decide +kernel) (pa_cons (pv 3) pa_nil))) (pg_name (i := 4) sc__law_bad.nd rfl (Or.inl rfl))
    (pss_cons (ps_asg (pe_dget (hu_of hr) (pv 3) (pv 4) (fun _ _ => rfl)) (pg_tupK (K := K) (n := 2) rfl (pgs_cons (pg_name (i := 5) sc__law_bad.nd rfl (Or.inl rfl)) (pgs_cons (pg_name (i := 6) sc__law_bad.nd rfl (Or.inl rfl)) pgs_nil))))
    (pss_one (ps_for PassesOwn.never rfl (pi_listK (K := K) (pe_lst (pa_cons (pe_op op_sub (pv 5) pe_int) (pa_cons (pe_op op_sub (pv 5) (pv 1)) (pa_cons (pe_op op_add (pv 6) pe_int) (pa_cons (pe_op op_add (pv 6) (pv 1)) pa_nil)))))) (pg_name (i := 7) sc__law_bad.nd rfl (Or.inl rfl))
     (pss_one (ps_expr (pe_bmK (K := K) PySem.F.plainAttrs_list PySem.F.slot_list_append PySem.F.type_list_append mt_append (pv 2) (pa_cons (pe_op (op_catTK (K := K)) (pe_op (op_catTK (K := K)) (pe_slice (sl_tupK (K := K)) (pv 0) po_none (po_some (pv 4))) (pe_tup (pa_cons (pv 7) pa_nil))) (pe_slice (sl_tupK (K := K)) (pv 0) (po_some (pe_op op_add (pv 4) pe_int)) po_none)) pa_nil))))))))
   (pss_cons (ps_for PassesOwn.never rfl (pi_listK (K := K) (pe_lst (pa_cons pe_str (pa_cons pe_str (pa_cons pe_str (pa_cons pe_str (pa_cons pe_str (pa_cons pe_str (pa_cons pe_str pa_nil))))))))) (pg_name (i := 8) sc__law_bad.nd rfl (Or.inl rfl))
    (pss_cons (ps_expr (pe_bmK (K := K) PySem.F.plainAttrs_list PySem.F.slot_list_append PySem.F.type_list_append mt_append (pv 2) (pa_cons (pe_op (op_catTK (K := K)) (pe_op (op_catTK (K := K)) (pe_slice (sl_tupK (K := K)) (pv 0) po_none (po_some pe_int)) (pe_tup (pa_cons (pv 8) pa_nil))) (pe_slice (sl_tupK (K := K)) (pv 0) (po_some pe_int) po_none)) pa_nil)))
    (pss_one (ps_if (pt_cmpR (op_eq) (pe_ix (ix_tupK (K := K)) (pv 0) pe_int (fun _ _ => rfl)) pe_str (nomark _)) (pss_one (ps_expr (pe_bmK (K := K) PySem.F.plainAttrs_list PySem.F.slot_list_append PySem.F.type_list_append mt_append (pv 2) (pa_cons (pe_op (op_catTK (K := K)) (pe_op (op_catTK (K := K)) (pe_slice (sl_tupK (K := K)) (pv 0) po_none (po_some pe_int)) (pe_tup (pa_cons (pv 8) pa_nil))) (pe_slice (sl_tupK (K := K)) (pv 0) (po_some pe_int) po_none)) pa_nil)))) pss_nil))))
   (pss_cons (ps_if (pt_cmpR (op_eq) (pe_ix (ix_tupK (K := K)) (pv 0) pe_int (fun _ _ => rfl)) pe_str (nomark _)) (pss_one (ps_expr (pe_bmK (K := K) PySem.F.plainAttrs_list PySem.F.slot_list_append PySem.F.type_list_append mt_append (pv 2) (pa_cons (pe_op (op_catTK (K := K)) (pe_op (op_catTK (K := K)) (pe_slice (sl_tupK (K := K)) (pv 0) po_none (po_some pe_int)) (pe_tup (pa_cons pe_str pa_nil))) (pe_slice (sl_tupK (K := K)) (pv 0) (po_some pe_int) po_none)) pa_nil)))) pss_nil)
   (pss_cons (ps_if (pt_cmpR (op_inK (K := K)) (pe_ix (ix_tupK (K := K)) (pv 0) pe_int (fun _ _ => rfl)) (pe_tup (pa_cons pe_str (pa_cons pe_str pa_nil))) (by with_unfolding_all rfl)) (pss_one (ps_set (i := 2) sc__law_bad.nd rfl (Or.inl rfl) (pe_op op_cat (pv 2) (pe_call (ok__law_bad_names (K := K) T) (hr.mono (by decide)) (by rfl) T.m__law_bad_names T.k__law_bad_names (b__law_bad_names T) .nil pass0 (pa_cons (pv 0) (pa_cons (pv 1) pa_nil)))))) pss_nil)
   (pss_one (ps_ret (pv 2)))))))))⟩
end
end My
namespace My
open PySem L2 PyProof.Rows
section
variable {P : Program} {w : World} {K : Fg_} {mg : Str -> Option Value} {base : Heap} {A : Adr} {D : Fds}
local macro_rules | `(tactic| walk_at "nx") => `(tactic| ((try dsimp only); rw [ap_seq]; walk_at "rdi"))
structure Fd (H H' : Hp) (pf : Addr) (bl : EL) (n : Nat) : Prop where
 s : Same H H'
 f : H' pf = some (.lst (refsE bl))
 b : ∀ r ∈ bl, TupE H' r.1 r.2 /\ r.2.sz /\ ¬ r.2.good
 l : bl.length <= n
theorem Fd.same {H H' H'' : Hp} {pf : Addr} {bl : EL} {n : Nat} (h : Fd H H' pf bl n) (s : Same H' H'') : Fd H H'' pf bl n := ⟨h.s.trans s, s _ _ h.f, fun r hr => ⟨(h.b r hr).1.same s, (h.b r hr).2⟩, h.l⟩
theorem tupE_put {H : Hp} {t l : Addr} {e : Ent} {xs : List V} {u : HO} (h : TupE H t e) (hl : H l = some (.lst xs)) : TupE (upd H l u) t e := by
 obtain ⟨nt, h1, h2⟩ := h
 refine ⟨nt, by rw [upd_ne (fun z => by rw [z, hl] at h1; cases h1)]; exact h1, ?_⟩
 revert h2
 cases e.lots with
 | none => exact fun h => h
 | some rs =>
  rintro ⟨q, rfl, h3, h4⟩
  refine ⟨q, rfl, by rw [upd_ne (fun z => by rw [z, hl] at h3; cases h3)]; exact h3, fun r hr => ?_⟩
  have h5 := h4 r hr
  rw [upd_ne (fun z => by rw [z, hl] at h5; cases h5)]
  exact h5
theorem Fd.put {H H' : Hp} {pf q : Addr} {bl : EL} {n : Nat} {e : Ent} (h : Fd H H' pf bl n) (hpf : H pf = Option.none) (hq : TupE H' q e) (hz : e.sz) (hb : ¬ e.good) : Fd H (upd H' pf (.lst (refsE bl ++ [.ref q]))) pf (bl ++ [(q, e)]) (n + 1) := by
 refine ⟨h.s.upd hpf, by rw [upd_same]; unfold refsE; rw [List.map_append]; rfl, fun r hr => ?_, by rw [List.length_append]; exact Nat.succ_le_succ h.l⟩
 rcases List.mem_append.mp hr with hr | hr
 ·exact ⟨tupE_put (h.b r hr).1 h.f, (h.b r hr).2⟩
 ·rw [List.mem_singleton.mp hr]
  exact ⟨tupE_put hq h.f, hz, hb⟩
theorem Fd.len {H H' : Hp} {pf : Addr} {bl : EL} {n : Nat} (h : Fd H H' pf bl n) (hn : n <= 1000) : (refsE bl).length < sizeLine := by
 unfold refsE
 rw [List.length_map, sizeLine_eq]
 have := h.l
 omega
theorem Fd.mono {H H' : Hp} {pf : Addr} {bl : EL} {n m : Nat} (h : Fd H H' pf bl n) (hm : n <= m) : Fd H H' pf bl m := ⟨h.s, h.f, h.b, Nat.le_trans h.l hm⟩
theorem app_row {H H6 : Hp} {pf t : Addr} {bl : EL} {N : Nat} {xs : List V} {a b : Int} {v : V} {S : List V -> V -> Hp -> Prop} (F : Fd H H6 pf bl N) (hN : N <= 1000) (ht : H6 t = some (.tup xs)) (hxl : xs.length <= 20)
  (h1 : ¬ (HT.sIx xs.length 0 Option.none = 0 /\ HT.sIx xs.length xs.length (some a) = xs.length)) (h2 : ¬ (HT.sIx xs.length 0 (some b) = 0 /\ HT.sIx xs.length xs.length Option.none = xs.length)) (hne : cutV xs Option.none (some a) ≠ [])
  (k : ∀ q H1, Same H6 H1 -> H1 q = some (.tup (cutV xs Option.none (some a) ++ [v] ++ cutV xs (some b) Option.none)) -> S (refsE bl) (.ref q) H1) :
  tyV K "list" (V.ref pf) H6 /\ ∃ x, SqT K H6 t x /\ ¬ (HT.sIx x.length 0 Option.none = 0 /\ HT.sIx x.length x.length (some a) = x.length) /\ ∀ p : Addr, H6 p = Option.none -> 1 <= sizeLine /\ ∀ p_1 : Addr, upd H6 p (HO.tup (cutV x Option.none (some a))) p_1 = Option.none ->
   rCatT K (V.ref p) (V.ref p_1) (upd (upd H6 p (HO.tup (cutV x Option.none (some a)))) p_1 (HO.tup [v])) fun x H1 => ∃ x_1, SqT K H1 t x_1 /\ ¬ (HT.sIx x_1.length 0 (some b) = 0 /\ HT.sIx x_1.length x_1.length Option.none = x_1.length) /\ ∀ p : Addr, H1 p = Option.none ->
    rCatT K x (V.ref p) (upd H1 p (HO.tup (cutV x_1 (some b) Option.none))) fun x H1 => ∃ xs, H1 pf = some (HO.lst xs) /\ xs.length < sizeLine /\ S xs x H1 := by
 have c1 := cutV_length xs Option.none (some a)
 have c2 := cutV_length xs (some b) Option.none
 refine ⟨.inl ⟨rfl, _, SqL.of F.f⟩, xs, SqT.of ht, h1, fun p hp => ⟨by rw [sizeLine_eq]; decide, fun p1 hp1 => ?_⟩⟩
 refine cat_t (Same.new hp1 _ _ upd_same) upd_same hne (by rw [List.length_singleton]; omega) fun q H1 s1 hq => ?_
 have S1 := (Same.new hp).trans ((Same.new hp1).trans s1)
 refine ⟨xs, SqT.of (S1 _ _ ht), h2, fun p2 hp2 => ?_⟩
 refine cat_t (Same.new hp2 _ _ hq) upd_same (fun z => hne (List.append_eq_nil_iff.mp z).1) (by rw [List.length_append, List.length_singleton]; omega) fun q2 H2 s2 hq2 => ?_
 have S2 := S1.trans ((Same.new hp2).trans s2)
 exact ⟨_, S2 _ _ F.f, F.len hN, k q2 H2 S2 hq2⟩
def sp__law_bad (K : Fg_) : Sp := fun vs H Q _ => ∃ (t : Addr) (e : Ent) (far : Int), vs = [.ref t, .int far] /\ TupE H t e /\ e.good /\ e.lk /\ 1 <= far /\
 ∀ p (bl : EL) H', Same H H' -> H' p = some (.lst (refsE bl)) -> (∀ r ∈ bl, TupE H' r.1 r.2 /\ r.2.sz /\ ¬ r.2.good) -> bl.length <= 200 -> Q (.ref p) H'
theorem ok__law_bad (T : Txt K mg A D) : FnOk P w K mg base CX0 2 A._law_bad D._law_bad ["_law_told", "_law_far"] (sp__law_bad K) := by
 refine T.F__law_bad.ok sc__law_bad (fun vs H Q E h => ?_) (fun cdv A' outer s0 H vs Q E hr h => ?_)
 ·obtain ⟨t, e, far, rfl, _⟩ := h; rfl
 ·obtain ⟨t, e, far, rfl, ⟨nt, ht, hnt⟩, hg, hlk, hfar, k⟩ := h
  refine ⟨(sig__law_bad (P := P) (w := w) (base := base) T cdv A' outer s0 H E hr).1, (sig__law_bad (P := P) (w := w) (base := base) T cdv A' outer s0 H E hr).2, ?_⟩
  unfold sig__law_bad
  simp only [start_eq]
  walk_at "nx"
  refine ⟨Nat.zero_le _, fun pf hpf => ?_⟩
  have F : Fd H (upd H pf (.lst [])) pf [] 0 := ⟨Same.new hpf, upd_same, (fun r hr => nomatch hr), Nat.le_refl _⟩
  generalize upd H pf (.lst []) = H1 at F
  walk_at "nx"
  refine ⟨t, e, rfl, ⟨nt, F.s _ _ ht, hnt.same F.s⟩, fun pd rr H2 s2 hpd hd hR hrk => ?_⟩
  replace F := F.same s2
  try dsimp only
  rw [ap_seq, ap_for]
  walk_at "rdi"
  have hrm : rr.map (·.2.1) = (rgE e).map (·.1) := by rw [<- hrk, List.map_map]; rfl
  have hrl : rr.length <= 5 := by have := rg_len60 e; have h := congrArg List.length hrk; rw [List.length_map] at h; omega
  refine ⟨rr.map fun r => (r.2.1, V.ref r.1), by rw [hd]; unfold dR; rw [List.map_map]; rfl, by rw [List.length_map]; omega, fun p ms hp hpm _ => ?_⟩
  rw [List.map_map] at hpm
  have hpm : ms.Perm (rr.map (·.2.1)) := hpm
  have hml : ms.length <= 5 := by have := hpm.length_eq; rw [List.length_map] at this; omega
  have hpf2 : p ≠ pf := fun z => by rw [z, F.f] at hp; cases hp
  have n3 := Same.new (o := .lst (ms.map V.int)) hp
  replace F := F.same n3
  have h3 : (upd H2 p (.lst (ms.map V.int))) p = some (.lst (ms.map V.int)) := upd_same
  have hd := n3 _ _ hd
  have hR := hR.same n3
  generalize upd H2 p (.lst (ms.map V.int)) = H3 at F h3 hd hR
  have ht3 : TupE H3 t e := ⟨nt, F.s _ _ ht, hnt.same F.s⟩
  have hf3 := F.f
  have nf : ∀ {b : Addr} {o : HO}, H3 b = some o -> (∀ xs, o ≠ .lst xs) -> b ≠ pf := fun hb hn z => by rw [z, hf3] at hb; exact hn _ (Option.some.inj hb).symm
  refine ⟨⟨_, SqL.of h3⟩, ?_⟩
  refine ForP.list (K := K) (a := p) (xs := ms.map V.int) (fun i σ H' => (∃ v4 v5 v6 v7, σ = [some (.ref t), some (.int far), some (.ref pf), some (.ref pd), v4, v5, v6, v7, Option.none]) /\ (∃ bl, Fd H H' pf bl (4 * i)) /\ But' pf H3 H')
   ⟨⟨_, _, _, _, rfl⟩, ⟨[], F⟩, fun b u _ h => h⟩ (fun i σ H' _ ⟨_, _, hb⟩ => SqL.of (hb _ _ hpf2 h3)) ?_ ?_
  ·rintro i y σ H4 hy ⟨⟨v4, v5, v6, v7, rfl⟩, ⟨bl, F4⟩, hb4⟩
   have hil : i < 5 := by have := (List.getElem?_eq_some_iff.mp hy).1; rw [List.length_map] at this; omega
   obtain ⟨m, hm, rfl⟩ : ∃ m, m ∈ ms /\ y = .int m := by
    obtain ⟨m, hm, e⟩ := List.mem_map.mp (List.mem_of_getElem? hy)
    exact ⟨m, hm, e.symm⟩
   obtain ⟨r, hr, hrm', hval⟩ := valR (hpm.mem_iff.mp hm)
   have hrg : r.2 ∈ rgE e := by rw [<- hrk]; exact List.mem_map.mpr ⟨r, hr, rfl⟩
   have hd4 := hb4 _ _ (nf hd (fun _ z => by cases z)) hd
   have hr4 := hb4 _ _ (nf (hR r hr) (fun _ z => by cases z)) (hR r hr)
   walk_at "rdi"
   walk_at "nx"
   rw [show (Sum.inl m : Key) = Sum.inl m from rfl] at hval
   have hget : DGet H4 pd (.int m) (some (.ref r.1)) := hval ▸ DGet.k (k := Sum.inl m) hd4
   refine ⟨_, hget, _, rfl, _, SqT.of hr4, rfl, _, _, rfl, _, _, rfl, rfl, ?_⟩
   try dsimp only
   rw [ap_for]
   walk_at "rdi"
   refine ⟨by rw [sizeLine_eq]; decide, fun pl hpl => ?_⟩
   have hplf : pl ≠ pf := fun z => by rw [z, F4.f] at hpl; cases hpl
   have n5 := Same.new (o := .lst [V.int (r.2.2.1 - 1), V.int (r.2.2.1 - far), V.int (r.2.2.2 + 1), V.int (r.2.2.2 + far)]) hpl
   have F5 := F4.same n5
   have hb5 := hb4.same n5
   have h5 : (upd H4 pl (.lst [V.int (r.2.2.1 - 1), V.int (r.2.2.1 - far), V.int (r.2.2.2 + 1), V.int (r.2.2.2 + far)])) pl = some (.lst [V.int (r.2.2.1 - 1), V.int (r.2.2.1 - far), V.int (r.2.2.2 + 1), V.int (r.2.2.2 + far)]) := upd_same
   generalize upd H4 pl (.lst [V.int (r.2.2.1 - 1), V.int (r.2.2.1 - far), V.int (r.2.2.2 + 1), V.int (r.2.2.2 + far)]) = H5 at F5 hb5 h5
   have ht5 := tupE_but' ht3 hf3 hb5
   refine ⟨⟨_, SqL.of h5⟩, ?_⟩
   refine ForP.list (K := K) (a := pl) (xs := [V.int (r.2.2.1 - 1), V.int (r.2.2.1 - far), V.int (r.2.2.2 + 1), V.int (r.2.2.2 + far)]) (fun j σ H' => (∃ v7, σ = [some (.ref t), some (.int far), some (.ref pf), some (.ref pd), some (.int m), some (.int r.2.2.1), some (.int r.2.2.2), v7, Option.none]) /\ (∃ bl, Fd H H' pf bl (4 * i + j)) /\ But' pf H5 H')
    ⟨⟨_, rfl⟩, ⟨bl, F5⟩, fun b u _ h => h⟩ (fun j σ H' _ ⟨_, _, hb⟩ => SqL.of (hb _ _ hplf h5)) ?_ ?_
   ·rintro j y σ H6 hy ⟨⟨v7, rfl⟩, ⟨bl6, F6⟩, hb6⟩
    have hjl : j < 4 := (List.getElem?_eq_some_iff.mp hy).1
    obtain ⟨n, rfl, hn⟩ : ∃ n, y = .int n /\ (n < r.2.2.1 \/ r.2.2.2 < n) := by
     have hym := List.mem_of_getElem? hy
     simp only [List.mem_cons, List.not_mem_nil, or_false] at hym
     rcases hym with rfl | rfl | rfl | rfl
     ·exact ⟨_, rfl, by omega⟩
     ·exact ⟨_, rfl, by omega⟩
     ·exact ⟨_, rfl, by omega⟩
     ·exact ⟨_, rfl, by omega⟩
    have ht6 := tupE_but' ht5 F5.f hb6
    walk_at "rdi"
    obtain ⟨nt6, ht6, hnt6⟩ := ht6
    have ht6 : H6 t = some (.tup (tdE e nt6)) := ht6
    obtain ⟨⟨w1, w2⟩, w3⟩ := set_ne e nt6 r.2 hrg
    have hm' : r.2.1 = m := hrm'
    rw [hm'] at w1 w2 w3
    have htd := set_td e nt6 n r.2 hrg
    have hsb := set_bad n r.2 hrg hn
    rw [hm'] at htd hsb
    refine app_row F6 (by omega) ht6 (td_len e nt6) w1 w2 w3 fun q H7 s7 hq => ?_
    rw [htd] at hq
    have hq7 : TupE H7 q (e.setI m n) := ⟨nt6, hq, by rw [set_lots]; exact hnt6.same s7⟩
    exact ⟨⟨_, (F6.same s7).put hpf hq7 (set_sz (good_sz hg)) hsb⟩, (hb6.same s7).put⟩
   ·rintro σ H6 ⟨⟨v7, rfl⟩, ⟨bl6, F6⟩, hb6⟩
    exact ⟨⟨_, _, _, _, rfl⟩, ⟨bl6, by rw [show 4 * (i + 1) = 4 * i + 4 from by omega]; exact F6⟩, hb5.trans hb6⟩
  ·rintro σ H4 ⟨⟨v4, v5, v6, v7, rfl⟩, ⟨bl, F4⟩, hb4⟩
   try dsimp only
   rw [ap_seq, ap_for]
   walk_at "rdi"
   rw [List.length_map] at F4
   refine ⟨by rw [sizeLine_eq]; decide, fun pn hpn => ?_⟩
   have hpnf : pn ≠ pf := fun z => by rw [z, F4.f] at hpn; cases hpn
   have n5 := Same.new (o := .lst (badN.map V.str)) hpn
   have F5 := (F4.same n5).mono (show 4 * ms.length <= 20 by omega)
   have hb5 := hb4.same n5
   have h5 : (upd H4 pn (.lst (badN.map V.str))) pn = some (.lst (badN.map V.str)) := upd_same
   show (∃ xs, SqL K (upd H4 pn (.lst (badN.map V.str))) pn xs) /\ ForP _ _ _ _ _ (upd H4 pn (.lst (badN.map V.str)))
   generalize upd H4 pn (.lst (badN.map V.str)) = H5 at F5 hb5 h5
   have ht5 := tupE_but' ht3 hf3 hb5
   refine ⟨⟨_, SqL.of h5⟩, ?_⟩
   refine ForP.list (K := K) (a := pn) (xs := badN.map V.str) (fun j σ H' => (∃ v4 v5 v6 v7 v8, σ = [some (.ref t), some (.int far), some (.ref pf), some (.ref pd), v4, v5, v6, v7, v8]) /\ (∃ bl, Fd H H' pf bl (20 + 2 * j)) /\ But' pf H5 H')
    ⟨⟨_, _, _, _, _, rfl⟩, ⟨bl, F5⟩, fun b u _ h => h⟩ (fun j σ H' _ ⟨_, _, hb⟩ => SqL.of (hb _ _ hpnf h5)) ?_ ?_
   ·rintro j y σ H6 hy ⟨⟨v4, v5, v6, v7, v8, rfl⟩, ⟨bl6, F6⟩, hb6⟩
    have hjl : j < 7 := by have := (List.getElem?_eq_some_iff.mp hy).1; rw [List.length_map] at this; exact this
    obtain ⟨z, hz, rfl⟩ := List.mem_map.mp (List.mem_of_getElem? hy)
    obtain ⟨hz1, hz2⟩ := badN_ok z hz
    obtain ⟨nt6, ht6, hnt6⟩ := tupE_but' ht5 F5.f hb6
    have ht6 : H6 t = some (.tup (tdE e nt6)) := ht6
    obtain ⟨⟨w1, w2⟩, w3⟩ := w_ne e nt6
    walk_at "rdi"
    walk_at "nx"
    refine app_row F6 (by omega) ht6 (td_len e nt6) w1 w2 w3 fun q H7 s7 hq => ?_
    rw [setW_td] at hq
    have hq7 : TupE H7 q (e.setW z) := ⟨nt6, hq, by rw [setW_lots]; exact hnt6.same s7⟩
    have F8 := (F6.same s7).put hpf hq7 (setW_sz (good_sz hg) hz2) (setW_bad hz1)
    have hb8 : But' pf H5 (upd H7 pf (.lst (refsE bl6 ++ [.ref q]))) := (hb6.same s7).put
    generalize upd H7 pf (.lst (refsE bl6 ++ [.ref q])) = H8 at F8 hb8
    obtain ⟨nt8, ht8, hnt8⟩ := tupE_but' ht5 F5.f hb8
    have ht8 : H8 t = some (.tup (tdE e nt8)) := ht8
    refine ⟨_, SqT.of ht8, V.str e.word, atI_nat (j := 0) rfl, rfl, ?_⟩
    by_cases hw : e.word = Str.ofString "part"
    ·rw [if_pos (by rw [hw])]
     obtain ⟨⟨u1, u2⟩, u3, u4⟩ := u_td hw nt8 z
     refine app_row F8 (by omega) ht8 (td_len e nt8) u1 u2 u3 fun q2 H9 s9 hq2 => ?_
     rw [u4] at hq2
     have hq9 : TupE H9 q2 (e.setU z) := ⟨nt8, hq2, by rw [setU_lots]; exact hnt8.same s9⟩
     exact ⟨⟨_, (F8.same s9).put hpf hq9 (setU_sz (good_sz hg) hz2) (setU_bad hw hlk (.inl hz1))⟩, (hb8.same s9).put⟩
    ·rw [if_neg (fun h => hw (V.str.inj h))]
     exact ⟨⟨_, F8.mono (by omega)⟩, hb8⟩
   ·rintro σ H6 ⟨⟨v4, v5, v6, v7, v8, rfl⟩, ⟨bl6, F6⟩, hb6⟩
    obtain ⟨nt6, ht6, hnt6⟩ := tupE_but' ht5 F5.f hb6
    have ht6 : H6 t = some (.tup (tdE e nt6)) := ht6
    try dsimp only
    refine seq_genL (fun σ' H' => (∃ v4 v5 v6 v7 v8, σ' = [some (.ref t), some (.int far), some (.ref pf), some (.ref pd), v4, v5, v6, v7, v8]) /\ (∃ bl, Fd H H' pf bl 40) /\ But' pf H5 H') ?_ fun N hN => ?_
    rotate_left
    ·walk_at "rdi"
     refine ⟨_, SqT.of ht6, V.str e.word, atI_nat (j := 0) rfl, rfl, ?_⟩
     by_cases hw : e.word = Str.ofString "part"
     ·rw [if_pos (by rw [hw])]
      obtain ⟨⟨u1, u2⟩, u3, u4⟩ := u_td hw nt6 (Str.ofString "cup")
      refine app_row F6 (by rw [List.length_map]; decide) ht6 (td_len e nt6) u1 u2 u3 fun q2 H9 s9 hq2 => ?_
      rw [u4] at hq2
      have hq9 : TupE H9 q2 (e.setU (Str.ofString "cup")) := ⟨nt6, hq2, by rw [setU_lots]; exact hnt6.same s9⟩
      exact hN _ _ ⟨⟨_, _, _, _, _, rfl⟩, ⟨_, ((F6.same s9).put hpf hq9 (setU_sz (good_sz hg) (by decide +kernel)) (setU_bad hw hlk (.inr rfl))).mono (by rw [List.length_map]; decide)⟩, (hb6.same s9).put⟩
     ·rw [if_neg (fun h => hw (V.str.inj h))]
      exact hN _ _ ⟨⟨_, _, _, _, _, rfl⟩, ⟨_, F6.mono (by rw [List.length_map]; decide)⟩, hb6⟩
    ·rintro σ7 H7 ⟨⟨v4, v5, v6, v7, v8, rfl⟩, ⟨bl7, F7⟩, hb7⟩
     have hT7 := tupE_but' ht5 F5.f hb7
     obtain ⟨nt7, ht7, hnt7⟩ := id hT7
     have ht7 : H7 t = some (.tup (tdE e nt7)) := ht7
     walk_at "nx"
     refine ⟨_, SqT.of ht7, V.str e.word, atI_nat (j := 0) rfl, by rw [sizeLine_eq]; decide, fun qa ha => ⟨_, .inr (SqT.of upd_same), rfl, rfl, ?_⟩⟩
     have n8 := Same.new (o := .tup [V.str (Str.ofString "sell"), V.str (Str.ofString "give")]) ha
     have F8 := F7.same n8
     have hT8 := hT7.same n8
     generalize upd H7 qa (.tup [V.str (Str.ofString "sell"), V.str (Str.ofString "give")]) = H8 at F8 hT8
     by_cases hin : inV (V.str e.word) [V.str (Str.ofString "sell"), V.str (Str.ofString "give")] = true
     ·rw [if_pos hin]
      refine ⟨t, e, far, rfl, hT8, hg, (nm_isin e hin hlk).1, (nm_isin e hin hlk).2, hfar, fun pb cl H9 s9 hpb h9 hc9 hl9 => ?_⟩
      have F9 := F8.same s9
      have hrl9 : (refsE bl7).length = bl7.length := List.length_map _
      have hrc9 : (refsE cl).length = cl.length := List.length_map _
      have hbl := F9.l
      refine ⟨pf, pb, _, _, rfl, rfl, F9.f, h9, by rw [sizeLine_eq, hrl9, hrc9]; omega, fun pz hpz => ?_⟩
      have nz := Same.new (o := .lst (refsE bl7 ++ refsE cl)) hpz
      refine k pz (bl7 ++ cl) _ (F9.s.trans nz) (by rw [upd_same]; unfold refsE; rw [List.map_append]) (fun r hr => ?_) (by rw [List.length_append]; omega)
      rcases List.mem_append.mp hr with hr | hr
      ·exact ⟨(F9.b r hr).1.same nz, (F9.b r hr).2⟩
      ·exact ⟨(hc9 r hr).1.same nz, (hc9 r hr).2⟩
     ·rw [if_neg hin]
      exact k pf bl7 H8 F8.s F8.f F8.b (by have := F8.l; omega)
end
end My
namespace My
open PySem L2 PyProof.Rows
section
variable {P : Program} {w : World} {K : Fg_} {mg : Str -> Option Value} {base : Heap} {A : Adr} {D : Fds}
def Ent.day : Ent -> Int
 | .buy d .. => d
 | .sell d .. => d
 | .gift d .. => d
 | .give d .. => d
 | .split d .. => d
 | .part d .. => d
def Ent.ware : Ent -> Str
 | .buy _ _ w .. => w
 | .sell _ _ w .. => w
 | .gift _ _ w .. => w
 | .give _ _ w .. => w
 | .split _ _ w .. => w
 | .part _ _ w .. => w
theorem look_told (e : Ent) (nv : V) : (e.fs nv).lookup (Str.ofString "told") = Option.none := by cases e <;> rfl
def tabT (A : Adr) : List (Addr × Sp) := [(A.C_Buy, spTold A is_buy), (A.C_Sell, spTold A is_sell), (A.C_Gift, spTold A is_gift), (A.C_Give, spTold A is_give), (A.C_Split, spTold A is_split), (A.C_Parting, spTold A is_part)]
theorem mem_T (A : Adr) (e : Ent) : ∃ isK, isK e = true /\ (e.cls A, spTold A isK) ∈ tabT A := by
 cases e with
 | buy => exact ⟨is_buy, rfl, .head _⟩
 | sell => exact ⟨is_sell, rfl, .tail _ (.head _)⟩
 | gift => exact ⟨is_gift, rfl, .tail _ (.tail _ (.head _))⟩
 | give => exact ⟨is_give, rfl, .tail _ (.tail _ (.tail _ (.head _)))⟩
 | split => exact ⟨is_split, rfl, .tail _ (.tail _ (.tail _ (.tail _ (.head _))))⟩
 | part => exact ⟨is_part, rfl, .tail _ (.tail _ (.tail _ (.tail _ (.tail _ (.head _)))))⟩
def pairD (r : Addr × Int × Int) : DV := .tup [.int r.2.1, .int r.2.2]
def ntD : Option Rs -> DV
 | Option.none => .non
 | some rs => .tup (rs.map pairD)
def Ent.argsD : Ent -> List DV
 | .buy d n w p r f => [.int d, .int n, .str w, .int p, .int r, .int f]
 | .sell d n w p r f o => [.int d, .int n, .str w, .int p, .int r, .int f, ntD o]
 | .gift d n w p c s => [.int d, .int n, .str w, .int p, .int c, .int s]
 | .give d n w p o => [.int d, .int n, .str w, .int p, ntD o]
 | .split d n w m f => [.int d, .int n, .str w, .int m, .int f]
 | .part d n w u s t => [.int d, .int n, .str w, .str u, .int s, .int t]
def Ent.dvT (e : Ent) : DV := .tup (.str e.word :: e.argsD)
theorem reps_lots {H : Hp} : ∀ {rs : Rs}, Lots H rs -> RepsD K H (refs rs) (rs.map pairD)
 | [], _ => .nil
 | r :: rs, h => .cons (.tup (SqT.of (h r (.head _))) (.cons (.int _) (.cons (.int _) .nil))) (reps_lots fun q hq => h q (.tail _ hq))
theorem rep_nt {H : Hp} {nt : V} {o : Option Rs} (h : NT H nt o) : RepD K H nt (ntD o) := by
 cases o with
 | none => cases h; exact .non
 | some rs => obtain ⟨l, rfl, h1, h2⟩ := h; exact .tup (SqT.of h1) (reps_lots h2)
theorem rep_told {H : Hp} {t : Addr} {e : Ent} (h : TupE H t e) : RepD K H (.ref t) e.dvT := by
 obtain ⟨nt, h1, h2⟩ := h
 refine .tup (SqT.of h1) (.cons (.str _) ?_)
 cases e with
 | buy => exact .cons (.int _) (.cons (.int _) (.cons (.str _) (.cons (.int _) (.cons (.int _) (.cons (.int _) (.nil))))))
 | sell => exact .cons (.int _) (.cons (.int _) (.cons (.str _) (.cons (.int _) (.cons (.int _) (.cons (.int _) (.cons (rep_nt h2) (.nil)))))))
 | gift => exact .cons (.int _) (.cons (.int _) (.cons (.str _) (.cons (.int _) (.cons (.int _) (.cons (.int _) (.nil))))))
 | give => exact .cons (.int _) (.cons (.int _) (.cons (.str _) (.cons (.int _) (.cons (rep_nt h2) (.nil)))))
 | split => exact .cons (.int _) (.cons (.int _) (.cons (.str _) (.cons (.int _) (.cons (.int _) (.nil)))))
 | part => exact .cons (.int _) (.cons (.int _) (.cons (.str _) (.cons (.str _) (.cons (.int _) (.cons (.int _) (.nil))))))
theorem deps_pairs : ∀ rs : Rs, depDs (rs.map pairD) <= 1
 | [] => by decide
 | r :: rs => by
  rw [List.map_cons]
  unfold depDs
  exact Nat.max_le.mpr ⟨by simp [pairD, depD, depDs], deps_pairs rs⟩
theorem dep_nt (o : Option Rs) : depD (ntD o) <= 2 := by
 cases o with
 | none => decide
 | some rs => show depDs (rs.map pairD) + 1 <= 2; have := deps_pairs rs; omega
theorem dep_told (e : Ent) : 1 <= depD e.dvT /\ depD e.dvT <= 20 := by
 refine ⟨Nat.succ_le_succ (Nat.zero_le _), ?_⟩
 cases e with
 | sell d n w p r f o =>
  have := dep_nt o
  simp only [Ent.dvT, Ent.argsD, depD, depDs]
  omega
 | give d n w p o =>
  have := dep_nt o
  simp only [Ent.dvT, Ent.argsD, depD, depDs]
  omega
 | _ => simp only [Ent.dvT, Ent.argsD, depD, depDs]; decide
theorem rNeD_told {H : Hp} {Q : VK} {p q : Addr} {e : Ent} (h1 : TupE H p e) (h2 : TupE H q e) (k : Q (.bl false) H) : rNeD K (.ref p) (.ref q) H Q :=
 ⟨e.dvT, e.dvT, rep_told h1, rep_told h2, (dep_told e).1, (dep_told e).2, by rw [deqD_refl]; exact k⟩
end
end My
namespace My
open PySem L2 PyProof.Rows
section
variable {P : Program} {w : World} {K : Fg_} {mg : Str -> Option Value} {base : Heap} {A : Adr} {D : Fds}
local macro_rules | `(tactic| walk_at "nx") => `(tactic| ((try dsimp only); rw [ap_seq]; walk_at "rdi"))
def sp_law (K : Fg_) : Sp := fun vs H Q _ => ∃ (a : Addr) (ns : List Int), vs = [.ref a] /\ SqL K H a (ns.map V.int) /\ ns.length <= 63 /\ ∀ H', Q (.bl true) H'
theorem refsE_at {rs : EL} {i : Nat} {y : V} (h : (refsE rs)[i]? = some y) : ∃ r, rs[i]? = some r /\ y = .ref r.1 := by
 unfold refsE at h
 rw [List.getElem?_map] at h
 cases e : rs[i]? with
 | none => rw [e] at h; cases h
 | some r => rw [e] at h; exact ⟨r, rfl, (Option.some.inj h).symm⟩
theorem ok_law (T : Txt K mg A D) : FnOk P w K mg base CX0 8 A.law D.law ["_law_script"] (sp_law K) := by
 refine T.F_law.ok sc_law (fun vs H Q E h => ?_) (fun cdv A' outer s0 H vs Q E hr h => ?_)
 ·obtain ⟨a, ns, rfl, _⟩ := h; rfl
 ·obtain ⟨a, ns, rfl, hS, hl, k⟩ := h
  refine ⟨_, (pss_cons (ps_set (i := 1) sc_law.nd rfl (Or.inl rfl) (pe_op op_add pe_int (pe_op op_mod (pe_call (ok__law_cell_at (K := K) T) (hr.mono (by decide)) (by rfl) T.m__law_cell_at T.k__law_cell_at (b__law_cell_at T) .nil pass0 (pa_cons (pv 0) (pa_cons pe_int pa_nil))) (pe_op op_pow pe_int pe_int))))
   (pss_cons (ps_for PassesOwn.never rfl (pi_listK (K := K) (pe_call (ok__law_good (K := K) T) (hr.mono (by decide)) (by rfl) T.m__law_good T.k__law_good (b__law_good T) .nil pass0 (pa_cons (pv 0) pa_nil))) (pg_name (i := 2) sc_law.nd rfl (Or.inl rfl))
    (pss_cons (ps_if (pt_cmpR (op_neDK (K := K) hr) (pe_methD0 (pe_call (ok__law_made (K := K) T) (hr.mono (by decide)) (by rfl) T.m__law_made T.k__law_made (b__law_made T) .nil pass1 (pa_cons (pv 2) pa_nil)) (.cons T.cl_Buy T.me_Buy_told (ok_Buy_told (K := K) T) (hr.mono (by decide)) (b_Buy_told T) (.cons T.cl_Sell T.me_Sell_told (ok_Sell_told (K := K) T) (hr.mono (by decide)) (b_Sell_told T) (.cons T.cl_Gift T.me_Gift_told (ok_Gift_told (K := K) T) (hr.mono (by decide)) (b_Gift_told T) (.cons T.cl_Give T.me_Give_told (ok_Give_told (K := K) T) (hr.mono (by decide)) (b_Give_told T) (.cons T.cl_Split T.me_Split_told (ok_Split_told (K := K) T) (hr.mono (by decide)) (b_Split_told T) (.cons T.cl_Parting T.me_Parting_told (ok_Parting_told (K := K) T) (hr.mono (by decide)) (b_Parting_told T) .nil)))))) pass0) (pv 2) (nomark _)) (pss_one (ps_ret pe_bl)) pss_nil)
    (pss_one (ps_for PassesOwn.never rfl (pi_listK (K := K) (pe_call (ok__law_bad (K := K) T) (hr.mono (by decide)) (by rfl) T.m__law_bad T.k__law_bad (b__law_bad T) .nil pass0 (pa_cons (pv 2) (pa_cons (pv 1) pa_nil)))) (pg_name (i := 3) sc_law.nd rfl (Or.inl rfl))
     (pss_one (ps_if (pt_not (pt_val (pe_call (ok__law_refused (K := K) T) (hr.mono (by decide)) (by rfl) T.m__law_refused T.k__law_refused (b__law_refused T) .nil pass0 (pa_cons (pv 3) pa_nil)))) (pss_one (ps_ret pe_bl)) pss_nil))))))
   (pss_one (ps_ret pe_bl)))), ?_⟩
  simp only [start_eq]
  walk_at "nx"
  refine ⟨a, ns, 2, rfl, hS, ⟨by decide, by decide, by decide⟩, _, rfl, by decide, ?_⟩
  obtain ⟨far, hfar, hf1⟩ : ∃ far : Int, far = 1 + ns.getD 2 0 % 10 ^ Int.toNat 30 /\ 1 <= far := ⟨_, rfl, by have := Int.emod_nonneg (ns.getD 2 0) (show (10 : Int) ^ Int.toNat 30 ≠ 0 by decide); omega⟩
  rw [<- hfar]
  try dsimp only
  rw [ap_seq, ap_for]
  walk_at "rdi"
  refine ⟨a, ns, rfl, hS, hl, fun p tl H1 s1 hp h1 hT1 htl => ⟨p, rfl, ⟨_, SqL.of h1⟩, ?_⟩⟩
  refine ForP.list (K := K) (a := p) (xs := refsE tl) (fun i σ H' => (∃ v2 v3, σ = [some (.ref a), some (.int far), v2, v3]) /\ Same H1 H')
   ⟨⟨_, _, rfl⟩, Same.refl _⟩ (fun i σ H' _ ⟨_, s⟩ => SqL.of (s _ _ h1)) ?_ ?_
  ·rintro i y σ H2 hy ⟨⟨v2, v3, rfl⟩, s2⟩
   obtain ⟨r, hr', rfl⟩ := refsE_at hy
   obtain ⟨hT, hg, hlk⟩ := hT1 r (List.mem_of_getElem? hr')
   have hT := hT.same s2
   walk_at "rdi"
   walk_at "nx"
   refine ⟨r.1, r.2, rfl, hT, good_sz hg, fun _ x B H3 sB hM => ?_, fun b => (b hg).elim⟩
   obtain ⟨dx, nv, hx, hn⟩ := hM.isE
   obtain ⟨isK, hk, hm⟩ := mem_T A r.2
   have s3 : Same H2 H3 := by obtain ⟨_, _, hN, _⟩ := hM; exact sB.trans hN.s
   refine ⟨x, rfl, _, dx, _, hx, _, hm, look_told r.2 nv, x, r.2, hk, rfl, hM.isE, fun t' nt' H4 s4 ht' h4 hn4 => ?_⟩
   have s24 := s3.trans s4
   have hT4 := hT.same s24
   refine rNeD_told (e := r.2) ⟨nt', h4, hn4⟩ hT4 ⟨_, rfl, ?_⟩
   rw [if_neg (fun z => nomatch z)]
   try dsimp only
   rw [ap_for]
   walk_at "rdi"
   refine ⟨r.1, r.2, far, rfl, hT4, hg, hlk, hf1, fun pb bl H5 s5 h5 hb5 hbl => ⟨pb, rfl, ⟨_, SqL.of h5⟩, ?_⟩⟩
   refine ForP.list (K := K) (a := pb) (xs := refsE bl) (fun i σ H' => (∃ v3, σ = [some (.ref a), some (.int far), some (.ref r.1), v3]) /\ Same H5 H')
    ⟨⟨_, rfl⟩, Same.refl _⟩ (fun i σ H' _ ⟨_, s⟩ => SqL.of (s _ _ h5)) ?_ ?_
   ·rintro j y σ H6 hy ⟨⟨v3, rfl⟩, s6⟩
    obtain ⟨q, hq', rfl⟩ := refsE_at hy
    obtain ⟨b1, b2, b3⟩ := hb5 q (List.mem_of_getElem? hq')
    walk_at "rdi"
    refine ⟨q.1, q.2, rfl, b1.same s6, b2, b3, fun H7 s7 => ⟨_, rfl, ?_⟩⟩
    rw [if_neg (fun z => nomatch z)]
    exact s6.trans s7
   ·rintro σ H6 ⟨⟨v3, rfl⟩, s6⟩
    exact ⟨⟨_, _, rfl⟩, s2.trans (s24.trans (s5.trans s6))⟩
  ·rintro σ H2 ⟨⟨v2, v3, rfl⟩, s2⟩
   walk_at "rdi"
   exact k _
end
end My
namespace My
open PySem L2 PyProof.Rows
theorem all_mk {l : PySem.W.OpenLaw} {w : World} {K : Fg_} {h : Heap} {mg : Str -> Option Value} {fa : Addr} (X : K.In h) (G : h.Ns mainGlobals mg) (hfa : mg "law" = some (.ref fa))
  {c0 : Addr}
  (u_Buy : PySem.W.nsIn K mainGlobals "Buy" = some (some (.ref c0)))
  {c1 : Addr}
  (u_Sell : PySem.W.nsIn K mainGlobals "Sell" = some (some (.ref c1)))
  {c2 : Addr}
  (u_Gift : PySem.W.nsIn K mainGlobals "Gift" = some (some (.ref c2)))
  {c3 : Addr}
  (u_Give : PySem.W.nsIn K mainGlobals "Give" = some (some (.ref c3)))
  {c4 : Addr}
  (u_Split : PySem.W.nsIn K mainGlobals "Split" = some (some (.ref c4)))
  {c5 : Addr}
  (u_Parting : PySem.W.nsIn K mainGlobals "Parting" = some (some (.ref c5)))
  {c6 : Addr}
  (u_NoEntry : PySem.W.nsIn K mainGlobals "NoEntry" = some (some (.ref c6)))
  {c7 : Addr}
  (u_Entry : PySem.W.nsIn K mainGlobals "Entry" = some (some (.ref c7)))
  {c8 : Addr}
  (u_Late : PySem.W.nsIn K mainGlobals "Late" = some (some (.ref c8)))
  {c9 : Addr}
  (u_NoLot : PySem.W.nsIn K mainGlobals "NoLot" = some (some (.ref c9)))
  {c10 : Addr}
  (u_NoNumber : PySem.W.nsIn K mainGlobals "NoNumber" = some (some (.ref c10)))
  {c11 : Addr}
  (u_NoPieces : PySem.W.nsIn K mainGlobals "NoPieces" = some (some (.ref c11)))
  {c12 : Addr}
  (u_NotHeld : PySem.W.nsIn K mainGlobals "NotHeld" = some (some (.ref c12)))
  {c13 : Addr}
  (u_NoText : PySem.W.nsIn K mainGlobals "NoText" = some (some (.ref c13)))
  {c14 : Addr}
  (u_NoWay : PySem.W.nsIn K mainGlobals "NoWay" = some (some (.ref c14)))
  {c15 : Addr}
  (u_NoWeights : PySem.W.nsIn K mainGlobals "NoWeights" = some (some (.ref c15)))
  {c16 : Addr}
  (u_Twice : PySem.W.nsIn K mainGlobals "Twice" = some (some (.ref c16)))
  {c17 : Addr}
  (u_LotError : PySem.W.nsIn K mainGlobals "LotError" = some (some (.ref c17)))
  {f0 : Addr} {od0 an0 : Option Addr} {sl0 : Array (Option Value)} {oc0 kV0 dc0 pm0 cd0 ct0 : Value}
  (a0 : PySem.W.nsIn K mainGlobals "_law_digits" = some (some (.ref f0)))
  (l0 : K.lookup f0 = some ⟨oc0, od0, .func (PySem.W.fnOf "_law_digits" "_law_digits" (defArgs s__law_digits) (defBody s__law_digits) (defScope s__law_digits) .none kV0 dc0 pm0 an0 cd0 ct0), sl0⟩)
  (d0 : PySem.W.codeIn K cd0 "_law_digits" = true)
  (k0 : PySem.W.keepIn K (.ref f0) = true)
  {f1 : Addr} {od1 an1 : Option Addr} {sl1 : Array (Option Value)} {oc1 kV1 dc1 pm1 cd1 ct1 : Value}
  (a1 : PySem.W.nsIn K mainGlobals "_law_cell_at" = some (some (.ref f1)))
  (l1 : K.lookup f1 = some ⟨oc1, od1, .func (PySem.W.fnOf "_law_cell_at" "_law_cell_at" (defArgs s__law_cell_at) (defBody s__law_cell_at) (defScope s__law_cell_at) .none kV1 dc1 pm1 an1 cd1 ct1), sl1⟩)
  (d1 : PySem.W.codeIn K cd1 "_law_cell_at" = true)
  (k1 : PySem.W.keepIn K (.ref f1) = true)
  {f2 : Addr} {od2 an2 : Option Addr} {sl2 : Array (Option Value)} {oc2 kV2 dc2 pm2 cd2 ct2 : Value}
  (a2 : PySem.W.nsIn K mainGlobals "_law_good" = some (some (.ref f2)))
  (l2 : K.lookup f2 = some ⟨oc2, od2, .func (PySem.W.fnOf "_law_good" "_law_good" (defArgs s__law_good) (defBody s__law_good) (defScope s__law_good) .none kV2 dc2 pm2 an2 cd2 ct2), sl2⟩)
  (d2 : PySem.W.codeIn K cd2 "_law_good" = true)
  (k2 : PySem.W.keepIn K (.ref f2) = true)
  {f3 : Addr} {od3 an3 : Option Addr} {sl3 : Array (Option Value)} {oc3 kV3 dc3 pm3 cd3 ct3 : Value}
  (a3 : PySem.W.nsIn K mainGlobals "_law_ranges" = some (some (.ref f3)))
  (l3 : K.lookup f3 = some ⟨oc3, od3, .func (PySem.W.fnOf "_law_ranges" "_law_ranges" (defArgs s__law_ranges) (defBody s__law_ranges) (defScope s__law_ranges) .none kV3 dc3 pm3 an3 cd3 ct3), sl3⟩)
  (d3 : PySem.W.codeIn K cd3 "_law_ranges" = true)
  (k3 : PySem.W.keepIn K (.ref f3) = true)
  {f4 : Addr} {od4 an4 : Option Addr} {sl4 : Array (Option Value)} {oc4 kV4 dc4 pm4 cd4 ct4 : Value}
  (a4 : PySem.W.nsIn K mainGlobals "_law_bad_names" = some (some (.ref f4)))
  (l4 : K.lookup f4 = some ⟨oc4, od4, .func (PySem.W.fnOf "_law_bad_names" "_law_bad_names" (defArgs s__law_bad_names) (defBody s__law_bad_names) (defScope s__law_bad_names) .none kV4 dc4 pm4 an4 cd4 ct4), sl4⟩)
  (d4 : PySem.W.codeIn K cd4 "_law_bad_names" = true)
  (k4 : PySem.W.keepIn K (.ref f4) = true)
  {f5 : Addr} {od5 an5 : Option Addr} {sl5 : Array (Option Value)} {oc5 kV5 dc5 pm5 cd5 ct5 : Value}
  (a5 : PySem.W.nsIn K mainGlobals "_law_bad" = some (some (.ref f5)))
  (l5 : K.lookup f5 = some ⟨oc5, od5, .func (PySem.W.fnOf "_law_bad" "_law_bad" (defArgs s__law_bad) (defBody s__law_bad) (defScope s__law_bad) .none kV5 dc5 pm5 an5 cd5 ct5), sl5⟩)
  (d5 : PySem.W.codeIn K cd5 "_law_bad" = true)
  (k5 : PySem.W.keepIn K (.ref f5) = true)
  {f6 : Addr} {od6 an6 : Option Addr} {sl6 : Array (Option Value)} {oc6 kV6 dc6 pm6 cd6 ct6 : Value}
  (a6 : PySem.W.findIn K (.ref c0) "word" = some (some (.ref f6)))
  (l6 : K.lookup f6 = some ⟨oc6, od6, .func (PySem.W.fnOf "word" "Buy.word" (defArgs s_Buy_word) (defBody s_Buy_word) (defScope s_Buy_word) .none kV6 dc6 pm6 an6 cd6 ct6), sl6⟩)
  (d6 : PySem.W.codeIn K cd6 "Buy.word" = true)
  (k6 : PySem.W.keepIn K (.ref f6) = true)
  {f7 : Addr} {od7 an7 : Option Addr} {sl7 : Array (Option Value)} {oc7 kV7 dc7 pm7 cd7 ct7 : Value}
  (a7 : PySem.W.findIn K (.ref c0) "told" = some (some (.ref f7)))
  (l7 : K.lookup f7 = some ⟨oc7, od7, .func (PySem.W.fnOf "told" "Buy.told" (defArgs s_Buy_told) (defBody s_Buy_told) (defScope s_Buy_told) .none kV7 dc7 pm7 an7 cd7 ct7), sl7⟩)
  (d7 : PySem.W.codeIn K cd7 "Buy.told" = true)
  (k7 : PySem.W.keepIn K (.ref f7) = true)
  {f8 : Addr} {od8 an8 : Option Addr} {sl8 : Array (Option Value)} {oc8 kV8 dc8 pm8 cd8 ct8 : Value}
  (a8 : PySem.W.nsIn K mainGlobals "named_told" = some (some (.ref f8)))
  (l8 : K.lookup f8 = some ⟨oc8, od8, .func (PySem.W.fnOf "named_told" "named_told" (defArgs s_named_told) (defBody s_named_told) (defScope s_named_told) .none kV8 dc8 pm8 an8 cd8 ct8), sl8⟩)
  (d8 : PySem.W.codeIn K cd8 "named_told" = true)
  (k8 : PySem.W.keepIn K (.ref f8) = true)
  {f9 : Addr} {od9 an9 : Option Addr} {sl9 : Array (Option Value)} {oc9 kV9 dc9 pm9 cd9 ct9 : Value}
  (a9 : PySem.W.findIn K (.ref c1) "word" = some (some (.ref f9)))
  (l9 : K.lookup f9 = some ⟨oc9, od9, .func (PySem.W.fnOf "word" "Sell.word" (defArgs s_Sell_word) (defBody s_Sell_word) (defScope s_Sell_word) .none kV9 dc9 pm9 an9 cd9 ct9), sl9⟩)
  (d9 : PySem.W.codeIn K cd9 "Sell.word" = true)
  (k9 : PySem.W.keepIn K (.ref f9) = true)
  {f10 : Addr} {od10 an10 : Option Addr} {sl10 : Array (Option Value)} {oc10 kV10 dc10 pm10 cd10 ct10 : Value}
  (a10 : PySem.W.findIn K (.ref c1) "told" = some (some (.ref f10)))
  (l10 : K.lookup f10 = some ⟨oc10, od10, .func (PySem.W.fnOf "told" "Sell.told" (defArgs s_Sell_told) (defBody s_Sell_told) (defScope s_Sell_told) .none kV10 dc10 pm10 an10 cd10 ct10), sl10⟩)
  (d10 : PySem.W.codeIn K cd10 "Sell.told" = true)
  (k10 : PySem.W.keepIn K (.ref f10) = true)
  {f11 : Addr} {od11 an11 : Option Addr} {sl11 : Array (Option Value)} {oc11 kV11 dc11 pm11 cd11 ct11 : Value}
  (a11 : PySem.W.findIn K (.ref c2) "word" = some (some (.ref f11)))
  (l11 : K.lookup f11 = some ⟨oc11, od11, .func (PySem.W.fnOf "word" "Gift.word" (defArgs s_Gift_word) (defBody s_Gift_word) (defScope s_Gift_word) .none kV11 dc11 pm11 an11 cd11 ct11), sl11⟩)
  (d11 : PySem.W.codeIn K cd11 "Gift.word" = true)
  (k11 : PySem.W.keepIn K (.ref f11) = true)
  {f12 : Addr} {od12 an12 : Option Addr} {sl12 : Array (Option Value)} {oc12 kV12 dc12 pm12 cd12 ct12 : Value}
  (a12 : PySem.W.findIn K (.ref c2) "told" = some (some (.ref f12)))
  (l12 : K.lookup f12 = some ⟨oc12, od12, .func (PySem.W.fnOf "told" "Gift.told" (defArgs s_Gift_told) (defBody s_Gift_told) (defScope s_Gift_told) .none kV12 dc12 pm12 an12 cd12 ct12), sl12⟩)
  (d12 : PySem.W.codeIn K cd12 "Gift.told" = true)
  (k12 : PySem.W.keepIn K (.ref f12) = true)
  {f13 : Addr} {od13 an13 : Option Addr} {sl13 : Array (Option Value)} {oc13 kV13 dc13 pm13 cd13 ct13 : Value}
  (a13 : PySem.W.findIn K (.ref c3) "word" = some (some (.ref f13)))
  (l13 : K.lookup f13 = some ⟨oc13, od13, .func (PySem.W.fnOf "word" "Give.word" (defArgs s_Give_word) (defBody s_Give_word) (defScope s_Give_word) .none kV13 dc13 pm13 an13 cd13 ct13), sl13⟩)
  (d13 : PySem.W.codeIn K cd13 "Give.word" = true)
  (k13 : PySem.W.keepIn K (.ref f13) = true)
  {f14 : Addr} {od14 an14 : Option Addr} {sl14 : Array (Option Value)} {oc14 kV14 dc14 pm14 cd14 ct14 : Value}
  (a14 : PySem.W.findIn K (.ref c3) "told" = some (some (.ref f14)))
  (l14 : K.lookup f14 = some ⟨oc14, od14, .func (PySem.W.fnOf "told" "Give.told" (defArgs s_Give_told) (defBody s_Give_told) (defScope s_Give_told) .none kV14 dc14 pm14 an14 cd14 ct14), sl14⟩)
  (d14 : PySem.W.codeIn K cd14 "Give.told" = true)
  (k14 : PySem.W.keepIn K (.ref f14) = true)
  {f15 : Addr} {od15 an15 : Option Addr} {sl15 : Array (Option Value)} {oc15 kV15 dc15 pm15 cd15 ct15 : Value}
  (a15 : PySem.W.findIn K (.ref c4) "word" = some (some (.ref f15)))
  (l15 : K.lookup f15 = some ⟨oc15, od15, .func (PySem.W.fnOf "word" "Split.word" (defArgs s_Split_word) (defBody s_Split_word) (defScope s_Split_word) .none kV15 dc15 pm15 an15 cd15 ct15), sl15⟩)
  (d15 : PySem.W.codeIn K cd15 "Split.word" = true)
  (k15 : PySem.W.keepIn K (.ref f15) = true)
  {f16 : Addr} {od16 an16 : Option Addr} {sl16 : Array (Option Value)} {oc16 kV16 dc16 pm16 cd16 ct16 : Value}
  (a16 : PySem.W.findIn K (.ref c4) "told" = some (some (.ref f16)))
  (l16 : K.lookup f16 = some ⟨oc16, od16, .func (PySem.W.fnOf "told" "Split.told" (defArgs s_Split_told) (defBody s_Split_told) (defScope s_Split_told) .none kV16 dc16 pm16 an16 cd16 ct16), sl16⟩)
  (d16 : PySem.W.codeIn K cd16 "Split.told" = true)
  (k16 : PySem.W.keepIn K (.ref f16) = true)
  {f17 : Addr} {od17 an17 : Option Addr} {sl17 : Array (Option Value)} {oc17 kV17 dc17 pm17 cd17 ct17 : Value}
  (a17 : PySem.W.findIn K (.ref c5) "word" = some (some (.ref f17)))
  (l17 : K.lookup f17 = some ⟨oc17, od17, .func (PySem.W.fnOf "word" "Parting.word" (defArgs s_Parting_word) (defBody s_Parting_word) (defScope s_Parting_word) .none kV17 dc17 pm17 an17 cd17 ct17), sl17⟩)
  (d17 : PySem.W.codeIn K cd17 "Parting.word" = true)
  (k17 : PySem.W.keepIn K (.ref f17) = true)
  {f18 : Addr} {od18 an18 : Option Addr} {sl18 : Array (Option Value)} {oc18 kV18 dc18 pm18 cd18 ct18 : Value}
  (a18 : PySem.W.findIn K (.ref c5) "told" = some (some (.ref f18)))
  (l18 : K.lookup f18 = some ⟨oc18, od18, .func (PySem.W.fnOf "told" "Parting.told" (defArgs s_Parting_told) (defBody s_Parting_told) (defScope s_Parting_told) .none kV18 dc18 pm18 an18 cd18 ct18), sl18⟩)
  (d18 : PySem.W.codeIn K cd18 "Parting.told" = true)
  (k18 : PySem.W.keepIn K (.ref f18) = true)
  {f19 : Addr} {od19 an19 : Option Addr} {sl19 : Array (Option Value)} {oc19 kV19 dc19 pm19 cd19 ct19 : Value}
  (a19 : PySem.W.nsIn K mainGlobals "is_whole_number" = some (some (.ref f19)))
  (l19 : K.lookup f19 = some ⟨oc19, od19, .func (PySem.W.fnOf "is_whole_number" "is_whole_number" (defArgs s_is_whole_number) (defBody s_is_whole_number) (defScope s_is_whole_number) .none kV19 dc19 pm19 an19 cd19 ct19), sl19⟩)
  (d19 : PySem.W.codeIn K cd19 "is_whole_number" = true)
  (k19 : PySem.W.keepIn K (.ref f19) = true)
  {f20 : Addr} {od20 an20 : Option Addr} {sl20 : Array (Option Value)} {oc20 kV20 dc20 pm20 cd20 ct20 : Value}
  (a20 : PySem.W.nsIn K mainGlobals "check_number" = some (some (.ref f20)))
  (l20 : K.lookup f20 = some ⟨oc20, od20, .func (PySem.W.fnOf "check_number" "check_number" (defArgs s_check_number) (defBody s_check_number) (defScope s_check_number) .none kV20 dc20 pm20 an20 cd20 ct20), sl20⟩)
  (d20 : PySem.W.codeIn K cd20 "check_number" = true)
  (k20 : PySem.W.keepIn K (.ref f20) = true)
  {f21 : Addr} {od21 an21 : Option Addr} {sl21 : Array (Option Value)} {oc21 kV21 dc21 pm21 cd21 ct21 : Value}
  (a21 : PySem.W.nsIn K mainGlobals "is_name" = some (some (.ref f21)))
  (l21 : K.lookup f21 = some ⟨oc21, od21, .func (PySem.W.fnOf "is_name" "is_name" (defArgs s_is_name) (defBody s_is_name) (defScope s_is_name) .none kV21 dc21 pm21 an21 cd21 ct21), sl21⟩)
  (d21 : PySem.W.codeIn K cd21 "is_name" = true)
  (k21 : PySem.W.keepIn K (.ref f21) = true)
  {f22 : Addr} {od22 an22 : Option Addr} {sl22 : Array (Option Value)} {oc22 kV22 dc22 pm22 cd22 ct22 : Value}
  (a22 : PySem.W.nsIn K mainGlobals "check_name" = some (some (.ref f22)))
  (l22 : K.lookup f22 = some ⟨oc22, od22, .func (PySem.W.fnOf "check_name" "check_name" (defArgs s_check_name) (defBody s_check_name) (defScope s_check_name) .none kV22 dc22 pm22 an22 cd22 ct22), sl22⟩)
  (d22 : PySem.W.codeIn K cd22 "check_name" = true)
  (k22 : PySem.W.keepIn K (.ref f22) = true)
  {f23 : Addr} {od23 an23 : Option Addr} {sl23 : Array (Option Value)} {oc23 kV23 dc23 pm23 cd23 ct23 : Value}
  (a23 : PySem.W.findIn K (.ref c7) "__init__" = some (some (.ref f23)))
  (l23 : K.lookup f23 = some ⟨oc23, od23, .func (PySem.W.fnOf "__init__" "Entry.__init__" (defArgs s_Entry___init__) (defBody s_Entry___init__) (defScope s_Entry___init__) .none kV23 dc23 pm23 an23 cd23 ct23), sl23⟩)
  (d23 : PySem.W.codeIn K cd23 "Entry.__init__" = true)
  (k23 : PySem.W.keepIn K (.ref f23) = true)
  {f24 : Addr} {od24 an24 : Option Addr} {sl24 : Array (Option Value)} {oc24 kV24 dc24 pm24 cd24 ct24 : Value}
  (a24 : PySem.W.nsIn K mainGlobals "check_named" = some (some (.ref f24)))
  (l24 : K.lookup f24 = some ⟨oc24, od24, .func (PySem.W.fnOf "check_named" "check_named" (defArgs s_check_named) (defBody s_check_named) (defScope s_check_named) .none kV24 dc24 pm24 an24 cd24 ct24), sl24⟩)
  (d24 : PySem.W.codeIn K cd24 "check_named" = true)
  (k24 : PySem.W.keepIn K (.ref f24) = true)
  {f25 : Addr} {od25 an25 : Option Addr} {sl25 : Array (Option Value)} {oc25 kV25 dc25 pm25 cd25 ct25 : Value}
  (a25 : PySem.W.nsIn K mainGlobals "named_copy" = some (some (.ref f25)))
  (l25 : K.lookup f25 = some ⟨oc25, od25, .func (PySem.W.fnOf "named_copy" "named_copy" (defArgs s_named_copy) (defBody s_named_copy) (defScope s_named_copy) .none kV25 dc25 pm25 an25 cd25 ct25), sl25⟩)
  (d25 : PySem.W.codeIn K cd25 "named_copy" = true)
  (k25 : PySem.W.keepIn K (.ref f25) = true)
  {f26 : Addr} {od26 an26 : Option Addr} {sl26 : Array (Option Value)} {oc26 kV26 dc26 pm26 cd26 ct26 : Value}
  (a26 : PySem.W.findIn K (.ref c3) "__init__" = some (some (.ref f26)))
  {td26 : Addr} {odt26 : Option Addr} {oct26 : Value} {slt26 : Array (Option Value)} {nt26 : Nat}
  (l26 : K.lookup f26 = some ⟨oc26, od26, .func (PySem.W.fnOf "__init__" "Give.__init__" (defArgs s_Give___init__) (defBody s_Give___init__) (defScope s_Give___init__) (.ref td26) kV26 dc26 pm26 an26 cd26 ct26), sl26⟩)
  (d26 : PySem.W.codeIn K cd26 "Give.__init__" = true)
  (k26 : PySem.W.keepIn K (.ref f26) = true)
  (lt26 : K.lookup td26 = some ⟨oct26, odt26, .seq #[.none] nt26, slt26⟩)
  {f27 : Addr} {od27 an27 : Option Addr} {sl27 : Array (Option Value)} {oc27 kV27 dc27 pm27 cd27 ct27 : Value}
  (a27 : PySem.W.nsIn K mainGlobals "check_trade" = some (some (.ref f27)))
  (l27 : K.lookup f27 = some ⟨oc27, od27, .func (PySem.W.fnOf "check_trade" "check_trade" (defArgs s_check_trade) (defBody s_check_trade) (defScope s_check_trade) .none kV27 dc27 pm27 an27 cd27 ct27), sl27⟩)
  (d27 : PySem.W.codeIn K cd27 "check_trade" = true)
  (k27 : PySem.W.keepIn K (.ref f27) = true)
  {f28 : Addr} {od28 an28 : Option Addr} {sl28 : Array (Option Value)} {oc28 kV28 dc28 pm28 cd28 ct28 : Value}
  (a28 : PySem.W.findIn K (.ref c0) "__init__" = some (some (.ref f28)))
  {td28 : Addr} {odt28 : Option Addr} {oct28 : Value} {slt28 : Array (Option Value)} {nt28 : Nat} {tk28_0 : Tok}
  (l28 : K.lookup f28 = some ⟨oc28, od28, .func (PySem.W.fnOf "__init__" "Buy.__init__" (defArgs s_Buy___init__) (defBody s_Buy___init__) (defScope s_Buy___init__) (.ref td28) kV28 dc28 pm28 an28 cd28 ct28), sl28⟩)
  (d28 : PySem.W.codeIn K cd28 "Buy.__init__" = true)
  (k28 : PySem.W.keepIn K (.ref f28) = true)
  (lt28 : K.lookup td28 = some ⟨oct28, odt28, .seq #[.int 0 tk28_0] nt28, slt28⟩)
  {f29 : Addr} {od29 an29 : Option Addr} {sl29 : Array (Option Value)} {oc29 kV29 dc29 pm29 cd29 ct29 : Value}
  (a29 : PySem.W.findIn K (.ref c2) "__init__" = some (some (.ref f29)))
  (l29 : K.lookup f29 = some ⟨oc29, od29, .func (PySem.W.fnOf "__init__" "Gift.__init__" (defArgs s_Gift___init__) (defBody s_Gift___init__) (defScope s_Gift___init__) .none kV29 dc29 pm29 an29 cd29 ct29), sl29⟩)
  (d29 : PySem.W.codeIn K cd29 "Gift.__init__" = true)
  (k29 : PySem.W.keepIn K (.ref f29) = true)
  {f30 : Addr} {od30 an30 : Option Addr} {sl30 : Array (Option Value)} {oc30 kV30 dc30 pm30 cd30 ct30 : Value}
  (a30 : PySem.W.findIn K (.ref c4) "__init__" = some (some (.ref f30)))
  (l30 : K.lookup f30 = some ⟨oc30, od30, .func (PySem.W.fnOf "__init__" "Split.__init__" (defArgs s_Split___init__) (defBody s_Split___init__) (defScope s_Split___init__) .none kV30 dc30 pm30 an30 cd30 ct30), sl30⟩)
  (d30 : PySem.W.codeIn K cd30 "Split.__init__" = true)
  (k30 : PySem.W.keepIn K (.ref f30) = true)
  {f31 : Addr} {od31 an31 : Option Addr} {sl31 : Array (Option Value)} {oc31 kV31 dc31 pm31 cd31 ct31 : Value}
  (a31 : PySem.W.findIn K (.ref c5) "__init__" = some (some (.ref f31)))
  (l31 : K.lookup f31 = some ⟨oc31, od31, .func (PySem.W.fnOf "__init__" "Parting.__init__" (defArgs s_Parting___init__) (defBody s_Parting___init__) (defScope s_Parting___init__) .none kV31 dc31 pm31 an31 cd31 ct31), sl31⟩)
  (d31 : PySem.W.codeIn K cd31 "Parting.__init__" = true)
  (k31 : PySem.W.keepIn K (.ref f31) = true)
  {f32 : Addr} {od32 an32 : Option Addr} {sl32 : Array (Option Value)} {oc32 kV32 dc32 pm32 cd32 ct32 : Value}
  (a32 : PySem.W.findIn K (.ref c1) "__init__" = some (some (.ref f32)))
  {td32 : Addr} {odt32 : Option Addr} {oct32 : Value} {slt32 : Array (Option Value)} {nt32 : Nat} {tk32_0 : Tok}
  (l32 : K.lookup f32 = some ⟨oc32, od32, .func (PySem.W.fnOf "__init__" "Sell.__init__" (defArgs s_Sell___init__) (defBody s_Sell___init__) (defScope s_Sell___init__) (.ref td32) kV32 dc32 pm32 an32 cd32 ct32), sl32⟩)
  (d32 : PySem.W.codeIn K cd32 "Sell.__init__" = true)
  (k32 : PySem.W.keepIn K (.ref f32) = true)
  (lt32 : K.lookup td32 = some ⟨oct32, odt32, .seq #[.int 0 tk32_0, .none] nt32, slt32⟩)
  {f33 : Addr} {od33 an33 : Option Addr} {sl33 : Array (Option Value)} {oc33 kV33 dc33 pm33 cd33 ct33 : Value}
  (a33 : PySem.W.nsIn K mainGlobals "_law_made" = some (some (.ref f33)))
  (l33 : K.lookup f33 = some ⟨oc33, od33, .func (PySem.W.fnOf "_law_made" "_law_made" (defArgs s__law_made) (defBody s__law_made) (defScope s__law_made) .none kV33 dc33 pm33 an33 cd33 ct33), sl33⟩)
  (d33 : PySem.W.codeIn K cd33 "_law_made" = true)
  (k33 : PySem.W.keepIn K (.ref f33) = true)
  {f34 : Addr} {od34 an34 : Option Addr} {sl34 : Array (Option Value)} {oc34 kV34 dc34 pm34 cd34 ct34 : Value}
  (a34 : PySem.W.nsIn K mainGlobals "_law_refused" = some (some (.ref f34)))
  (l34 : K.lookup f34 = some ⟨oc34, od34, .func (PySem.W.fnOf "_law_refused" "_law_refused" (defArgs s__law_refused) (defBody s__law_refused) (defScope s__law_refused) .none kV34 dc34 pm34 an34 cd34 ct34), sl34⟩)
  (d34 : PySem.W.codeIn K cd34 "_law_refused" = true)
  (k34 : PySem.W.keepIn K (.ref f34) = true)
  {f35 : Addr} {od35 an35 : Option Addr} {sl35 : Array (Option Value)} {oc35 kV35 dc35 pm35 cd35 ct35 : Value}
  (a35 : PySem.W.nsIn K mainGlobals "law" = some (some (.ref f35)))
  (l35 : K.lookup f35 = some ⟨oc35, od35, .func (PySem.W.fnOf "law" "law" (defArgs s_law) (defBody s_law) (defScope s_law) .none kV35 dc35 pm35 an35 cd35 ct35), sl35⟩)
  (d35 : PySem.W.codeIn K cd35 "law" = true)
  (k35 : PySem.W.keepIn K (.ref f35) = true)
  (z_len : PySem.W.nsIn K mainGlobals "len" = some none)
  (z_max : PySem.W.nsIn K mainGlobals "max" = some none)
  (z_sorted : PySem.W.nsIn K mainGlobals "sorted" = some none)
  (z_tuple : PySem.W.nsIn K mainGlobals "tuple" = some none)
  (z_isinstance : PySem.W.nsIn K mainGlobals "isinstance" = some none)
  (z_int : PySem.W.nsIn K mainGlobals "int" = some none)
  (z_bool : PySem.W.nsIn K mainGlobals "bool" = some none)
  (z_all : PySem.W.nsIn K mainGlobals "all" = some none)
  (z_str : PySem.W.nsIn K mainGlobals "str" = some none)
  (z_list : PySem.W.nsIn K mainGlobals "list" = some none)
  (z_sum : PySem.W.nsIn K mainGlobals "sum" = some none)
  (z_ValueError : PySem.W.nsIn K mainGlobals "ValueError" = some none)
  {t_MOST_LETTERS : Tok}
  (g_MOST_LETTERS : PySem.W.nsIn K mainGlobals "MOST_LETTERS" = some (some (.int 8 t_MOST_LETTERS)))
  {t_MOST_DAY : Tok}
  (g_MOST_DAY : PySem.W.nsIn K mainGlobals "MOST_DAY" = some (some (.int 1000000 t_MOST_DAY)))
  {t_MOST_NUMBER : Tok}
  (g_MOST_NUMBER : PySem.W.nsIn K mainGlobals "MOST_NUMBER" = some (some (.int 1000000 t_MOST_NUMBER)))
  {t_MOST_PIECES : Tok}
  (g_MOST_PIECES : PySem.W.nsIn K mainGlobals "MOST_PIECES" = some (some (.int 1000000000 t_MOST_PIECES)))
  {t_MOST_PRICE : Tok}
  (g_MOST_PRICE : PySem.W.nsIn K mainGlobals "MOST_PRICE" = some (some (.int 1000000000 t_MOST_PRICE)))
  {t_MOST_FEE : Tok}
  (g_MOST_FEE : PySem.W.nsIn K mainGlobals "MOST_FEE" = some (some (.int 1000000000 t_MOST_FEE)))
  {t_MOST_GIFT_COST : Tok}
  (g_MOST_GIFT_COST : PySem.W.nsIn K mainGlobals "MOST_GIFT_COST" = some (some (.int 1000000000000000000 t_MOST_GIFT_COST)))
  {t_MOST_SPLIT : Tok}
  (g_MOST_SPLIT : PySem.W.nsIn K mainGlobals "MOST_SPLIT" = some (some (.int 1000 t_MOST_SPLIT)))
  {t_MOST_WHOLE : Tok}
  (g_MOST_WHOLE : PySem.W.nsIn K mainGlobals "MOST_WHOLE" = some (some (.int 1000000 t_MOST_WHOLE)))
  (x_NoEntry : PySem.W.excIn K c6 [.type "ValueError", .type "Exception", .type "BaseException", .type "object"] "ValueError.__new__" = true)
  (ya_NoEntry : PySem.W.findIn K (.ref c6) "__class__" = some (some (.builtin "object.__class__")))
  (yb_NoEntry : PySem.W.findIn K (.ref c6) "__getattribute__" = some (some (.builtin "BaseException.__getattribute__")))
  (yc_NoEntry : PySem.W.findIn K (.ref c6) "__getattr__" = some none)
  (x_NoPieces : PySem.W.excIn K c11 [.type "ValueError", .type "Exception", .type "BaseException", .type "object"] "ValueError.__new__" = true)
  (ya_NoPieces : PySem.W.findIn K (.ref c11) "__class__" = some (some (.builtin "object.__class__")))
  (yb_NoPieces : PySem.W.findIn K (.ref c11) "__getattribute__" = some (some (.builtin "BaseException.__getattribute__")))
  (yc_NoPieces : PySem.W.findIn K (.ref c11) "__getattr__" = some none)
  (x_NoWay : PySem.W.excIn K c14 [.type "ValueError", .type "Exception", .type "BaseException", .type "object"] "ValueError.__new__" = true)
  (ya_NoWay : PySem.W.findIn K (.ref c14) "__class__" = some (some (.builtin "object.__class__")))
  (yb_NoWay : PySem.W.findIn K (.ref c14) "__getattribute__" = some (some (.builtin "BaseException.__getattribute__")))
  (yc_NoWay : PySem.W.findIn K (.ref c14) "__getattr__" = some none)
  (x_NoWeights : PySem.W.excIn K c15 [.type "ValueError", .type "Exception", .type "BaseException", .type "object"] "ValueError.__new__" = true)
  (ya_NoWeights : PySem.W.findIn K (.ref c15) "__class__" = some (some (.builtin "object.__class__")))
  (yb_NoWeights : PySem.W.findIn K (.ref c15) "__getattribute__" = some (some (.builtin "BaseException.__getattribute__")))
  (yc_NoWeights : PySem.W.findIn K (.ref c15) "__getattr__" = some none)
  (x_LotError : PySem.W.excIn K c17 [.type "ValueError", .type "Exception", .type "BaseException", .type "object"] "ValueError.__new__" = true)
  (ya_LotError : PySem.W.findIn K (.ref c17) "__class__" = some (some (.builtin "object.__class__")))
  (yb_LotError : PySem.W.findIn K (.ref c17) "__getattribute__" = some (some (.builtin "BaseException.__getattribute__")))
  (yc_LotError : PySem.W.findIn K (.ref c17) "__getattr__" = some none)
  (oc_n : PySem.W.specialIn K (.builtin "object.__class__") "__get__" = some (some (.builtin "getset_descriptor.__get__")))
  (oc_t : PySem.W.takesIn K (.builtin "object.__class__") = some true)
  (pg_Buy : PySem.W.plainGet K c0 Str.empty = true)
  (hd_Buy : PySem.W.hasDictIn K c0 = true)
  (po_Buy : PySem.W.plainOver K c0 = true)
  (sa_Buy : PySem.W.findIn K (.ref c0) "__setattr__" = some (some (.builtin "object.__setattr__")))
  (ha_Buy : PySem.W.findIn K (.ref c0) "__class__" = some (some (.builtin "object.__class__")))
  (hm_Buy : PySem.W.mroIn K c0 (.type "object") = some true)
  (n_Buy_day : PySem.W.findIn K (.ref c0) "day" = some none)
  (n_Buy_number : PySem.W.findIn K (.ref c0) "number" = some none)
  (n_Buy_ware : PySem.W.findIn K (.ref c0) "ware" = some none)
  (n_Buy_pieces : PySem.W.findIn K (.ref c0) "pieces" = some none)
  (n_Buy_price : PySem.W.findIn K (.ref c0) "price" = some none)
  (n_Buy_fee : PySem.W.findIn K (.ref c0) "fee" = some none)
  (n_Buy_cost : PySem.W.findIn K (.ref c0) "cost" = some none)
  (pg_Sell : PySem.W.plainGet K c1 Str.empty = true)
  (hd_Sell : PySem.W.hasDictIn K c1 = true)
  (po_Sell : PySem.W.plainOver K c1 = true)
  (sa_Sell : PySem.W.findIn K (.ref c1) "__setattr__" = some (some (.builtin "object.__setattr__")))
  (ha_Sell : PySem.W.findIn K (.ref c1) "__class__" = some (some (.builtin "object.__class__")))
  (hm_Sell : PySem.W.mroIn K c1 (.type "object") = some true)
  (n_Sell_day : PySem.W.findIn K (.ref c1) "day" = some none)
  (n_Sell_number : PySem.W.findIn K (.ref c1) "number" = some none)
  (n_Sell_ware : PySem.W.findIn K (.ref c1) "ware" = some none)
  (n_Sell_pieces : PySem.W.findIn K (.ref c1) "pieces" = some none)
  (n_Sell_price : PySem.W.findIn K (.ref c1) "price" = some none)
  (n_Sell_fee : PySem.W.findIn K (.ref c1) "fee" = some none)
  (n_Sell_named : PySem.W.findIn K (.ref c1) "named" = some none)
  (n_Sell_proceeds : PySem.W.findIn K (.ref c1) "proceeds" = some none)
  (pg_Gift : PySem.W.plainGet K c2 Str.empty = true)
  (hd_Gift : PySem.W.hasDictIn K c2 = true)
  (po_Gift : PySem.W.plainOver K c2 = true)
  (sa_Gift : PySem.W.findIn K (.ref c2) "__setattr__" = some (some (.builtin "object.__setattr__")))
  (ha_Gift : PySem.W.findIn K (.ref c2) "__class__" = some (some (.builtin "object.__class__")))
  (hm_Gift : PySem.W.mroIn K c2 (.type "object") = some true)
  (n_Gift_day : PySem.W.findIn K (.ref c2) "day" = some none)
  (n_Gift_number : PySem.W.findIn K (.ref c2) "number" = some none)
  (n_Gift_ware : PySem.W.findIn K (.ref c2) "ware" = some none)
  (n_Gift_pieces : PySem.W.findIn K (.ref c2) "pieces" = some none)
  (n_Gift_cost : PySem.W.findIn K (.ref c2) "cost" = some none)
  (n_Gift_since : PySem.W.findIn K (.ref c2) "since" = some none)
  (pg_Give : PySem.W.plainGet K c3 Str.empty = true)
  (hd_Give : PySem.W.hasDictIn K c3 = true)
  (po_Give : PySem.W.plainOver K c3 = true)
  (sa_Give : PySem.W.findIn K (.ref c3) "__setattr__" = some (some (.builtin "object.__setattr__")))
  (ha_Give : PySem.W.findIn K (.ref c3) "__class__" = some (some (.builtin "object.__class__")))
  (hm_Give : PySem.W.mroIn K c3 (.type "object") = some true)
  (n_Give_day : PySem.W.findIn K (.ref c3) "day" = some none)
  (n_Give_number : PySem.W.findIn K (.ref c3) "number" = some none)
  (n_Give_ware : PySem.W.findIn K (.ref c3) "ware" = some none)
  (n_Give_pieces : PySem.W.findIn K (.ref c3) "pieces" = some none)
  (n_Give_named : PySem.W.findIn K (.ref c3) "named" = some none)
  (pg_Split : PySem.W.plainGet K c4 Str.empty = true)
  (hd_Split : PySem.W.hasDictIn K c4 = true)
  (po_Split : PySem.W.plainOver K c4 = true)
  (sa_Split : PySem.W.findIn K (.ref c4) "__setattr__" = some (some (.builtin "object.__setattr__")))
  (ha_Split : PySem.W.findIn K (.ref c4) "__class__" = some (some (.builtin "object.__class__")))
  (hm_Split : PySem.W.mroIn K c4 (.type "object") = some true)
  (n_Split_day : PySem.W.findIn K (.ref c4) "day" = some none)
  (n_Split_number : PySem.W.findIn K (.ref c4) "number" = some none)
  (n_Split_ware : PySem.W.findIn K (.ref c4) "ware" = some none)
  (n_Split_many : PySem.W.findIn K (.ref c4) "many" = some none)
  (n_Split_of : PySem.W.findIn K (.ref c4) "of" = some none)
  (pg_Parting : PySem.W.plainGet K c5 Str.empty = true)
  (hd_Parting : PySem.W.hasDictIn K c5 = true)
  (po_Parting : PySem.W.plainOver K c5 = true)
  (sa_Parting : PySem.W.findIn K (.ref c5) "__setattr__" = some (some (.builtin "object.__setattr__")))
  (ha_Parting : PySem.W.findIn K (.ref c5) "__class__" = some (some (.builtin "object.__class__")))
  (hm_Parting : PySem.W.mroIn K c5 (.type "object") = some true)
  (n_Parting_day : PySem.W.findIn K (.ref c5) "day" = some none)
  (n_Parting_number : PySem.W.findIn K (.ref c5) "number" = some none)
  (n_Parting_ware : PySem.W.findIn K (.ref c5) "ware" = some none)
  (n_Parting_other : PySem.W.findIn K (.ref c5) "other" = some none)
  (n_Parting_share : PySem.W.findIn K (.ref c5) "share" = some none)
  (n_Parting_whole : PySem.W.findIn K (.ref c5) "whole" = some none)
  (pg_Entry : PySem.W.plainGet K c7 Str.empty = true)
  (hd_Entry : PySem.W.hasDictIn K c7 = true)
  (po_Entry : PySem.W.plainOver K c7 = true)
  (sa_Entry : PySem.W.findIn K (.ref c7) "__setattr__" = some (some (.builtin "object.__setattr__")))
  (ha_Entry : PySem.W.findIn K (.ref c7) "__class__" = some (some (.builtin "object.__class__")))
  (hm_Entry : PySem.W.mroIn K c7 (.type "object") = some true)
  (n_Entry_day : PySem.W.findIn K (.ref c7) "day" = some none)
  (n_Entry_number : PySem.W.findIn K (.ref c7) "number" = some none)
  (n_Entry_ware : PySem.W.findIn K (.ref c7) "ware" = some none)
  (mka_Give : PySem.W.makesIn K c3 = true)
  (mkb_Give : PySem.W.findIn K (.ref c3) "__init__" = some (some (.ref f26)))
  (mkc_Give : PySem.W.isFn K (.ref f26) = true)
  (mkd_Give : PySem.W.keepIn K (.ref c3) = true)
  (mka_Buy : PySem.W.makesIn K c0 = true)
  (mkb_Buy : PySem.W.findIn K (.ref c0) "__init__" = some (some (.ref f28)))
  (mkc_Buy : PySem.W.isFn K (.ref f28) = true)
  (mkd_Buy : PySem.W.keepIn K (.ref c0) = true)
  (mka_Gift : PySem.W.makesIn K c2 = true)
  (mkb_Gift : PySem.W.findIn K (.ref c2) "__init__" = some (some (.ref f29)))
  (mkc_Gift : PySem.W.isFn K (.ref f29) = true)
  (mkd_Gift : PySem.W.keepIn K (.ref c2) = true)
  (mka_Split : PySem.W.makesIn K c4 = true)
  (mkb_Split : PySem.W.findIn K (.ref c4) "__init__" = some (some (.ref f30)))
  (mkc_Split : PySem.W.isFn K (.ref f30) = true)
  (mkd_Split : PySem.W.keepIn K (.ref c4) = true)
  (mka_Parting : PySem.W.makesIn K c5 = true)
  (mkb_Parting : PySem.W.findIn K (.ref c5) "__init__" = some (some (.ref f31)))
  (mkc_Parting : PySem.W.isFn K (.ref f31) = true)
  (mkd_Parting : PySem.W.keepIn K (.ref c5) = true)
  (mka_Sell : PySem.W.makesIn K c1 = true)
  (mkb_Sell : PySem.W.findIn K (.ref c1) "__init__" = some (some (.ref f32)))
  (mkc_Sell : PySem.W.isFn K (.ref f32) = true)
  (mkd_Sell : PySem.W.keepIn K (.ref c1) = true)
  (mea_Buy_word : PySem.W.findIn K (.ref c0) "word" = some (some (.ref f6)))
  (meb_Buy_word : PySem.W.isFn K (.ref f6) = true)
  (mea_Sell_word : PySem.W.findIn K (.ref c1) "word" = some (some (.ref f9)))
  (meb_Sell_word : PySem.W.isFn K (.ref f9) = true)
  (mea_Gift_word : PySem.W.findIn K (.ref c2) "word" = some (some (.ref f11)))
  (meb_Gift_word : PySem.W.isFn K (.ref f11) = true)
  (mea_Give_word : PySem.W.findIn K (.ref c3) "word" = some (some (.ref f13)))
  (meb_Give_word : PySem.W.isFn K (.ref f13) = true)
  (mea_Split_word : PySem.W.findIn K (.ref c4) "word" = some (some (.ref f15)))
  (meb_Split_word : PySem.W.isFn K (.ref f15) = true)
  (mea_Parting_word : PySem.W.findIn K (.ref c5) "word" = some (some (.ref f17)))
  (meb_Parting_word : PySem.W.isFn K (.ref f17) = true)
  (mea_Buy_told : PySem.W.findIn K (.ref c0) "told" = some (some (.ref f7)))
  (meb_Buy_told : PySem.W.isFn K (.ref f7) = true)
  (mea_Sell_told : PySem.W.findIn K (.ref c1) "told" = some (some (.ref f10)))
  (meb_Sell_told : PySem.W.isFn K (.ref f10) = true)
  (mea_Gift_told : PySem.W.findIn K (.ref c2) "told" = some (some (.ref f12)))
  (meb_Gift_told : PySem.W.isFn K (.ref f12) = true)
  (mea_Give_told : PySem.W.findIn K (.ref c3) "told" = some (some (.ref f14)))
  (meb_Give_told : PySem.W.isFn K (.ref f14) = true)
  (mea_Split_told : PySem.W.findIn K (.ref c4) "told" = some (some (.ref f16)))
  (meb_Split_told : PySem.W.isFn K (.ref f16) = true)
  (mea_Parting_told : PySem.W.findIn K (.ref c5) "told" = some (some (.ref f18)))
  (meb_Parting_told : PySem.W.isFn K (.ref f18) = true)
  (cfa_Entry___init__ : PySem.W.specialIn K (.ref c7) "__getattribute__" = some (some (.builtin "type.__getattribute__")))
  (cfb_Entry___init__ : PySem.W.readsIn K c7 (.type "type") = true)
  (cfc_Entry___init__ : PySem.W.findCls K (.ref c7) (.type "type") "__init__" = some (.val (.ref f23)))
  (w_su_e : PySem.W.kitOne K (.ref c6) (.ref c17) = some true)
  (w_kx2 : PySem.W.kitOne K (.ref c6) (.type "ValueError") = some true)
  (w_kx3 : PySem.W.kitAny K (.ref c6) [.ref c8, .ref c9, .ref c10, .ref c11, .ref c12, .ref c13, .ref c14, .ref c15, .ref c16] = some false)
  : ∃ fd : FuncData, (∀ (s : Shared) (v : Value), BindsTo s fd ⟨[v], []⟩ [("_law_script", v)]) /\ ∀ base : Heap, K.In base -> base.Ns mainGlobals mg -> FnOk l.prog w K mg base CX0 8 fa fd ["_law_script"] (sp_law K) := by
 have e := hfa.symm.trans (PySem.W.mg_of X G a35)
 cases e
 have T : Txt K mg ⟨f0, f1, f2, f3, f4, f5, f6, f7, f8, f9, f10, f11, f12, f13, f14, f15, f16, f17, f18, f19, f20, f21, f22, f23, f24, f25, f26, f27, f28, f29, f30, f31, f32, f33, f34, fa, c0, c1, c2, c3, c4, c5, c6, c7, c8, c9, c10, c11, c12, c13, c14, c15, c16, c17, t_MOST_LETTERS, t_MOST_DAY, t_MOST_NUMBER, t_MOST_PIECES, t_MOST_PRICE, t_MOST_FEE, t_MOST_GIFT_COST, t_MOST_SPLIT, t_MOST_WHOLE⟩ ⟨_, _, _, _, _, _, _, _, _, _, _, _, _, _, _, _, _, _, _, _, _, _, _, _, _, _, _, _, _, _, _, _, _, _, _, _⟩ := ⟨PySem.W.mg_of X G a0, k0, fun_mk (st := s__law_digits) l0 d0 k0, PySem.W.mg_of X G a1, k1, fun_mk (st := s__law_cell_at) l1 d1 k1, PySem.W.mg_of X G a2, k2, fun_mk (st := s__law_good) l2 d2 k2, PySem.W.mg_of X G a3, k3, fun_mk (st := s__law_ranges) l3 d3 k3, PySem.W.mg_of X G a4, k4, fun_mk (st := s__law_bad_names) l4 d4 k4, PySem.W.mg_of X G a5, k5, fun_mk (st := s__law_bad) l5 d5 k5, fun_mk (st := s_Buy_word) l6 d6 k6, fun_mk (st := s_Buy_told) l7 d7 k7, PySem.W.mg_of X G a8, k8, fun_mk (st := s_named_told) l8 d8 k8, fun_mk (st := s_Sell_word) l9 d9 k9, fun_mk (st := s_Sell_told) l10 d10 k10, fun_mk (st := s_Gift_word) l11 d11 k11, fun_mk (st := s_Gift_told) l12 d12 k12, fun_mk (st := s_Give_word) l13 d13 k13, fun_mk (st := s_Give_told) l14 d14 k14, fun_mk (st := s_Split_word) l15 d15 k15, fun_mk (st := s_Split_told) l16 d16 k16, fun_mk (st := s_Parting_word) l17 d17 k17, fun_mk (st := s_Parting_told) l18 d18 k18, PySem.W.mg_of X G a19, k19, fun_mk (st := s_is_whole_number) l19 d19 k19, PySem.W.mg_of X G a20, k20, fun_mk (st := s_check_number) l20 d20 k20, PySem.W.mg_of X G a21, k21, fun_mk (st := s_is_name) l21 d21 k21, PySem.W.mg_of X G a22, k22, fun_mk (st := s_check_name) l22 d22 k22, fun_mk (st := s_Entry___init__) l23 d23 k23, PySem.W.mg_of X G a24, k24, fun_mk (st := s_check_named) l24 d24 k24, PySem.W.mg_of X G a25, k25, fun_mk (st := s_named_copy) l25 d25 k25, funD_mk (st := s_Give___init__) (its := [.none]) l26 d26 k26 lt26 rfl (.cons rfl .nil), PySem.W.mg_of X G a27, k27, fun_mk (st := s_check_trade) l27 d27 k27, funD_mk (st := s_Buy___init__) (its := [.int 0 tk28_0]) l28 d28 k28 lt28 rfl (.cons ⟨_, rfl⟩ .nil), fun_mk (st := s_Gift___init__) l29 d29 k29, fun_mk (st := s_Split___init__) l30 d30 k30, fun_mk (st := s_Parting___init__) l31 d31 k31, funD_mk (st := s_Sell___init__) (its := [.int 0 tk32_0, .none]) l32 d32 k32 lt32 rfl (.cons ⟨_, rfl⟩ (.cons rfl .nil)), PySem.W.mg_of X G a33, k33, fun_mk (st := s__law_made) l33 d33 k33, PySem.W.mg_of X G a34, k34, fun_mk (st := s__law_refused) l34 d34 k34, PySem.W.mg_of X G a35, k35, fun_mk (st := s_law) l35 d35 k35, PySem.W.mg_none_of X G z_len, PySem.W.mg_none_of X G z_max, PySem.W.mg_none_of X G z_sorted, PySem.W.mg_none_of X G z_tuple, PySem.W.mg_none_of X G z_isinstance, PySem.W.mg_none_of X G z_int, PySem.W.mg_none_of X G z_bool, PySem.W.mg_none_of X G z_all, PySem.W.mg_none_of X G z_str, PySem.W.mg_none_of X G z_list, PySem.W.mg_none_of X G z_sum, PySem.W.mg_none_of X G z_ValueError, PySem.W.mg_of X G u_Buy, PySem.W.mg_of X G u_Sell, PySem.W.mg_of X G u_Gift, PySem.W.mg_of X G u_Give, PySem.W.mg_of X G u_Split, PySem.W.mg_of X G u_Parting, PySem.W.mg_of X G u_NoEntry, PySem.W.mg_of X G u_Entry, PySem.W.mg_of X G u_Late, PySem.W.mg_of X G u_NoLot, PySem.W.mg_of X G u_NoNumber, PySem.W.mg_of X G u_NoPieces, PySem.W.mg_of X G u_NotHeld, PySem.W.mg_of X G u_NoText, PySem.W.mg_of X G u_NoWay, PySem.W.mg_of X G u_NoWeights, PySem.W.mg_of X G u_Twice, PySem.W.mg_of X G u_LotError, PySem.W.mg_of X G g_MOST_LETTERS, PySem.W.mg_of X G g_MOST_DAY, PySem.W.mg_of X G g_MOST_NUMBER, PySem.W.mg_of X G g_MOST_PIECES, PySem.W.mg_of X G g_MOST_PRICE, PySem.W.mg_of X G g_MOST_FEE, PySem.W.mg_of X G g_MOST_GIFT_COST, PySem.W.mg_of X G g_MOST_SPLIT, PySem.W.mg_of X G g_MOST_WHOLE, ⟨x_NoEntry⟩, ⟨ya_NoEntry, yb_NoEntry, yc_NoEntry⟩, ⟨x_NoPieces⟩, ⟨ya_NoPieces, yb_NoPieces, yc_NoPieces⟩, ⟨x_NoWay⟩, ⟨ya_NoWay, yb_NoWay, yc_NoWay⟩, ⟨x_NoWeights⟩, ⟨ya_NoWeights, yb_NoWeights, yc_NoWeights⟩, ⟨x_LotError⟩, ⟨ya_LotError, yb_LotError, yc_LotError⟩, ⟨pg_Buy, hd_Buy, po_Buy, sa_Buy⟩, ⟨⟨pg_Buy, hd_Buy, po_Buy, sa_Buy⟩, ha_Buy, oc_n, oc_t, hm_Buy⟩, n_Buy_day, n_Buy_number, n_Buy_ware, n_Buy_pieces, n_Buy_price, n_Buy_fee, n_Buy_cost, ⟨pg_Sell, hd_Sell, po_Sell, sa_Sell⟩, ⟨⟨pg_Sell, hd_Sell, po_Sell, sa_Sell⟩, ha_Sell, oc_n, oc_t, hm_Sell⟩, n_Sell_day, n_Sell_number, n_Sell_ware, n_Sell_pieces, n_Sell_price, n_Sell_fee, n_Sell_named, n_Sell_proceeds, ⟨pg_Gift, hd_Gift, po_Gift, sa_Gift⟩, ⟨⟨pg_Gift, hd_Gift, po_Gift, sa_Gift⟩, ha_Gift, oc_n, oc_t, hm_Gift⟩, n_Gift_day, n_Gift_number, n_Gift_ware, n_Gift_pieces, n_Gift_cost, n_Gift_since, ⟨pg_Give, hd_Give, po_Give, sa_Give⟩, ⟨⟨pg_Give, hd_Give, po_Give, sa_Give⟩, ha_Give, oc_n, oc_t, hm_Give⟩, n_Give_day, n_Give_number, n_Give_ware, n_Give_pieces, n_Give_named, ⟨pg_Split, hd_Split, po_Split, sa_Split⟩, ⟨⟨pg_Split, hd_Split, po_Split, sa_Split⟩, ha_Split, oc_n, oc_t, hm_Split⟩, n_Split_day, n_Split_number, n_Split_ware, n_Split_many, n_Split_of, ⟨pg_Parting, hd_Parting, po_Parting, sa_Parting⟩, ⟨⟨pg_Parting, hd_Parting, po_Parting, sa_Parting⟩, ha_Parting, oc_n, oc_t, hm_Parting⟩, n_Parting_day, n_Parting_number, n_Parting_ware, n_Parting_other, n_Parting_share, n_Parting_whole, ⟨pg_Entry, hd_Entry, po_Entry, sa_Entry⟩, ⟨⟨pg_Entry, hd_Entry, po_Entry, sa_Entry⟩, ha_Entry, oc_n, oc_t, hm_Entry⟩, n_Entry_day, n_Entry_number, n_Entry_ware, ⟨mka_Give, mkb_Give, mkc_Give, mkd_Give⟩, ⟨mka_Buy, mkb_Buy, mkc_Buy, mkd_Buy⟩, ⟨mka_Gift, mkb_Gift, mkc_Gift, mkd_Gift⟩, ⟨mka_Split, mkb_Split, mkc_Split, mkd_Split⟩, ⟨mka_Parting, mkb_Parting, mkc_Parting, mkd_Parting⟩, ⟨mka_Sell, mkb_Sell, mkc_Sell, mkd_Sell⟩, ⟨mea_Buy_word, meb_Buy_word, k6⟩, ⟨mea_Sell_word, meb_Sell_word, k9⟩, ⟨mea_Gift_word, meb_Gift_word, k11⟩, ⟨mea_Give_word, meb_Give_word, k13⟩, ⟨mea_Split_word, meb_Split_word, k15⟩, ⟨mea_Parting_word, meb_Parting_word, k17⟩, ⟨mea_Buy_told, meb_Buy_told, k7⟩, ⟨mea_Sell_told, meb_Sell_told, k10⟩, ⟨mea_Gift_told, meb_Gift_told, k12⟩, ⟨mea_Give_told, meb_Give_told, k14⟩, ⟨mea_Split_told, meb_Split_told, k16⟩, ⟨mea_Parting_told, meb_Parting_told, k18⟩, ⟨cfa_Entry___init__, cfb_Entry___init__, cfc_Entry___init__⟩, w_su_e, w_kx2, w_kx3⟩
 exact ⟨_, fun s v => .of_eq rfl, fun base _ _ => ok_law T⟩
theorem walk {l : PySem.W.OpenLaw} {q : Program} {loose : List Str} {XP : (Str -> Option Value) -> Heap -> Prop} {YP : World -> Heap -> Prop} {d : DefRec} {K : Params -> Fg_} (hn : l.most = some 63) (hdf : d.params.defaults = [])
  (hY : ∀ (w : World) (h : Heap), YP w h -> (K w.params).In h)
  (F : ∀ (w : World) (mg : Str -> Option Value) (fa : Addr) (h : Heap), (K w.params).In h -> h.Ns mainGlobals mg -> mg d.name = some (.ref fa) ->
   ∃ fd : FuncData, (∀ (s : Shared) (u : Value), BindsTo s fd ⟨[u], []⟩ [("_law_script", u)]) /\ ∀ base : Heap, (K w.params).In base -> base.Ns mainGlobals mg -> FnOk l.prog w (K w.params) mg base CX0 8 fa fd ["_law_script"] (sp_law (K w.params))) :
  PySem.W.WalkO q loose XP YP l.row.toRowW d [] (fun f vs => PySem.call f vs) :=
 L2.walk_of (n := 63) (k := 8) (x := "_law_script") (CX := fun _ => CX0) (sp := fun w => sp_law (K w.params)) hn (by decide) hdf ⟨rfl, by decide, by decide⟩ hY F (fun _ _ a ns hl _ hS => ⟨a, ns, rfl, hS, hl, fun _ => rfl⟩) fun _ _ _ _ _ z => z
end My
namespace PySem.W.Fast
def tw5427246365094774172:=0
def tw15044941929066001247:=0
def tw16758980684474541000:=0
def tw9748403229499788951:=0
def tw8251261636848338078:=0
def tw5480257683458412459:=0
def tw2404654102521976562:=0
def tw3501734588902032996:=0
def tw15453324058756069505:=0
def tw6307541828125328297:=0
def tw5911105130513570860:=0
def tw2752705171066383381:=0
def tw10113969974990631645:=0
def tw3708272203665737560:=0
def tw14723112058699602136:=0
def tw8182804293243083382:=0
def tw12450363121791743125:=0
def tw8198963388890801400:=0
def tw4876431176571841822:=0
def tw13328963492151157021:=0
def tw1420787566638126255:=0
def tw15994283951702843188:=0
def tw17544388962580547008:=0
def tw13731462387854946188:=0
def tw4598941110105347483:=0
def tw5176913090165939799:=0
def tw3450350197822129379:=0
def tw8639089496635924129:=0
def tw998803257976416658:=0
def tw15952971824394263609:=0
def tw17082224981138821740:=0
def tw6542129308373092109:=0
def tw9696615791892292105:=0
def tw17205862968444913729:=0
def tw17323627451666950582:=0
def tw7236989511342498025:=0
def tw7271981341157247761:=0
def tw213368048374774545:=0
def tw15279856902144144079:=0
def tw8874507353769681069:=0
def tw17670870081481963582:=0
def tw1256935681423283822:=0
def tw17992448575281057201:=0
def tw1023720689303164512:=0
def tw7307978489229863393:=0
def tw14498611558534247601:=0
def tw4336847162722595087:=0
def tw14054441301943478515:=0
def tw9368330766604379698:=0
def tw8171179596825292095:=0
def tw14520257470721408093:=0
def tw7216514996027807873:=0
def tw17625796825115729917:=0
def tw17309386710953771149:=0
def tw106593892299235619:=0
def tw7244026608309185998:=0
def tw5900752891353941580:=0
def tw9545484731448211783:=0
def tw4498250081582579576:=0
def tw3433368344065594549:=0
def tw3340263511658301268:=0
def tw11705673890312909830:=0
def tw10970417998114178629:=0
def tw15093176292162027486:=0
def tw15946963040015601219:=0
def tw3069743159840733248:=0
def tw2465977478190634492:=0
def tw13987530455065823550:=0
def tw11963599810979259588:=0
def tw18048172404837759871:=0
def tw15051753890335779619:=0
def tw15226772748010149154:=0
def tw10854042346907143640:=0
def tw555705296119509850:=0
def tw325841605228836503:=0
def tw11064746660563189899:=0
def tw9360037925105584109:=0
def tw16786234157781586472:=0
def tw16058313168569843134:=0
def tw11474444319129388165:=0
def tw2759084239705013054:=0
def tw2209169305738582388:=0
def tw4241290660658510986:=0
def tw4319299105448849081:=0
def tw7094246031240071027:=0
def tw9959207203640438082:=0
def tw106957234104850822:=0
def tw12988861188957455816:=0
def tw991558902623809614:=0
def tw6782701605256411119:=0
def tw17459677664933056931:=0
def tw10852995336213777862:=0
def tw377426064847929962:=0
def tw1140171553574437403:=0
def tw14395737406094899956:=0
def tw9663625059953435508:=0
def tw7712530940922557188:=0
def tw514007159437441904:=0
def tw15762387183425887726:=0
def tw9536551440252699878:=0
def tw6388223673305876108:=0
def tw305376013931303182:=0
def tw2574989262914445031:=0
def tw12208154607076233335:=0
def tw2242311200918568416:=0
def tw213103575920240404:=0
def tw12586349897217037035:=0
def tw13821704634444611651:=0
def tw7987757228993943320:=0
def tw16634406934266054850:=0
def tw13991780969222809775:=0
def tw15233685855845252766:=0
def tw17007798154410819232:=0
def tw9719084597680648685:=0
def tw8946688535008437781:=0
def tw18279657196691292384:=0
def tw12511567424974026403:=0
def tw5532325778814949745:=0
def tw9904608988318970783:=0
def tw17973580588436264994:=0
def tw14289592165010769585:=0
def tw13396536744452071184:=0
def tw17228907552526055778:=0
def tw6147501788915863373:=0
def tw580520089151967011:=0
def tw4582623324904789679:=0
def tw7133191460731132320:=0
def tw16093403645499490904:=0
def tw4851311772372563430:=0
def tw13491484782411688692:=0
def tw15010994269315200870:=0
def tw13476753507271051739:=0
def tw16492827122364125912:=0
def tw14158357355449591572:=0
def tw7063531891564085356:=0
def tw6801767894678006388:=0
def tw1960742515523459052:=0
def tw14941547261217764238:=0
def tw16474377777987837006:=0
end PySem.W.Fast
open PySem PySem.W PyProof.Rows
set_option maxRecDepth 100000 in
set_option maxHeartbeats 0 in
theorem PySem.Challenge.cw_lotledger_k11_no_entry_holds : PySem.Challenge.rw_lotledger_k11_no_entry.Holds := by
 w_on; o_law; k_head; (case hw => w_witness2)
 k_fill
 refine My.walk (l := PySem.Challenge.rw_lotledger_k11_no_entry) rfl rfl (fun w h Y => PySem.W.kIn_of Y) ?F
 case F =>
  intro w mg fa h KX G hmg
  refine' My.all_mk KX G hmg ?u_Buy ?u_Sell ?u_Gift ?u_Give ?u_Split ?u_Parting ?u_NoEntry ?u_Entry ?u_Late ?u_NoLot ?u_NoNumber ?u_NoPieces ?u_NotHeld ?u_NoText ?u_NoWay ?u_NoWeights ?u_Twice ?u_LotError ?a0 ?l0 ?d0 ?k0 ?a1 ?l1 ?d1 ?k1 ?a2 ?l2 ?d2 ?k2 ?a3 ?l3 ?d3 ?k3 ?a4 ?l4 ?d4 ?k4 ?a5 ?l5 ?d5 ?k5 ?a6 ?l6 ?d6 ?k6 ?a7 ?l7 ?d7 ?k7 ?a8 ?l8 ?d8 ?k8 ?a9 ?l9 ?d9 ?k9 ?a10 ?l10 ?d10 ?k10 ?a11 ?l11 ?d11 ?k11 ?a12 ?l12 ?d12 ?k12 ?a13 ?l13 ?d13 ?k13 ?a14 ?l14 ?d14 ?k14 ?a15 ?l15 ?d15 ?k15 ?a16 ?l16 ?d16 ?k16 ?a17 ?l17 ?d17 ?k17 ?a18 ?l18 ?d18 ?k18 ?a19 ?l19 ?d19 ?k19 ?a20 ?l20 ?d20 ?k20 ?a21 ?l21 ?d21 ?k21 ?a22 ?l22 ?d22 ?k22 ?a23 ?l23 ?d23 ?k23 ?a24 ?l24 ?d24 ?k24 ?a25 ?l25 ?d25 ?k25 ?a26 ?l26 ?d26 ?k26 ?lt26 ?a27 ?l27 ?d27 ?k27 ?a28 ?l28 ?d28 ?k28 ?lt28 ?a29 ?l29 ?d29 ?k29 ?a30 ?l30 ?d30 ?k30 ?a31 ?l31 ?d31 ?k31 ?a32 ?l32 ?d32 ?k32 ?lt32 ?a33 ?l33 ?d33 ?k33 ?a34 ?l34 ?d34 ?k34 ?a35 ?l35 ?d35 ?k35 ?z_len ?z_max ?z_sorted ?z_tuple ?z_isinstance ?z_int ?z_bool ?z_all ?z_str ?z_list ?z_sum ?z_ValueError ?g_MOST_LETTERS ?g_MOST_DAY ?g_MOST_NUMBER ?g_MOST_PIECES ?g_MOST_PRICE ?g_MOST_FEE ?g_MOST_GIFT_COST ?g_MOST_SPLIT ?g_MOST_WHOLE ?x_NoEntry ?ya_NoEntry ?yb_NoEntry ?yc_NoEntry ?x_NoPieces ?ya_NoPieces ?yb_NoPieces ?yc_NoPieces ?x_NoWay ?ya_NoWay ?yb_NoWay ?yc_NoWay ?x_NoWeights ?ya_NoWeights ?yb_NoWeights ?yc_NoWeights ?x_LotError ?ya_LotError ?yb_LotError ?yc_LotError ?oc_n ?oc_t ?pg_Buy ?hd_Buy ?po_Buy ?sa_Buy ?ha_Buy ?hm_Buy ?n_Buy_day ?n_Buy_number ?n_Buy_ware ?n_Buy_pieces ?n_Buy_price ?n_Buy_fee ?n_Buy_cost ?pg_Sell ?hd_Sell ?po_Sell ?sa_Sell ?ha_Sell ?hm_Sell ?n_Sell_day ?n_Sell_number ?n_Sell_ware ?n_Sell_pieces ?n_Sell_price ?n_Sell_fee ?n_Sell_named ?n_Sell_proceeds ?pg_Gift ?hd_Gift ?po_Gift ?sa_Gift ?ha_Gift ?hm_Gift ?n_Gift_day ?n_Gift_number ?n_Gift_ware ?n_Gift_pieces ?n_Gift_cost ?n_Gift_since ?pg_Give ?hd_Give ?po_Give ?sa_Give ?ha_Give ?hm_Give ?n_Give_day ?n_Give_number ?n_Give_ware ?n_Give_pieces ?n_Give_named ?pg_Split ?hd_Split ?po_Split ?sa_Split ?ha_Split ?hm_Split ?n_Split_day ?n_Split_number ?n_Split_ware ?n_Split_many ?n_Split_of ?pg_Parting ?hd_Parting ?po_Parting ?sa_Parting ?ha_Parting ?hm_Parting ?n_Parting_day ?n_Parting_number ?n_Parting_ware ?n_Parting_other ?n_Parting_share ?n_Parting_whole ?pg_Entry ?hd_Entry ?po_Entry ?sa_Entry ?ha_Entry ?hm_Entry ?n_Entry_day ?n_Entry_number ?n_Entry_ware ?mka_Give ?mkb_Give ?mkc_Give ?mkd_Give ?mka_Buy ?mkb_Buy ?mkc_Buy ?mkd_Buy ?mka_Gift ?mkb_Gift ?mkc_Gift ?mkd_Gift ?mka_Split ?mkb_Split ?mkc_Split ?mkd_Split ?mka_Parting ?mkb_Parting ?mkc_Parting ?mkd_Parting ?mka_Sell ?mkb_Sell ?mkc_Sell ?mkd_Sell ?mea_Buy_word ?meb_Buy_word ?mea_Sell_word ?meb_Sell_word ?mea_Gift_word ?meb_Gift_word ?mea_Give_word ?meb_Give_word ?mea_Split_word ?meb_Split_word ?mea_Parting_word ?meb_Parting_word ?mea_Buy_told ?meb_Buy_told ?mea_Sell_told ?meb_Sell_told ?mea_Gift_told ?meb_Gift_told ?mea_Give_told ?meb_Give_told ?mea_Split_told ?meb_Split_told ?mea_Parting_told ?meb_Parting_told ?cfa_Entry___init__ ?cfb_Entry___init__ ?cfc_Entry___init__ ?w_su_e ?w_kx2 ?w_kx3
  (case u_Buy => k_is)
  (case u_Sell => k_is)
  (case u_Gift => k_is)
  (case u_Give => k_is)
  (case u_Split => k_is)
  (case u_Parting => k_is)
  (case u_NoEntry => k_is)
  (case u_Entry => k_is)
  (case u_Late => k_is)
  (case u_NoLot => k_is)
  (case u_NoNumber => k_is)
  (case u_NoPieces => k_is)
  (case u_NotHeld => k_is)
  (case u_NoText => k_is)
  (case u_NoWay => k_is)
  (case u_NoWeights => k_is)
  (case u_Twice => k_is)
  (case u_LotError => k_is)
  (case a0 => k_is)
  (case l0 => k_is)
  (case d0 => k_is)
  (case k0 => k_is)
  (case a1 => k_is)
  (case l1 => k_is)
  (case d1 => k_is)
  (case k1 => k_is)
  (case a2 => k_is)
  (case l2 => k_is)
  (case d2 => k_is)
  (case k2 => k_is)
  (case a3 => k_is)
  (case l3 => k_is)
  (case d3 => k_is)
  (case k3 => k_is)
  (case a4 => k_is)
  (case l4 => k_is)
  (case d4 => k_is)
  (case k4 => k_is)
  (case a5 => k_is)
  (case l5 => k_is)
  (case d5 => k_is)
  (case k5 => k_is)
  (case a6 => k_is)
  (case l6 => k_is)
  (case d6 => k_is)
  (case k6 => k_is)
  (case a7 => k_is)
  (case l7 => k_is)
  (case d7 => k_is)
  (case k7 => k_is)
  (case a8 => k_is)
  (case l8 => k_is)
  (case d8 => k_is)
  (case k8 => k_is)
  (case a9 => k_is)
  (case l9 => k_is)
  (case d9 => k_is)
  (case k9 => k_is)
  (case a10 => k_is)
  (case l10 => k_is)
  (case d10 => k_is)
  (case k10 => k_is)
  (case a11 => k_is)
  (case l11 => k_is)
  (case d11 => k_is)
  (case k11 => k_is)
  (case a12 => k_is)
  (case l12 => k_is)
  (case d12 => k_is)
  (case k12 => k_is)
  (case a13 => k_is)
  (case l13 => k_is)
  (case d13 => k_is)
  (case k13 => k_is)
  (case a14 => k_is)
  (case l14 => k_is)
  (case d14 => k_is)
  (case k14 => k_is)
  (case a15 => k_is)
  (case l15 => k_is)
  (case d15 => k_is)
  (case k15 => k_is)
  (case a16 => k_is)
  (case l16 => k_is)
  (case d16 => k_is)
  (case k16 => k_is)
  (case a17 => k_is)
  (case l17 => k_is)
  (case d17 => k_is)
  (case k17 => k_is)
  (case a18 => k_is)
  (case l18 => k_is)
  (case d18 => k_is)
  (case k18 => k_is)
  (case a19 => k_is)
  (case l19 => k_is)
  (case d19 => k_is)
  (case k19 => k_is)
  (case a20 => k_is)
  (case l20 => k_is)
  (case d20 => k_is)
  (case k20 => k_is)
  (case a21 => k_is)
  (case l21 => k_is)
  (case d21 => k_is)
  (case k21 => k_is)
  (case a22 => k_is)
  (case l22 => k_is)
  (case d22 => k_is)
  (case k22 => k_is)
  (case a23 => k_is)
  (case l23 => k_is)
  (case d23 => k_is)
  (case k23 => k_is)
  (case a24 => k_is)
  (case l24 => k_is)
  (case d24 => k_is)
  (case k24 => k_is)
  (case a25 => k_is)
  (case l25 => k_is)
  (case d25 => k_is)
  (case k25 => k_is)
  (case a26 => k_is)
  (case l26 => k_is)
  (case d26 => k_is)
  (case k26 => k_is)
  (case lt26 => k_is)
  (case a27 => k_is)
  (case l27 => k_is)
  (case d27 => k_is)
  (case k27 => k_is)
  (case a28 => k_is)
  (case l28 => k_is)
  (case d28 => k_is)
  (case k28 => k_is)
  (case lt28 => k_is)
  (case a29 => k_is)
  (case l29 => k_is)
  (case d29 => k_is)
  (case k29 => k_is)
  (case a30 => k_is)
  (case l30 => k_is)
  (case d30 => k_is)
  (case k30 => k_is)
  (case a31 => k_is)
  (case l31 => k_is)
  (case d31 => k_is)
  (case k31 => k_is)
  (case a32 => k_is)
  (case l32 => k_is)
  (case d32 => k_is)
  (case k32 => k_is)
  (case lt32 => k_is)
  (case a33 => k_is)
  (case l33 => k_is)
  (case d33 => k_is)
  (case k33 => k_is)
  (case a34 => k_is)
  (case l34 => k_is)
  (case d34 => k_is)
  (case k34 => k_is)
  (case a35 => k_is)
  (case l35 => k_is)
  (case d35 => k_is)
  (case k35 => k_is)
  (case z_len => k_is)
  (case z_max => k_is)
  (case z_sorted => k_is)
  (case z_tuple => k_is)
  (case z_isinstance => k_is)
  (case z_int => k_is)
  (case z_bool => k_is)
  (case z_all => k_is)
  (case z_str => k_is)
  (case z_list => k_is)
  (case z_sum => k_is)
  (case z_ValueError => k_is)
  (case g_MOST_LETTERS => k_is)
  (case g_MOST_DAY => k_is)
  (case g_MOST_NUMBER => k_is)
  (case g_MOST_PIECES => k_is)
  (case g_MOST_PRICE => k_is)
  (case g_MOST_FEE => k_is)
  (case g_MOST_GIFT_COST => k_is)
  (case g_MOST_SPLIT => k_is)
  (case g_MOST_WHOLE => k_is)
  (case x_NoEntry => k_exc)
  (case ya_NoEntry => k_is)
  (case yb_NoEntry => k_is)
  (case yc_NoEntry => k_is)
  (case x_NoPieces => k_exc)
  (case ya_NoPieces => k_is)
  (case yb_NoPieces => k_is)
  (case yc_NoPieces => k_is)
  (case x_NoWay => k_exc)
  (case ya_NoWay => k_is)
  (case yb_NoWay => k_is)
  (case yc_NoWay => k_is)
  (case x_NoWeights => k_exc)
  (case ya_NoWeights => k_is)
  (case yb_NoWeights => k_is)
  (case yc_NoWeights => k_is)
  (case x_LotError => k_exc)
  (case ya_LotError => k_is)
  (case yb_LotError => k_is)
  (case yc_LotError => k_is)
  (case oc_n => k_is)
  (case oc_t => k_is)
  (case pg_Buy => k_is)
  (case hd_Buy => k_is)
  (case po_Buy => k_is)
  (case sa_Buy => k_is)
  (case ha_Buy => k_is)
  (case hm_Buy => k_is)
  (case n_Buy_day => k_is)
  (case n_Buy_number => k_is)
  (case n_Buy_ware => k_is)
  (case n_Buy_pieces => k_is)
  (case n_Buy_price => k_is)
  (case n_Buy_fee => k_is)
  (case n_Buy_cost => k_is)
  (case pg_Sell => k_is)
  (case hd_Sell => k_is)
  (case po_Sell => k_is)
  (case sa_Sell => k_is)
  (case ha_Sell => k_is)
  (case hm_Sell => k_is)
  (case n_Sell_day => k_is)
  (case n_Sell_number => k_is)
  (case n_Sell_ware => k_is)
  (case n_Sell_pieces => k_is)
  (case n_Sell_price => k_is)
  (case n_Sell_fee => k_is)
  (case n_Sell_named => k_is)
  (case n_Sell_proceeds => k_is)
  (case pg_Gift => k_is)
  (case hd_Gift => k_is)
  (case po_Gift => k_is)
  (case sa_Gift => k_is)
  (case ha_Gift => k_is)
  (case hm_Gift => k_is)
  (case n_Gift_day => k_is)
  (case n_Gift_number => k_is)
  (case n_Gift_ware => k_is)
  (case n_Gift_pieces => k_is)
  (case n_Gift_cost => k_is)
  (case n_Gift_since => k_is)
  (case pg_Give => k_is)
  (case hd_Give => k_is)
  (case po_Give => k_is)
  (case sa_Give => k_is)
  (case ha_Give => k_is)
  (case hm_Give => k_is)
  (case n_Give_day => k_is)
  (case n_Give_number => k_is)
  (case n_Give_ware => k_is)
  (case n_Give_pieces => k_is)
  (case n_Give_named => k_is)
  (case pg_Split => k_is)
  (case hd_Split => k_is)
  (case po_Split => k_is)
  (case sa_Split => k_is)
  (case ha_Split => k_is)
  (case hm_Split => k_is)
  (case n_Split_day => k_is)
  (case n_Split_number => k_is)
  (case n_Split_ware => k_is)
  (case n_Split_many => k_is)
  (case n_Split_of => k_is)
  (case pg_Parting => k_is)
  (case hd_Parting => k_is)
  (case po_Parting => k_is)
  (case sa_Parting => k_is)
  (case ha_Parting => k_is)
  (case hm_Parting => k_is)
  (case n_Parting_day => k_is)
  (case n_Parting_number => k_is)
  (case n_Parting_ware => k_is)
  (case n_Parting_other => k_is)
  (case n_Parting_share => k_is)
  (case n_Parting_whole => k_is)
  (case pg_Entry => k_is)
  (case hd_Entry => k_is)
  (case po_Entry => k_is)
  (case sa_Entry => k_is)
  (case ha_Entry => k_is)
  (case hm_Entry => k_is)
  (case n_Entry_day => k_is)
  (case n_Entry_number => k_is)
  (case n_Entry_ware => k_is)
  (case mka_Give => k_is)
  (case mkb_Give => k_is)
  (case mkc_Give => k_is)
  (case mkd_Give => k_is)
  (case mka_Buy => k_is)
  (case mkb_Buy => k_is)
  (case mkc_Buy => k_is)
  (case mkd_Buy => k_is)
  (case mka_Gift => k_is)
  (case mkb_Gift => k_is)
  (case mkc_Gift => k_is)
  (case mkd_Gift => k_is)
  (case mka_Split => k_is)
  (case mkb_Split => k_is)
  (case mkc_Split => k_is)
  (case mkd_Split => k_is)
  (case mka_Parting => k_is)
  (case mkb_Parting => k_is)
  (case mkc_Parting => k_is)
  (case mkd_Parting => k_is)
  (case mka_Sell => k_is)
  (case mkb_Sell => k_is)
  (case mkc_Sell => k_is)
  (case mkd_Sell => k_is)
  (case mea_Buy_word => k_is)
  (case meb_Buy_word => k_is)
  (case mea_Sell_word => k_is)
  (case meb_Sell_word => k_is)
  (case mea_Gift_word => k_is)
  (case meb_Gift_word => k_is)
  (case mea_Give_word => k_is)
  (case meb_Give_word => k_is)
  (case mea_Split_word => k_is)
  (case meb_Split_word => k_is)
  (case mea_Parting_word => k_is)
  (case meb_Parting_word => k_is)
  (case mea_Buy_told => k_is)
  (case meb_Buy_told => k_is)
  (case mea_Sell_told => k_is)
  (case meb_Sell_told => k_is)
  (case mea_Gift_told => k_is)
  (case meb_Gift_told => k_is)
  (case mea_Give_told => k_is)
  (case meb_Give_told => k_is)
  (case mea_Split_told => k_is)
  (case meb_Split_told => k_is)
  (case mea_Parting_told => k_is)
  (case meb_Parting_told => k_is)
  (case cfa_Entry___init__ => k_is)
  (case cfb_Entry___init__ => k_is)
  (case cfc_Entry___init__ => k_is)
  (case w_su_e => kit_is)
  (case w_kx2 => kit_is)
  (case w_kx3 => kit_is)
