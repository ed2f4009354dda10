import PyProof.Rows.All
import Wide.All
import OpenK.AllK
import Wide.FinOn
import Lean
import PyProof.EqAt
import PyProof.EqKinds
import PyProof.NeKinds
import PyProof.TupleCall
import PySem.Challenge.RW_lotledger_k50_bought_and_brought
set_option Elab.async false
set_option linter.all false
set_option maxRecDepth 100000
set_option maxHeartbeats 4000000
abbrev Fg_ := PySem.W.Frag
namespace L2
open PySem PySem.Spec PyProof.Rows
abbrev Key := Sum Int Str
def keyIs : Key -> Value -> Bool
 | .inl k, v => Value.isInt k v
 | .inr x, v => Value.isStrOf x v
def keyH (w : World) : Key -> Int
 | .inl k => hashInt k
 | .inr x => hashStr w x
theorem keyIs_shape : ∀ {k : Key} {v : Value}, keyIs k v = true -> (∃ i t, k = Sum.inl i /\ v = Value.int i t) \/ (∃ x t, k = Sum.inr x /\ v = Value.str x t)
 | .inl i, v, h => by
  obtain ⟨t, e⟩ := Value.isInt_shape (k := i) (v := v) h
  exact .inl ⟨i, t, rfl, e⟩
 | .inr x, v, h => by
  obtain ⟨t, e⟩ := Value.isStrOf_shape (x := x) (v := v) h
  exact .inr ⟨x, t, rfl, e⟩
theorem keyIs_int (i : Int) (t : Tok) : keyIs (.inl i) (.int i t) = true := by simp [keyIs, Value.isInt]
theorem keyIs_str (x : Str) (t : Tok) : keyIs (.inr x) (.str x t) = true := by simp [keyIs, Value.isStrOf]
theorem key_ll (a b : Int) : decide ((Sum.inl a : Key) = Sum.inl b) = (a == b) := by
 by_cases e : a = b
 ·subst e; simp
 ·have h : ¬ (Sum.inl a : Key) = Sum.inl b := fun q => e (Sum.inl.inj q)
  rw [decide_eq_false h]
  exact (beq_eq_false_iff_ne.mpr e).symm
theorem key_rr (a b : Str) : decide ((Sum.inr a : Key) = Sum.inr b) = decide (a = b) := by
 by_cases e : a = b
 ·subst e; simp
 ·have h : ¬ (Sum.inr a : Key) = Sum.inr b := fun q => e (Sum.inr.inj q)
  rw [decide_eq_false h, decide_eq_false e]
theorem key_lr (a : Int) (b : Str) : decide ((Sum.inl a : Key) = Sum.inr b) = false := decide_eq_false (fun q => nomatch q)
theorem key_rl (a : Str) (b : Int) : decide ((Sum.inr a : Key) = Sum.inl b) = false := decide_eq_false (fun q => nomatch q)
def mixKind (prog : Program) (w : World) : PySem.KeyKind prog w Key where
 is := keyIs
 hash := keyH w
 inj := fun v a b ha hb => by
  rcases keyIs_shape ha with ⟨i, t, rfl, rfl⟩ | ⟨x, t, rfl, rfl⟩
  ·rcases keyIs_shape hb with ⟨j, u, rfl, e⟩ | ⟨y, u, rfl, e⟩
   ·injection e with e1 _; rw [e1]
   ·exact nomatch e
  ·rcases keyIs_shape hb with ⟨j, u, rfl, e⟩ | ⟨y, u, rfl, e⟩
   ·exact nomatch e
   ·injection e with e1 _; rw [e1]
 byValue := fun k v h => by
  rcases keyIs_shape h with ⟨i, t, rfl, rfl⟩ | ⟨x, t, rfl, rfl⟩ <;> rfl
 pyHash := fun hv h => by
  rcases keyIs_shape hv with ⟨i, t, rfl, rfl⟩ | ⟨x, t, rfl, rfl⟩
  ·exact wpAny_pyHash_int h
  ·exact wpAny_pyHash_str h
 eqBool := fun hu hv h => by
  rcases keyIs_shape hu with ⟨i, t, rfl, rfl⟩ | ⟨x, t, rfl, rfl⟩
  ·rcases keyIs_shape hv with ⟨j, u, rfl, rfl⟩ | ⟨y, u, rfl, rfl⟩
   ·rw [key_ll] at h; exact wpAny_eqBool_int h
   ·rw [key_lr] at h; exact SeqAt.EqAt.int_str i t y u _ _ _ _ h
  ·rcases keyIs_shape hv with ⟨j, u, rfl, rfl⟩ | ⟨y, u, rfl, rfl⟩
   ·rw [key_rl] at h; exact SeqAt.EqAt.str_int x t j u _ _ _ _ h
   ·rw [key_rr] at h; exact wpAny_eqBool_str h
 «strs» := fun k x t v h => by
  rcases keyIs_shape h with ⟨i, u, rfl, e⟩ | ⟨y, u, rfl, e⟩
  ·exact nomatch e
  ·injection e with e1 _
   subst e1
   cases v <;> rfl
theorem mixKind_int (prog : Program) (w : World) (i : Int) (t : Tok) : (mixKind prog w).is (.inl i) (.int i t) = true := keyIs_int i t
theorem mixKind_str (prog : Program) (w : World) (x : Str) (t : Tok) : (mixKind prog w).is (.inr x) (.str x t) = true := keyIs_str x t
end L2
namespace L2
open PySem PySem.Spec PyProof.Rows
inductive V where
 | non | bl (b : Bool) | int (i : Int) | str (x : Str) | byt (b : Array UInt8) | flt (b : UInt64) | ref (a : Addr) | ty (n : String)
 deriving DecidableEq
def RelV : V -> Value -> Prop
 | .non, u => u = Value.none
 | .bl b, u => u = Value.bool b
 | .int i, u => ∃ t, u = Value.int i t
 | .str x, u => ∃ t, u = Value.str x t
 | .byt b, u => ∃ t, u = Value.bytes b t
 | .flt b, u => ∃ t, u = Value.float b t
 | .ref a, u => u = Value.ref a
 | .ty n, u => u = Value.type n
abbrev Vals : List V -> List Value -> Prop := Paired RelV
theorem Vals.length {xs : List V} {us : List Value} (r : Vals xs us) : xs.length = us.length := Paired.length r
theorem Vals.get : ∀ {xs : List V} {us : List Value} {i : Nat} {x : V}, Vals xs us -> xs[i]? = some x -> ∃ u, us[i]? = some u /\ RelV x u
 | _, _, _, _, .nil, e => by simp at e
 | _, _, 0, _, .cons r _, e => by simp at e; subst e; exact ⟨_, rfl, r⟩
 | _, _, i + 1, x, .cons _ t, e => by
  obtain ⟨u, h1, h2⟩ := Vals.get (i := i) (x := x) t (by simpa using e)
  exact ⟨u, by simpa using h1, h2⟩
theorem Vals.append : ∀ {xs ys : List V} {us ws : List Value}, Vals xs us -> Vals ys ws -> Vals (xs ++ ys) (us ++ ws)
 | _, _, _, _, .nil, s => s
 | _, _, _, _, .cons r t, s => .cons r (Vals.append t s)
theorem Vals.take : ∀ {xs : List V} {us : List Value} (n : Nat), Vals xs us -> Vals (xs.take n) (us.take n)
 | _, _, 0, _ => .nil
 | _, _, _ + 1, .nil => .nil
 | _, _, n + 1, .cons r t => .cons r (Vals.take n t)
theorem Vals.drop : ∀ {xs : List V} {us : List Value} (n : Nat), Vals xs us -> Vals (xs.drop n) (us.drop n)
 | _, _, 0, r => r
 | _, _, _ + 1, .nil => .nil
 | _, _, n + 1, .cons _ t => Vals.drop n t
def RelO : Option V -> Option Value -> Prop
 | some v, some u => RelV v u
 | none, none => True
 | _, _ => False
def KV {κ : Type} : List (κ × V) -> List (κ × Value) -> Prop := Paired fun (p : κ × V) (q : κ × Value) => p.1 = q.1 /\ RelV p.2 q.2
def kV : Key -> V
 | .inl i => .int i
 | .inr x => .str x
inductive HO where
 | lst (xs : List V)
 | tup (xs : List V)
 | dK (kvs : List (Key × V)) | dT (kvs : List (List Key × V))
 | set (S : Int -> Bool) (n : Nat)
 | ins (C dx : Addr) (fs : List (Str × V))
 | own (x : Addr)
 | xd (fs : List (Str × V))
 | met (f x : Addr)
 | rng (lo hi : Int)
 | frz (o : Obj) (u : HO)
 | tbl (ps : Array Value)
 | ext (φ : Heap -> Prop)
abbrev Hp := Addr -> Option HO
def upd (H : Hp) (a : Addr) (o : HO) : Hp := fun b => if b = a then some o else H b
theorem upd_same {H : Hp} {a : Addr} {o : HO} : upd H a o a = some o := by unfold upd; rw [if_pos rfl]
theorem upd_ne {H : Hp} {a b : Addr} {o : HO} (h : b ≠ a) : upd H a o b = H b := by unfold upd; rw [if_neg h]
theorem ne_of {H : Hp} {a b : Addr} {o u : HO} (h : H a = some o) (h' : H b = some u) (d : o ≠ u) : a ≠ b := by
 intro e; subst e; rw [h] at h'; exact d (Option.some.inj h')
theorem ne_of_none {H : Hp} {a b : Addr} {o : HO} (h : H a = some o) (h' : H b = none) : a ≠ b := by
 intro e; subst e; rw [h] at h'; cases h'
section
variable (P : Program) (w : World)
def ObjOk (H : Hp) (h : Heap) (a : Addr) : HO -> Prop
 | .lst xs => xs.length <= sizeLine /\ ∃ (its : List Value) (n : Nat), Vals xs its /\ h.get? a = some { cls := .type "list", data := .seq its.toArray n }
 | .tup xs => xs.length <= sizeLine /\ ∃ its : List Value, Vals xs its /\ IsTup h a its.toArray
 | .dK kvs => kvs.length <= sizeLine /\ (a == sysModules) = false /\ ∃ vs, KV kvs vs /\ h.DictOf (mixKind P w) a vs
 | .dT kvs => kvs.length <= sizeLine /\ (a == sysModules) = false /\ ∃ xs : List (List Key × Addr × Value),
   Paired (fun (p : List Key × V) (q : List Key × Addr × Value) => p.1 = q.1 /\ H q.2.1 = some (.tup (p.1.map kV)) /\ RelV p.2 q.2.2) kvs xs /\
   ∃ o es ep, h.get? a = some o /\ o.ExactDict /\ o.data = .dict es ep /\ es.toList = xs.map (entryOfKey (tupleKind (mixKind P w))) /\ (xs.map (·.1)).Nodup
 | .set S n => h.SetOf (intKind P w) a S n
 | .ins C dx fs => H dx = some (.own a) /\ fs.length <= 1000 /\ dx ≠ a /\ h.get? a = some (PySem.W.instObj C dx) /\
   ∃ mA, h.Ns1 dx mA /\ (∀ f, RelO (fs.lookup f) (mA f)) /\ PySem.Within mA (fs.map (·.1))
 | .own _ => ∃ o, h.get? a = some o
 | .xd fs => ∃ mA, h.Ns1 a mA /\ ∀ f, RelO (fs.lookup f) (mA f)
 | .rng lo hi => ∃ t u v, h.get? a = some { cls := .type "range", data := .fields #[.int lo t, .int hi u, .int 1 v] }
 | .frz o u => h.get? a = some o /\ ObjOk H h a u
 | .tbl ps => h.get? a = some { cls := .none, data := .fields ps }
 | .met f x => h.get? a = some (PySem.W.methodObj (.ref f) (.ref x))
 | .ext φ => φ h /\ (∃ o, h.get? a = some o) /\ ∀ h1 h2 : Heap, φ h1 -> (∀ o, h1.get? a = some o -> h2.get? a = some o) -> φ h2
def HOk (H : Hp) (h : Heap) : Prop := ∀ a o, H a = some o -> ObjOk P w H h a o
end
section
variable {P : Program} {w : World} {H H' : Hp} {h h' : Heap} {a : Addr} {o : HO}
theorem ObjOk.lt (x : ObjOk P w H h a o) : a < h.objs.size := by
 cases o with
 | lst xs => obtain ⟨_, _, _, _, e⟩ := x; exact Heap.lt_size e
 | tup xs => obtain ⟨_, _, _, p⟩ := x; exact p.lt
 | dK kvs => obtain ⟨_, _, _, _, o, _, _, e, _⟩ := x; exact Heap.lt_size e
 | dT kvs => obtain ⟨_, _, _, _, o, _, _, e, _⟩ := x; exact Heap.lt_size e
 | set S n => obtain ⟨o, _, _, _, e, _⟩ := x; exact Heap.lt_size e
 | ins C dx fs => obtain ⟨_, _, _, e, _⟩ := x; exact Heap.lt_size e
 | own y => obtain ⟨_, e⟩ := x; exact Heap.lt_size e
 | xd fs => obtain ⟨_, ⟨_, _, _, e, _⟩, _⟩ := x; exact Heap.lt_size e
 | rng lo hi => obtain ⟨_, _, _, e⟩ := x; exact Heap.lt_size e
 | frz ob u => obtain ⟨e, _⟩ := x; exact Heap.lt_size e
 | tbl ps => exact Heap.lt_size (show h.get? a = some _ from x)
 | met f y => exact Heap.lt_size (show h.get? a = some _ from x)
 | ext φ => obtain ⟨_, ⟨_, e⟩, _⟩ := x; exact Heap.lt_size e
theorem Paired.mapP {α β : Type} {F G : α -> β -> Prop} : ∀ {l₁ : List α} {l₂ : List β}, Paired F l₁ l₂ -> (∀ a b, F a b -> G a b) -> Paired G l₁ l₂
 | _, _, .nil, _ => .nil
 | _, _, .cons r t, f => .cons (f _ _ r) (Paired.mapP t f)
theorem ObjOk.stay (x : ObjOk P w H h a o) (k : ∀ b u, (b = a \/ H b = some (.own a)) -> h.get? b = some u -> h'.get? b = some u)
  (ho : ∀ b, H b = some (.own a) -> H' b = some (.own a)) (ht : ∀ b xs, H b = some (.tup xs) -> H' b = some (.tup xs)) : ObjOk P w H' h' a o := by
 induction o with
 | lst xs => obtain ⟨z, its, n, r, e⟩ := x; exact ⟨z, its, n, r, k _ _ (.inl rfl) e⟩
 | tup xs => obtain ⟨z, its, r, ob, e, c⟩ := x; exact ⟨z, its, r, ob, k _ _ (.inl rfl) e, c⟩
 | dK kvs => obtain ⟨z, y, vs, r, ob, es, ep, e, c⟩ := x; exact ⟨z, y, vs, r, ob, es, ep, k _ _ (.inl rfl) e, c⟩
 | dT kvs =>
  obtain ⟨z, y, xs, r, ob, es, ep, e, c⟩ := x
  exact ⟨z, y, xs, Paired.mapP r fun p q z => ⟨z.1, ht _ _ z.2.1, z.2.2⟩, ob, es, ep, k _ _ (.inl rfl) e, c⟩
 | set S n => obtain ⟨ob, es, ep, t, e, c⟩ := x; exact ⟨ob, es, ep, t, k _ _ (.inl rfl) e, c⟩
 | ins C dx fs =>
  obtain ⟨d, z, ne, e, mA, ⟨od, es, ep, e2, c⟩, r⟩ := x
  exact ⟨ho _ d, z, ne, k _ _ (.inl rfl) e, mA, ⟨od, es, ep, k _ _ (.inr d) e2, c⟩, r⟩
 | own y => obtain ⟨ob, e⟩ := x; exact ⟨ob, k _ _ (.inl rfl) e⟩
 | xd fs => obtain ⟨mA, ⟨od, es, ep, e, c⟩, r⟩ := x; exact ⟨mA, ⟨od, es, ep, k _ _ (.inl rfl) e, c⟩, r⟩
 | rng lo hi => obtain ⟨t, u, v, e⟩ := x; exact ⟨t, u, v, k _ _ (.inl rfl) e⟩
 | frz ob u ih => obtain ⟨e, q⟩ := x; exact ⟨k _ _ (.inl rfl) e, ih q⟩
 | tbl ps =>
  have e : h.get? a = some { cls := .none, data := .fields ps } := x
  show h'.get? a = some { cls := .none, data := .fields ps }
  exact k a _ (.inl rfl) e
 | met f y =>
  have e : h.get? a = some (PySem.W.methodObj (.ref f) (.ref y)) := x
  show h'.get? a = some (PySem.W.methodObj (.ref f) (.ref y))
  exact k a _ (.inl rfl) e
 | ext φ => obtain ⟨p, ⟨o, e⟩, st⟩ := x; exact ⟨st _ _ p fun o q => k _ _ (.inl rfl) q, ⟨o, k _ _ (.inl rfl) e⟩, st⟩
theorem HOk.lt (x : HOk P w H h) (e : H a = some o) : a < h.objs.size := (x a o e).lt
theorem HOk.fresh (x : HOk P w H h) (e : h.objs.size <= a) : H a = none := by
 cases q : H a with
 | none => rfl
 | some u => exact absurd (Nat.lt_of_lt_of_le (x.lt q) e) (Nat.lt_irrefl _)
theorem HOk.kept (x : HOk P w H h) (k : ∀ b u, h.get? b = some u -> h'.get? b = some u) : HOk P w H h' := fun a o e =>
 (x a o e).stay (fun b u _ q => k b u q) (fun _ q => q) fun _ _ q => q
theorem HOk.laid (x : HOk P w H h) (k : ∀ b u, h.get? b = some u -> h'.get? b = some u) (hp : h.objs.size <= a) (new : ObjOk P w (upd H a o) h' a o) : HOk P w (upd H a o) h' := fun b u e => by
 have hn := x.fresh hp
 by_cases hb : b = a
 ·subst hb; rw [upd_same] at e; cases e; exact new
 ·rw [upd_ne hb] at e
  exact (x b u e).stay (fun c v _ q => k c v q) (fun c q => by rw [upd_ne (ne_of_none q hn)]; exact q) fun c xs q => by rw [upd_ne (ne_of_none q hn)]; exact q
end
def Rd (H : Hp) (a : Addr) (u : HO) : Prop := H a = some u \/ ∃ o, H a = some (.frz o u)
theorem Rd.ok {P : Program} {w : World} {H : Hp} {h : Heap} {a : Addr} {u : HO} (r : Rd H a u) (x : HOk P w H h) : ObjOk P w H h a u := by
 rcases r with r | ⟨o, r⟩
 ·exact x a u r
 ·obtain ⟨_, q⟩ := x a _ r
  exact q
def Mut : Option HO -> Prop
 | some (.lst _) => True
 | some (.dK _) => True
 | some (.dT _) => True
 | some (.set _ _) => True
 | some (.ins _ _ _) => True
 | some (.ext _) => True
 | _ => False
section
variable {P : Program} {w : World} {H : Hp} {h h' : Heap} {x e : Addr} {o' : HO}
theorem HOk.write (ok : HOk P w H h) (mu : Mut (H x)) (he : e = x \/ H e = some (.own x)) (k : ∀ b u, b ≠ e -> h.get? b = some u -> h'.get? b = some u) (heo : ∃ u, h'.get? e = some u)
  (new : ObjOk P w (upd H x o') h' x o') : HOk P w (upd H x o') h' := fun b u q => by
 have nown : ∀ c y, H c = some (.own y) -> c ≠ x := fun c y r z => by subst z; rw [r] at mu; exact mu
 have ntup : ∀ c xs, H c = some (.tup xs) -> c ≠ x := fun c xs r z => by subst z; rw [r] at mu; exact mu
 by_cases hb : b = x
 ·subst hb; rw [upd_same] at q; cases q; exact new
 ·rw [upd_ne hb] at q
  by_cases hbe : b = e
  ·have q' : H b = some (.own x) := by
    rcases he with z | z
    ·exact absurd (hbe.trans z) hb
    ·rw [hbe]; exact z
   rw [q] at q'; cases q'
   obtain ⟨v, hv⟩ := heo
   exact ⟨v, by rw [hbe]; exact hv⟩
  ·refine (ok b u q).stay (fun c v hc r => k c v ?_ r) (fun c r => by rw [upd_ne (nown c b r)]; exact r) fun c xs r => by rw [upd_ne (ntup c xs r)]; exact r
   rcases hc with rfl | hc
   ·exact hbe
   ·rintro rfl
    rcases he with z | z
    ·exact nown c b hc z
    ·rw [hc] at z; cases z; exact hb rfl
end
structure Un (fs ex : List Addr) (H H' : Hp) (h h' : Heap) : Prop where
 keep : ∀ b o, h.get? b = some o -> H b = none -> b ∉ fs -> b ∉ ex -> h'.get? b = some o
 slot : ∀ b o, h.get? b = some o -> H b = none -> b ∈ fs -> b ∉ ex -> ∃ sl, h'.get? b = some { o with slots := sl }
 free : ∀ b o, h.get? b = some o -> H b = none -> b ∉ ex -> H' b = none
 there : ∀ b o, h.get? b = some o -> b ∉ ex -> ∃ o', h'.get? b = some o'
 tups : ∀ b xs, H b = some (.tup xs) -> H' b = some (.tup xs)
 frzs : ∀ b o u, H b = some (.frz o u) -> H' b = some (.frz o u)
 tbls : ∀ b ps, H b = some (.tbl ps) -> ∃ more, H' b = some (.tbl (ps ++ more))
section
variable {fs fs' ex ex' : List Addr} {H H1 H2 : Hp} {h h1 h2 h' : Heap} {a x e : Addr} {o : HO}
theorem Un.any (u : Un fs ex H H1 h h1) {b : Addr} {ob : Obj} (q : h.get? b = some ob) (n : H b = none) (hx : b ∉ ex) : ∃ sl, h1.get? b = some { ob with slots := sl } := by
 by_cases hb : b ∈ fs
 ·exact u.slot b ob q n hb hx
 ·exact ⟨ob.slots, u.keep b ob q n hb hx⟩
theorem Un.trans (a : Un fs ex H H1 h h1) (b : Un fs ex H1 H2 h1 h2) : Un fs ex H H2 h h2 where
 keep := fun c ob q n hc hx => b.keep c ob (a.keep c ob q n hc hx) (a.free c ob q n hx) hc hx
 slot := fun c ob q n hc hx => by
  obtain ⟨sl, e1⟩ := a.slot c ob q n hc hx
  obtain ⟨sl', e2⟩ := b.slot c _ e1 (a.free c ob q n hx) hc hx
  exact ⟨sl', e2⟩
 free := fun c ob q n hx => by
  obtain ⟨o', e1⟩ := a.there c ob q hx
  exact b.free c o' e1 (a.free c ob q n hx) hx
 there := fun c ob q hx => by
  obtain ⟨o', e1⟩ := a.there c ob q hx
  exact b.there c o' e1 hx
 tups := fun c xs q => b.tups c xs (a.tups c xs q)
 frzs := fun c ob xs q => b.frzs c ob xs (a.frzs c ob xs q)
 tbls := fun c ps q => by
  obtain ⟨m1, e1⟩ := a.tbls c ps q
  obtain ⟨m2, e2⟩ := b.tbls c _ e1
  exact ⟨m1 ++ m2, by rw [e2, Array.append_assoc]⟩
theorem Un.kept (k : ∀ b u, h.get? b = some u -> h'.get? b = some u) : Un fs ex H H h h' :=
 ⟨fun b ob q _ _ _ => k b ob q, fun b ob q _ _ _ => ⟨ob.slots, k b ob q⟩, fun _ _ _ n _ => n, fun b ob q _ => ⟨ob, k b ob q⟩, fun _ _ q => q, fun _ _ _ q => q, fun _ ps q => ⟨#[], by rw [q]; simp⟩⟩
theorem Un.refl : Un fs ex H H h h := Un.kept fun _ _ q => q
theorem Un.laid (k : ∀ b u, h.get? b = some u -> h'.get? b = some u) (hp : h.objs.size <= a) (hn : H a = none) : Un fs ex H (upd H a o) h h' where
 keep := fun b u q _ _ _ => k b u q
 slot := fun b u q _ _ _ => ⟨u.slots, k b u q⟩
 free := fun b u q n _ => by rw [upd_ne (Nat.ne_of_lt (Nat.lt_of_lt_of_le (Heap.lt_size q) hp))]; exact n
 there := fun b u q _ => ⟨u, k b u q⟩
 tups := fun b xs q => by rw [upd_ne (ne_of_none q hn)]; exact q
 frzs := fun b u xs q => by rw [upd_ne (ne_of_none q hn)]; exact q
 tbls := fun b ps q => ⟨#[], by rw [upd_ne (ne_of_none q hn), q]; simp⟩
theorem Un.write (mu : Mut (H x)) (he : e = x \/ H e = some (.own x)) (k : ∀ b u, b ≠ e -> h.get? b = some u -> h'.get? b = some u) (heo : ∃ u, h'.get? e = some u) : Un fs ex H (upd H x o) h h' := by
 have hx : ∀ b, H b = none -> b ≠ x := fun b n z => by subst z; rw [n] at mu; exact mu
 have hb : ∀ b, H b = none -> b ≠ e := fun b n z => by
  subst z
  rcases he with r | r
  ·exact hx b n r
  ·rw [n] at r; cases r
 have hm : ∀ b u, H b = some u -> ¬ Mut (some u) -> b ≠ x := fun b u q nm z => by subst z; rw [q] at mu; exact nm mu
 refine ⟨fun b u q n _ _ => k b u (hb b n) q, fun b u q n _ _ => ⟨u.slots, k b u (hb b n) q⟩, fun b u q n _ => by rw [upd_ne (hx b n)]; exact n, fun b u q _ => ?_,
  fun b xs q => by rw [upd_ne (hm b _ q fun z => z)]; exact q, fun b u xs q => by rw [upd_ne (hm b _ q fun z => z)]; exact q, fun b ps q => ⟨#[], by rw [upd_ne (hm b _ q fun z => z), q]; simp⟩⟩
 by_cases hbe : b = e
 ·subst hbe; exact heo
 ·exact ⟨u, k b u hbe q⟩
end
def trk (h : Heap) (H : Hp) : List Addr := (List.range h.objs.size).filter fun a => (H a).isSome
def hidT (h : Heap) (H : Hp) : Heap := PySem.W.hideAll h (trk h H)
theorem hidT_size (h : Heap) (H : Hp) : (hidT h H).objs.size = h.objs.size := PySem.W.hideAll_size _ _
theorem hidT_get {h : Heap} {H : Hp} {b : Addr} {o : Obj} (e : h.get? b = some o) (n : H b = none) : (hidT h H).get? b = some o :=
 PySem.W.hideAll_get _ e fun hm => by
  have q : (H b).isSome = true := (List.mem_filter.mp hm).2
  rw [n] at q; simp at q
theorem of_hidT {h : Heap} {H : Hp} {b : Addr} {o : Obj} (e : (hidT h H).get? b = some o) : h.get? b = some o /\ H b = none := by
 have e' : h.get? b = some o := PySem.W.of_hideAll (trk h H) e
 refine ⟨e', ?_⟩
 cases q : H b with
 | none => rfl
 | some x =>
  have hm : b ∈ trk h H := List.mem_filter.mpr ⟨List.mem_range.mpr (Heap.lt_size e'), by simp [q]⟩
  have z : (hidT h H).get? b = none := PySem.W.hideAll_none (trk h H) hm
  rw [z] at e; cases e
def allNews (g h : Heap) (L : Addr) : List (Addr × Obj) := (List.range h.objs.size).filterMap fun a => if a = L \/ (g.get? a).isSome = true then none else (h.get? a).map fun o => (a, o)
def rest (g h : Heap) (L d : Addr) : List (Addr × Obj) := (allNews g h L).filter fun p => decide (p.1 ≠ d)
end L2
namespace L2
open PySem PySem.Spec PyProof.Rows
structure Mod (K : Fg_) (mg : Str -> Option Value) (base : Heap) : Prop where
 kin : K.In base
 glob : base.Ns mainGlobals mg
 blt : ∃ mb, base.Ns builtinsNs mb /\ ∀ x : Str, x ≠ "__name__" -> mb x = bootBuiltins x
 nolimit : base.NoLimit
structure Cx where
 prog : Program
 w : World
 K : Fg_
 mg : Str -> Option Value
 base : Heap
 A : Around
 N : List Str
 s₀ : Shared
 H₀ : Hp
 env : Env
 outer : List Env
 stack : List Env
 ex : List Addr
 fn : Str -> Bool
 calm : Bool
 pn : List (Addr × Obj)
 xe : Value -> Shared -> Prop
def frs (l : List Env) : List Addr := l.filterMap (·.frame)
abbrev Cx.fs (X : Cx) : List Addr := frs X.outer
def Vis (sc : Scope) (x : Str) : Prop := sc.names.lookup x = some .local \/ sc.names.lookup x = some .cell \/ sc.names.lookup x = some .free
def Loc (sc : Scope) (x : Str) : Prop := sc.names.lookup x = some .local \/ sc.names.lookup x = some .cell
def Look (env : Env) (h : Heap) (m : Str -> Option Value) (x : Str) (u : Value) : Prop :=
 (env.kindOf x = some .local /\ m x = some u) \/ ((env.kindOf x = some .cell \/ env.kindOf x = some .free) /\ ∃ c, env.cells.lookup x = some c /\ h.IsCell c (some u))
structure Cx.Ok (X : Cx) : Prop where
 mod : Mod X.K X.mg X.base
 kind : X.env.scope.kind = .function
 glob : X.env.globals = mainGlobals
 blt : X.env.builtins = builtinsNs
 above : X.s₀.heap.objs.size <= X.env.locals
 inj : ∀ x y c, X.env.cells.lookup x = some c -> X.env.cells.lookup y = some c -> x = y
 has : ∀ x, (X.env.kindOf x = some .cell \/ X.env.kindOf x = some .free) -> ∃ c, X.env.cells.lookup x = some c
 cab : ∀ x c, X.fn x = true -> X.env.cells.lookup x = some c -> X.s₀.heap.objs.size <= c
 hd : X.calm = true -> X.A.handled = none
 frames : X.A.frames = some X.stack
 stk : X.stack = X.outer \/ (X.stack = X.env :: X.outer /\ X.env.frame = some X.env.locals)
 exf : ∀ b ∈ X.ex, b ≠ X.env.locals /\ ∀ x c, X.env.cells.lookup x = some c -> c ≠ b
 bs : ∀ b o, X.base.get? b = some o -> X.s₀.heap.get? b = some o /\ X.H₀ b = none
 bsz : X.base.objs.size <= X.s₀.heap.objs.size
 noex : ∀ b o, X.base.get? b = some o -> b ∉ X.ex
 exfs : ∀ b ∈ X.ex, b ∉ X.fs
 funs : X.s₀.heap.FunFrames X.base X.outer
 frf : ∀ b ∈ X.fs, X.H₀ b = none
structure Inv (X : Cx) (pins : List (Addr × Obj)) (σ : List (Option V)) (H : Hp) (s : Shared) : Prop where
 ok : X.Ok
 os : s.os = X.s₀.os
 bare : AllBare s.gens
 base : Un X.fs X.ex X.H₀ H X.s₀.heap s.heap
 loc : ∃ m, s.heap.Ns X.env.locals m /\ ∀ (i : Nat) (x : Str) (v : V), X.N[i]? = some x -> σ[i]? = some (some v) -> Vis X.env.scope x -> ∃ u, RelV v u /\ Look X.env s.heap m x u
 cell : ∀ x c, X.env.cells.lookup x = some c -> ∃ v, s.heap.IsCell c v
 free : H X.env.locals = none
 freeC : ∀ x c, X.env.cells.lookup x = some c -> H c = none
 pin : ∀ p ∈ X.pn ++ pins, s.heap.get? p.1 = some p.2 /\ H p.1 = none /\ p.1 ≠ X.env.locals /\ p.1 ∉ X.fs /\ ∀ v, p.2.data ≠ .cell v
 hok : HOk X.prog X.w H s.heap
 len : σ.length = X.N.length
section
variable {X : Cx} {pins : List (Addr × Obj)} {σ : List (Option V)} {H H' : Hp} {s : Shared} {h' : Heap}
theorem Cx.Ok.nofr (ok : X.Ok) {b : Addr} {o : Obj} (e : X.base.get? b = some o) : b ∉ X.fs := fun hb => by
 have := (ok.funs.mem hb).1
 rw [e] at this; cases this
theorem Inv.bs (I : Inv X pins σ H s) : ∀ b o, X.base.get? b = some o -> s.heap.get? b = some o /\ H b = none := fun b o e =>
 ⟨I.base.keep b o (I.ok.bs b o e).1 (I.ok.bs b o e).2 (I.ok.nofr e) (I.ok.noex b o e), I.base.free b o (I.ok.bs b o e).1 (I.ok.bs b o e).2 (I.ok.noex b o e)⟩
theorem Inv.bk (I : Inv X pins σ H s) : ∀ b o, X.base.get? b = some o -> s.heap.get? b = some o := fun b o e => (I.bs b o e).1
theorem Inv.mod (I : Inv X pins σ H s) : Mod X.K X.mg X.base := I.ok.mod
theorem Inv.kIn (I : Inv X pins σ H s) : X.K.In s.heap := I.ok.mod.kin.keeps I.bk
theorem Inv.fr (I : Inv X pins σ H s) : ∃ m, Fr X.base X.env.locals s.heap m :=
 let ⟨m, hn, _⟩ := I.loc
 ⟨m, hn, I.bk, Nat.le_trans I.ok.bsz I.ok.above⟩
theorem Inv.lt (I : Inv X pins σ H s) : X.env.locals < s.heap.objs.size := let ⟨_, hn, _⟩ := I.loc; hn.lt
theorem Inv.sz (I : Inv X pins σ H s) : X.s₀.heap.objs.size <= s.heap.objs.size := Nat.le_trans I.ok.above (Nat.le_of_lt I.lt)
theorem Inv.nofs (I : Inv X pins σ H s) {a : Addr} (h : s.heap.objs.size <= a) : a ∉ X.fs := fun hb => by
 obtain ⟨_, o, ho, _⟩ := I.ok.funs.mem hb
 exact absurd (Nat.lt_of_lt_of_le (Heap.lt_size ho) (Nat.le_trans I.sz h)) (Nat.lt_irrefl _)
theorem Inv.cne (I : Inv X pins σ H s) : ∀ x c, X.env.cells.lookup x = some c -> c ≠ X.env.locals := fun x c e z => by
 obtain ⟨v, o, ho, hd⟩ := I.cell x c e
 obtain ⟨m, ⟨o', es, ep, ho', hd', _⟩, _⟩ := I.loc
 rw [z, ho'] at ho; cases ho; rw [hd'] at hd; cases hd
theorem Inv.funs (I : Inv X pins σ H s) : s.heap.FunFrames X.base X.outer := by
 have all : ∀ (l : List Env), (∀ b ∈ frs l, b ∈ X.fs) -> X.s₀.heap.FunFrames X.base l -> s.heap.FunFrames X.base l := by
  intro l
  induction l with
  | nil => intro _ _; trivial
  | cons env r ih =>
   intro hs hl
   obtain ⟨hk, ⟨L, o, hf, hn, ho, hd⟩, hr⟩ := hl
   have hL : L ∈ X.fs := hs L (by unfold frs; rw [List.filterMap_cons, hf]; exact List.mem_cons_self)
   obtain ⟨sl, e⟩ := I.base.slot L o ho (I.ok.frf L hL) hL fun z => I.ok.exfs L z hL
   exact ⟨hk, ⟨L, _, hf, hn, e, hd⟩, ih (fun b hb => hs b (by unfold frs; rw [List.filterMap_cons, hf]; exact List.mem_cons_of_mem _ hb)) hr⟩
 exact all X.outer (fun _ hb => hb) I.ok.funs
theorem Inv.stack (I : Inv X pins σ H s) : s.heap.FunFrames X.base X.stack := by
 rcases I.ok.stk with e | ⟨e, hf⟩
 ·rw [e]; exact I.funs
 ·rw [e]
  obtain ⟨m, hn, _⟩ := I.loc
  refine .cons (by rw [I.ok.kind]; decide) hf hn ?_ I.funs
  exact Heap.get?_none_of_le (Nat.le_trans I.ok.bsz I.ok.above)
theorem Inv.stkSub (I : Inv X pins σ H s) : ∀ b ∈ frs X.stack, b ∈ X.env.locals :: X.fs := fun b hb => by
 rcases I.ok.stk with e | ⟨e, hf⟩
 ·rw [e] at hb; exact List.mem_cons_of_mem _ hb
 ·rw [e] at hb
  unfold frs at hb
  rw [List.filterMap_cons, hf] at hb
  exact hb
theorem Inv.stkFree (I : Inv X pins σ H s) : ∀ b ∈ frs X.stack, H b = none := fun b hb => by
 rcases List.mem_cons.mp (I.stkSub b hb) with e | hb
 ·rw [e]; exact I.free
 ·obtain ⟨_, o, ho, _⟩ := I.ok.funs.mem hb
  exact I.base.free b o ho (I.ok.frf b hb) fun z => I.ok.exfs b z hb
theorem Inv.step {g' : Array GenState} {t' : Nat} {d' : Drawn} {ch : List Addr} (I : Inv X pins σ H s)
  (hch : ∀ b ∈ ch, (b ∈ X.ex \/ X.s₀.heap.objs.size <= b) /\ b ≠ X.env.locals /\ (∀ x c, X.env.cells.lookup x = some c -> c ≠ b) /\ ∀ p ∈ X.pn ++ pins, p.1 ≠ b)
  (keep : ∀ b o, b ≠ X.env.locals -> b ∉ X.fs -> b ∉ ch -> s.heap.get? b = some o -> H b = none -> h'.get? b = some o)
  (slot : ∀ b o, b ≠ X.env.locals -> b ∈ X.fs -> b ∉ ch -> s.heap.get? b = some o -> H b = none -> ∃ sl, h'.get? b = some { o with slots := sl }) (free : ∀ b o, b ∉ ch -> s.heap.get? b = some o -> H b = none -> H' b = none)
  (there : ∀ b o, b ∉ ch -> s.heap.get? b = some o -> ∃ o', h'.get? b = some o')
  (tups : ∀ b xs, H b = some (.tup xs) -> H' b = some (.tup xs)) (frzs : ∀ b o u, H b = some (.frz o u) -> H' b = some (.frz o u)) (tbls : ∀ b ps, H b = some (.tbl ps) -> ∃ more, H' b = some (.tbl (ps ++ more)))
  (ns : ∀ m, s.heap.Ns X.env.locals m -> h'.Ns X.env.locals m) (hok : HOk X.prog X.w H' h') (hg : AllBare g') :
  Inv X pins σ H' { s with heap := h', gens := g', drawn := d', toks := t' } := by
 have neL : ∀ b o, X.s₀.heap.get? b = some o -> b ≠ X.env.locals := fun b o e => Nat.ne_of_lt (Nat.lt_of_lt_of_le (Heap.lt_size e) I.ok.above)
 have neC : ∀ b o, X.s₀.heap.get? b = some o -> b ∉ X.ex -> b ∉ ch := fun b o e hx hb => by
  rcases (hch b hb).1 with z | z
  ·exact hx z
  ·exact absurd (Nat.lt_of_lt_of_le (Heap.lt_size e) z) (Nat.lt_irrefl _)
 have cellK : ∀ x c, X.env.cells.lookup x = some c -> ∀ v, s.heap.IsCell c v -> h'.IsCell c v := fun x c e v ⟨o, ho, hd⟩ => by
  have nch : c ∉ ch := fun z => (hch c z).2.2.1 x c e rfl
  by_cases hc : c ∈ X.fs
  ·obtain ⟨sl, q⟩ := slot c o (I.cne x c e) hc nch ho (I.freeC x c e)
   exact ⟨_, q, hd⟩
  ·exact ⟨o, keep c o (I.cne x c e) hc nch ho (I.freeC x c e), hd⟩
 refine ⟨I.ok, I.os, hg, ⟨fun b o e n hb hx => ?_, fun b o e n hb hx => ?_, fun b o e n hx => ?_, fun b o e hx => ?_, fun b xs e => tups b xs (I.base.tups b xs e), fun b o xs e => frzs b o xs (I.base.frzs b o xs e), fun b ps e => ?_⟩, ?_, fun x c e => ?_, ?_, fun x c e => ?_, fun p hp => ?_, hok, I.len⟩
 ·exact keep b o (neL b o e) hb (neC b o e hx) (I.base.keep b o e n hb hx) (I.base.free b o e n hx)
 ·obtain ⟨sl, e1⟩ := I.base.slot b o e n hb hx
  obtain ⟨sl', e2⟩ := slot b _ (neL b o e) hb (neC b o e hx) e1 (I.base.free b o e n hx)
  exact ⟨sl', e2⟩
 ·obtain ⟨o', e1⟩ := I.base.there b o e hx
  exact free b o' (neC b o e hx) e1 (I.base.free b o e n hx)
 ·obtain ⟨o', e1⟩ := I.base.there b o e hx
  exact there b o' (neC b o e hx) e1
 ·obtain ⟨m1, e1⟩ := I.base.tbls b ps e
  obtain ⟨m2, e2⟩ := tbls b _ e1
  exact ⟨m1 ++ m2, by rw [e2, Array.append_assoc]⟩
 ·obtain ⟨m, hn, hl⟩ := I.loc
  refine ⟨m, ns m hn, fun i x v e1 e2 e3 => ?_⟩
  obtain ⟨u, r, l⟩ := hl i x v e1 e2 e3
  refine ⟨u, r, ?_⟩
  rcases l with l | ⟨k, c, e, z⟩
  ·exact .inl l
  ·exact .inr ⟨k, c, e, cellK x c e _ z⟩
 ·obtain ⟨v, z⟩ := I.cell x c e
  exact ⟨v, cellK x c e v z⟩
 ·obtain ⟨m, ⟨o, _, _, ho, _⟩, _⟩ := I.loc
  exact free _ o (fun z => (hch _ z).2.1 rfl) ho I.free
 ·obtain ⟨v, o, ho, hd⟩ := I.cell x c e
  exact free c o (fun z => (hch c z).2.2.1 x c e rfl) ho (I.freeC x c e)
 ·obtain ⟨e, n, ne, nf, d⟩ := I.pin p hp
  have nch : p.1 ∉ ch := fun z => (hch p.1 z).2.2.2 p hp rfl
  exact ⟨keep p.1 p.2 ne nf nch e n, free p.1 p.2 nch e n, ne, nf, d⟩
theorem Inv.un {t' : Nat} (I : Inv X pins σ H s) (u : Un X.fs [] H H' s.heap h') (hok : HOk X.prog X.w H' h') : Inv X pins σ H' { s with heap := h', toks := t' } := by
 obtain ⟨m, ⟨o, es, ep, ho, r⟩, _⟩ := id I.loc
 obtain ⟨sl, hL⟩ := u.any ho I.free (by simp)
 exact I.step (g' := s.gens) (d' := s.drawn) (ch := []) (fun _ z => nomatch z) (fun b o _ hb _ e n => u.keep b o e n hb (by simp)) (fun b o _ hb _ e n => u.slot b o e n hb (by simp)) (fun b o _ e n => u.free b o e n (by simp)) (fun b o _ e => u.there b o e (by simp)) u.tups u.frzs u.tbls (fun m' hm => by
  obtain ⟨o', es', ep', ho', r'⟩ := hm
  rw [ho] at ho'; cases ho'
  exact ⟨_, es', ep', hL, r'⟩) hok I.bare
theorem Inv.call {g' : Array GenState} {t' : Nat} {d' : Drawn} {ch : List Addr} (I : Inv X pins σ H s) (u : Un (frs X.stack) ch H H' s.heap h') (hok : HOk X.prog X.w H' h') (hg : AllBare g')
  (hch : ∀ b ∈ ch, (b ∈ X.ex \/ X.s₀.heap.objs.size <= b) /\ b ≠ X.env.locals /\ (∀ x c, X.env.cells.lookup x = some c -> c ≠ b) /\ ∀ p ∈ X.pn ++ pins, p.1 ≠ b) :
  Inv X pins σ H' { s with heap := h', gens := g', drawn := d', toks := t' } := by
 obtain ⟨m, ⟨o, es, ep, ho, r⟩, _⟩ := id I.loc
 obtain ⟨sl, hL⟩ := u.any ho I.free fun z => (hch _ z).2.1 rfl
 exact I.step (ch := ch) hch (fun b o hL hb hc e n => u.keep b o e n (fun z => (List.mem_cons.mp (I.stkSub b z)).elim hL hb) hc) (fun b o _ _ hc e n => u.any e n hc) (fun b o hc e n => u.free b o e n hc) (fun b o hc e => u.there b o e hc) u.tups u.frzs u.tbls (fun m' hm => by
  obtain ⟨o', es', ep', ho', r'⟩ := hm
  rw [ho] at ho'; cases ho'
  exact ⟨_, es', ep', hL, r'⟩) hok hg
theorem Inv.turned {t' : Nat} {it : Addr} (I : Inv X pins σ H s) (k : ∀ b o, b ≠ it -> s.heap.get? b = some o -> h'.get? b = some o) (hn : H it = none) (hL : it ≠ X.env.locals)
  (h1 : it ∈ X.ex \/ X.s₀.heap.objs.size <= it) (h2 : ∀ x c, X.env.cells.lookup x = some c -> c ≠ it) (h3 : ∀ p ∈ X.pn ++ pins, p.1 ≠ it) : Inv X pins σ H { s with heap := h', toks := t' } := by
 have nit : ∀ b u, H b = some u -> b ≠ it := fun b u e z => by rw [z, hn] at e; cases e
 refine I.step (g' := s.gens) (d' := s.drawn) (ch := [it]) (fun b hb => ?_) (fun b o _ _ hc e _ => k b o (fun z => hc (by simp [z])) e) (fun b o _ _ hc e _ => ⟨o.slots, k b o (fun z => hc (by simp [z])) e⟩) (fun _ _ _ _ n => n)
  (fun b o hc e => ⟨o, k b o (fun z => hc (by simp [z])) e⟩) (fun _ _ e => e) (fun _ _ _ e => e) (fun b ps e => ⟨#[], by rw [e]; simp⟩) (fun m hm => ?_) (fun b u e => ?_) I.bare
 ·have e : b = it := by simpa using hb
  subst e
  exact ⟨h1, hL, h2, h3⟩
 ·obtain ⟨o, es, ep, ho, r⟩ := hm
  exact ⟨o, es, ep, k _ o (Ne.symm hL) ho, r⟩
 ·refine (I.hok b u e).stay (fun c v hc q => k c v ?_ q) (fun _ q => q) fun _ _ q => q
  rcases hc with z | z
  ·rw [z]; exact nit b u e
  ·exact nit c _ z
theorem Inv.tok (I : Inv X pins σ H s) (t : Nat) : Inv X pins σ H { s with toks := t } := I.un (h' := s.heap) (t' := t) Un.refl I.hok
theorem Inv.kept {t' : Nat} (I : Inv X pins σ H s) (k : ∀ b u, s.heap.get? b = some u -> h'.get? b = some u) : Inv X pins σ H { s with heap := h', toks := t' } := I.un (Un.kept k) (I.hok.kept k)
theorem Inv.laid {a : Addr} {o : HO} {t' : Nat} (I : Inv X pins σ H s) (k : ∀ b u, s.heap.get? b = some u -> h'.get? b = some u) (hp : s.heap.objs.size <= a) (new : ObjOk X.prog X.w (upd H a o) h' a o) :
  Inv X pins σ (upd H a o) { s with heap := h', toks := t' } := I.un (Un.laid k hp (I.hok.fresh hp)) (I.hok.laid k hp new)
theorem Inv.write {x e : Addr} {o : HO} {t' : Nat} (I : Inv X pins σ H s) (mu : Mut (H x)) (he : e = x \/ H e = some (.own x)) (k : ∀ b u, b ≠ e -> s.heap.get? b = some u -> h'.get? b = some u) (heo : ∃ u, h'.get? e = some u)
  (new : ObjOk X.prog X.w (upd H x o) h' x o) : Inv X pins σ (upd H x o) { s with heap := h', toks := t' } := I.un (Un.write mu he k heo) (I.hok.write mu he k heo new)
theorem Inv.pins_of {pins' : List (Addr × Obj)} (I : Inv X pins σ H s) (h : ∀ p ∈ pins', s.heap.get? p.1 = some p.2 /\ H p.1 = none /\ p.1 ≠ X.env.locals /\ p.1 ∉ X.fs /\ ∀ v, p.2.data ≠ .cell v) : Inv X pins' σ H s :=
 ⟨I.ok, I.os, I.bare, I.base, I.loc, I.cell, I.free, I.freeC, fun p hp => (List.mem_append.mp hp).elim (fun z => I.pin p (List.mem_append_left _ z)) (h p), I.hok, I.len⟩
theorem nodup_ix {N : List Str} (hN : N.Nodup) {i j : Nat} {x : Str} (a : N[i]? = some x) (b : N[j]? = some x) : i = j := by
 obtain ⟨h1, e1⟩ := List.getElem?_eq_some_iff.mp a
 obtain ⟨h2, e2⟩ := List.getElem?_eq_some_iff.mp b
 exact (List.getElem_inj hN).mp (e1.trans e2.symm)
theorem store_ok2 {M : Model} {A : Around} {E : Value -> Shared -> Prop} {i : Nat} {x : Str} {v : V} {u : Value} {Q : Unit -> Shared -> Prop} (I : Inv X pins σ H s) (hN : X.N.Nodup) (hi : X.N[i]? = some x) (hx : Loc X.env.scope x) (r : RelV v u)
  (h : ∀ s', Inv X pins (σ.set i (some v)) H s' -> (∃ a, Heap.SameBut a s.heap s'.heap /\ (a = X.env.locals \/ X.env.cells.lookup x = some a)) -> Q () s') (hf : X.fn x = true \/ X.env.scope.names.lookup x = some .local := by first | exact .inl rfl | exact .inr rfl | assumption) : wpAny M A (storeName X.env x u) Q E s := by
 obtain ⟨m, hn, hl⟩ := id I.loc
 have hcls : (X.env.scope.kind == .class || (X.env.scope.kind == .module && X.env.locals != X.env.globals)) = false := by rw [I.ok.kind]; rfl
 have hiσ : i < σ.length := by rw [I.len]; exact (List.getElem?_eq_some_iff.mp hi).1
 have cne := I.cne
 have tracked : ∀ {a : Addr} {h' : Heap}, (∃ o, s.heap.get? a = some o /\ H a = none) -> Heap.SameBut a s.heap h' -> HOk X.prog X.w H h' := fun {a h'} ha hs b ob e => by
  obtain ⟨_, _, hfree⟩ := ha
  refine (I.hok b ob e).stay (fun c w' hc q => (hs.2 c ?_).trans q) (fun _ q => q) fun _ _ q => q
  rintro rfl
  rcases hc with rfl | hc
  ·rw [hfree] at e; cases e
  ·rw [hfree] at hc; cases hc
 rcases hx with hk | hk
 ·refine wpAny_storeName_local hk hn (fun h' hn' hs => ?_) hcls
  obtain ⟨oL, _, _, hoL, _⟩ := id hn
  refine h _ ⟨I.ok, I.os, I.bare, ⟨fun b o e n hb hx => ?_, fun b o e n hb hx => ?_, I.base.free, fun b o e hx => ?_, I.base.tups, I.base.frzs, I.base.tbls⟩, ⟨_, hn', fun j y v' e1 e2 e3 => ?_⟩, fun y c e => ?_, I.free, I.freeC, fun p hp => ?_, tracked ⟨oL, hoL, I.free⟩ hs, by simpa using I.len⟩ ⟨_, hs, .inl rfl⟩
  ·exact (hs.2 b (Nat.ne_of_lt (Nat.lt_of_lt_of_le (Heap.lt_size e) I.ok.above))).trans (I.base.keep b o e n hb hx)
  ·obtain ⟨sl, e1⟩ := I.base.slot b o e n hb hx
   exact ⟨sl, (hs.2 b (Nat.ne_of_lt (Nat.lt_of_lt_of_le (Heap.lt_size e) I.ok.above))).trans e1⟩
  ·obtain ⟨o', e1⟩ := I.base.there b o e hx
   exact ⟨o', (hs.2 b (Nat.ne_of_lt (Nat.lt_of_lt_of_le (Heap.lt_size e) I.ok.above))).trans e1⟩
  ·by_cases hj : j = i
   ·subst hj
    rw [hi] at e1; cases e1
    rw [List.getElem?_set_self hiσ] at e2
    cases e2
    exact ⟨u, r, .inl ⟨hk, by simp⟩⟩
   ·rw [List.getElem?_set_ne (Ne.symm hj)] at e2
    obtain ⟨u', r', q⟩ := hl j y v' e1 e2 e3
    refine ⟨u', r', ?_⟩
    rcases q with ⟨k, e⟩ | ⟨k, c, e, z⟩
    ·refine .inl ⟨k, ?_⟩
     have : y ≠ x := fun e => hj (nodup_ix hN e1 (e ▸ hi))
     simp [this, e]
    ·exact .inr ⟨k, c, e, z.sameBut hs (cne y c e)⟩
  ·obtain ⟨w', z⟩ := I.cell y c e
   exact ⟨w', z.sameBut hs (cne y c e)⟩
  ·obtain ⟨e, n, ne, nf, d⟩ := I.pin p hp
   exact ⟨(hs.2 p.1 ne).trans e, n, ne, nf, d⟩
 ·have hfn : X.fn x = true := by
   rcases hf with z | z
   ·exact z
   ·rw [z] at hk; cases hk
  obtain ⟨c, hc⟩ := I.ok.has x (.inl hk)
  obtain ⟨w', z⟩ := I.cell x c hc
  refine wpAny_storeName_cell I.ok.kind hk hc z (fun h' hc' hs => ?_)
  obtain ⟨oc, hoc, hocd⟩ := id z
  refine h { s with heap := h' } ⟨I.ok, I.os, I.bare, ⟨fun b o e n hb hx => ?_, fun b o e n hb hx => ?_, I.base.free, fun b o e hx => ?_, I.base.tups, I.base.frzs, I.base.tbls⟩, ⟨m, hn.sameBut hs (Ne.symm (cne x c hc)), fun j y v' e1 e2 e3 => ?_⟩, fun y c' e => ?_, I.free, I.freeC, fun p hp => ?_, tracked ⟨oc, hoc, I.freeC x c hc⟩ hs, by simpa using I.len⟩ ⟨c, hs, .inr hc⟩
  ·exact (hs.2 b (Nat.ne_of_lt (Nat.lt_of_lt_of_le (Heap.lt_size e) (I.ok.cab x c hfn hc)))).trans (I.base.keep b o e n hb hx)
  ·obtain ⟨sl, e1⟩ := I.base.slot b o e n hb hx
   exact ⟨sl, (hs.2 b (Nat.ne_of_lt (Nat.lt_of_lt_of_le (Heap.lt_size e) (I.ok.cab x c hfn hc)))).trans e1⟩
  ·obtain ⟨o', e1⟩ := I.base.there b o e hx
   exact ⟨o', (hs.2 b (Nat.ne_of_lt (Nat.lt_of_lt_of_le (Heap.lt_size e) (I.ok.cab x c hfn hc)))).trans e1⟩
  ·by_cases hj : j = i
   ·subst hj
    rw [hi] at e1; cases e1
    rw [List.getElem?_set_self hiσ] at e2
    cases e2
    exact ⟨u, r, .inr ⟨.inl hk, c, hc, hc'⟩⟩
   ·rw [List.getElem?_set_ne (Ne.symm hj)] at e2
    obtain ⟨u', r', q⟩ := hl j y v' e1 e2 e3
    refine ⟨u', r', ?_⟩
    rcases q with q | ⟨k, c', e, z'⟩
    ·exact .inl q
    ·refine .inr ⟨k, c', e, z'.sameBut hs ?_⟩
     rintro rfl
     exact hj (nodup_ix hN e1 (I.ok.inj _ _ _ e hc ▸ hi))
  ·by_cases hcc : c' = c
   ·subst hcc; exact ⟨_, hc'⟩
   ·obtain ⟨w2, z2⟩ := I.cell y c' e
    exact ⟨w2, z2.sameBut hs hcc⟩
  ·obtain ⟨e, n, ne, nf, d⟩ := I.pin p hp
   refine ⟨(hs.2 p.1 ?_).trans e, n, ne, nf, d⟩
   intro q
   rw [q, hoc] at e
   have q' : oc = p.2 := Option.some.inj e
   exact d w' (by rw [<- q']; exact hocd)
theorem store_ok {M : Model} {A : Around} {E : Value -> Shared -> Prop} {i : Nat} {x : Str} {v : V} {u : Value} {Q : Unit -> Shared -> Prop} (I : Inv X pins σ H s) (hN : X.N.Nodup) (hi : X.N[i]? = some x) (hx : Loc X.env.scope x) (r : RelV v u)
  (h : ∀ s', Inv X pins (σ.set i (some v)) H s' -> Q () s') (hf : X.fn x = true \/ X.env.scope.names.lookup x = some .local := by first | exact .inl rfl | exact .inr rfl | assumption) : wpAny M A (storeName X.env x u) Q E s :=
 store_ok2 I hN hi hx r (fun s' I' _ => h s' I') hf
theorem Inv.call' {s' : Shared} {ch : List Addr} (I : Inv X pins σ H s) (ho : s'.os = s.os) (u : Un (frs X.stack) ch H H' s.heap s'.heap) (hok : HOk X.prog X.w H' s'.heap) (hg : AllBare s'.gens)
  (hch : ∀ b ∈ ch, (b ∈ X.ex \/ X.s₀.heap.objs.size <= b) /\ b ≠ X.env.locals /\ (∀ x c, X.env.cells.lookup x = some c -> c ≠ b) /\ ∀ p ∈ X.pn ++ pins, p.1 ≠ b) : Inv X pins σ H' s' := by
 obtain ⟨h', g', d', t', o'⟩ := s'
 have e : o' = s.os := ho
 subst e
 exact I.call (g' := g') (t' := t') (d' := d') u hok hg hch
end
abbrev XK := Value -> Option Addr -> Hp -> Prop
abbrev St := List (Option V)
abbrev VK := V -> Hp -> Prop
abbrev TE := St -> Hp -> VK -> Prop
abbrev TT := St -> Hp -> (Bool -> Hp -> Prop) -> Prop
abbrev TA := St -> Hp -> (List V -> Hp -> Prop) -> Prop
structure Ends where
 nx : St -> Hp -> Prop
 rt : VK
 bk : St -> Hp -> Prop := fun _ _ => False
 ct : St -> Hp -> Prop := fun _ _ => False
abbrev TS := Ends -> St -> Hp -> Prop
def EP (X : Cx) (pins : List (Addr × Obj)) (σ : St) (Q : VK) (u : Value) (s' : Shared) : Prop := ∃ v H', Inv X pins σ H' s' /\ RelV v u /\ Q v H'
def TP (X : Cx) (pins : List (Addr × Obj)) (σ : St) (Q : Bool -> Hp -> Prop) (b : Bool) (s' : Shared) : Prop := ∃ H', Inv X pins σ H' s' /\ Q b H'
def AP (X : Cx) (pins : List (Addr × Obj)) (σ : St) (Q : List V -> Hp -> Prop) (us : List Value) (s' : Shared) : Prop := ∃ vs H', Inv X pins σ H' s' /\ Vals vs us /\ Q vs H'
def SP (X : Cx) (pins : List (Addr × Obj)) (D : Ends) (f : Flow) (s' : Shared) : Prop :=
 match f with
 | .next => ∃ σ' H', Inv X pins σ' H' s' /\ D.nx σ' H'
 | .brk => ∃ σ' H', Inv X pins σ' H' s' /\ D.bk σ' H'
 | .cont => ∃ σ' H', Inv X pins σ' H' s' /\ D.ct σ' H'
 | .ret u => ∃ v σ' H', Inv X pins σ' H' s' /\ RelV v u /\ D.rt v H'
def PE (X : Cx) (e : Expr) (t : TE) : Prop :=
 ∀ (pins : List (Addr × Obj)) (s : Shared) (σ : St) (H : Hp) (Q : VK), Inv X pins σ H s -> t σ H Q -> wpAny (model X.prog X.w) X.A (eval e X.env) (EP X pins σ Q) X.xe s
def PT (X : Cx) (e : Expr) (t : TT) : Prop :=
 ∀ (pins : List (Addr × Obj)) (s : Shared) (σ : St) (H : Hp) (Q : Bool -> Hp -> Prop), Inv X pins σ H s -> t σ H Q -> wpAny (model X.prog X.w) X.A (isTrue e X.env (eval e X.env)) (TP X pins σ Q) X.xe s
def PW (X : Cx) (e : Expr) (t : TT) : Prop :=
 ∀ (whole : Sem Value) (pins : List (Addr × Obj)) (s : Shared) (σ : St) (H : Hp) (Q : Bool -> Hp -> Prop), Inv X pins σ H s -> t σ H Q -> wpAny (model X.prog X.w) X.A (isTrue e X.env whole) (TP X pins σ Q) X.xe s
theorem PW.pt {X : Cx} {e : Expr} {t : TT} (h : PW X e t) : PT X e t := h _
def PA (X : Cx) (es : List Expr) (t : TA) : Prop :=
 ∀ (pos : Pos) (pins : List (Addr × Obj)) (s : Shared) (σ : St) (H : Hp) (Q : List V -> Hp -> Prop), Inv X pins σ H s -> t σ H Q -> wpAny (model X.prog X.w) X.A (spliced (backTo pos (starEach es X.env))) (AP X pins σ Q) X.xe s
def PS (X : Cx) (st : Stmt) (t : TS) : Prop :=
 ∀ (pins : List (Addr × Obj)) (s : Shared) (σ : St) (H : Hp) (D : Ends), Inv X pins σ H s -> t D σ H -> wpAny (model X.prog X.w) X.A (exec st X.env) (SP X pins D) X.xe s
def PSs (X : Cx) (st : List Stmt) (t : TS) : Prop :=
 ∀ (pins : List (Addr × Obj)) (s : Shared) (σ : St) (H : Hp) (D : Ends), Inv X pins σ H s -> t D σ H -> wpAny (model X.prog X.w) X.A (execs st X.env) (SP X pins D) X.xe s
theorem thn {α : Type} {t : Sem α} {Q Q' : α -> Shared -> Prop} {M : Model} {A : Around} {E : Value -> Shared -> Prop} {s : Shared} (h : wpAny M A t Q E s) (hQ : ∀ a s, Q a s -> Q' a s) : wpAny M A t Q' E s := wpAny_mono h hQ fun _ _ x => x
end L2
namespace L2
open PySem PySem.Spec PyProof.Rows
section
variable {X : Cx}
def tVar (i : Nat) : TE := fun σ H Q => ∃ v, σ[i]? = some (some v) /\ Q v H
def tC (v : V) : TE := fun _ H Q => Q v H
theorem pe_var {i : Nat} {x : Str} {pos : Pos} (hN : X.N[i]? = some x) (hv : Vis X.env.scope x) (hd : (x == ("__debug__" : Str)) = false := by decide) (hcd : (x == ("__classdict__" : Str)) = false := by decide) : PE X (.Name x pos) (tVar i) := by
 intro pins s σ H Q I h
 obtain ⟨v, e, h⟩ := h
 obtain ⟨m, hn, hl⟩ := I.loc
 obtain ⟨u, r, l⟩ := hl i x v hN e hv
 have fin : EP X pins σ Q u s := ⟨v, H, I, r, h⟩
 rcases l with ⟨hk, hm⟩ | ⟨hk, c, hc, hcell⟩
 ·exact wpAny_Name (wpAny_loadName_local I.ok.kind hk hn hm fin) hd
 ·rcases hk with hk | hk
  ·exact wpAny_Name (wpAny_loadName_cell I.ok.kind hk hc hcell fin) hd
  ·exact wpAny_Name (wpAny_loadName_free I.ok.kind hk hc hcell fin hcd) hd
theorem pe_int {i j pos} : PE X (.Constant (.int i) j pos) (tC (.int i)) := fun _ _ _ H _ I h => wpAny_Constant_int ⟨.int i, H, I.tok _, ⟨_, rfl⟩, h⟩
theorem pe_bl {b j pos} : PE X (.Constant (.bool b) j pos) (tC (.bl b)) := fun _ _ _ H _ I h => Constant_bool ⟨.bl b, H, I, rfl, h⟩
theorem pe_non {j pos} : PE X (.Constant .none j pos) (tC .non) := fun _ _ _ H _ I h => Constant_none ⟨.non, H, I, rfl, h⟩
theorem pe_str {x j pos} : PE X (.Constant (.str x) j pos) (tC (.str x)) := fun _ _ _ H _ I h => Calls.Constant_str ⟨.str x, H, I.tok _, ⟨_, rfl⟩, h⟩
def Gl (X : Cx) (x : Str) : Prop := X.env.kindOf x = some .globalImplicit
theorem ld_glob {E : Value -> Shared -> Prop} {pins : List (Addr × Obj)} {s : Shared} {σ : St} {H : Hp} {x : Str} {u : Value} {pos : Pos} {Q : Value -> Shared -> Prop} (I : Inv X pins σ H s) (hg : Gl X x) (hm : X.mg x = some u) (h : Q u s)
  (hd : (x == ("__debug__" : Str)) = false := by decide) : wpAny (model X.prog X.w) X.A (eval (.Name x pos) X.env) Q E s :=
 Calls.Name_function_global I.ok.kind hg (Calls.loadGlobal_global (by rw [I.ok.glob]; exact I.mod.glob.keeps I.bk) hm h) hd
theorem ld_blt {E : Value -> Shared -> Prop} {pins : List (Addr × Obj)} {s : Shared} {σ : St} {H : Hp} {x : Str} {u : Value} {pos : Pos} {Q : Value -> Shared -> Prop} (I : Inv X pins σ H s) (hg : Gl X x) (hm : X.mg x = none) (hv : bootBuiltins x = some u) (h : Q u s)
  (hn : x ≠ "__name__" := by decide) (hd : (x == ("__debug__" : Str)) = false := by decide) : wpAny (model X.prog X.w) X.A (eval (.Name x pos) X.env) Q E s := by
 obtain ⟨mb, h1, h2⟩ := I.mod.blt
 exact Calls.Name_function_global I.ok.kind hg (Calls.loadGlobal_builtin (by rw [I.ok.glob]; exact I.mod.glob.keeps I.bk) hm (by rw [I.ok.blt]; exact h1.keeps I.bk) ((h2 x hn).trans hv) h) hd
theorem pe_glob {x : Str} {v : V} {u : Value} {pos : Pos} (hg : Gl X x) (hm : X.mg x = some u) (r : RelV v u) (hd : (x == ("__debug__" : Str)) = false := by decide) : PE X (.Name x pos) (tC v) :=
 fun _ _ _ H _ I h => ld_glob I hg hm ⟨v, H, I, r, h⟩ hd
theorem pe_bltn {x : Str} {v : V} {u : Value} {pos : Pos} (hg : Gl X x) (hm : X.mg x = none) (hv : bootBuiltins x = some u) (r : RelV v u) (hn : x ≠ "__name__" := by decide) (hd : (x == ("__debug__" : Str)) = false := by decide) : PE X (.Name x pos) (tC v) :=
 fun _ _ _ H _ I h => ld_blt I hg hm hv ⟨v, H, I, r, h⟩ hn hd
variable {a b : Expr} {ta tb : TE} {pos : Pos}
def tB (t : TE) : TT := fun σ H Q => t σ H fun x H1 => ∃ c, x = .bl c /\ Q c H1
theorem pt_val {e : Expr} {t : TE} (h : PE X e t) (he : ∀ whole, isTrue e X.env whole = (do let v <- whole; standAt e.pos; holding [v] (truthy v)) := by intro _; rfl) : PT X e (tB t) := by
 intro pins s σ H Q I hw
 refine isTrue_plain (thn (h pins s σ H _ I hw) fun v s1 ⟨x, H1, I1, r1, q1⟩ => ?_) (he _)
 obtain ⟨d, rfl, q⟩ := q1
 cases r1
 exact wpAny_truthy_bool ⟨H1, I1, q⟩
variable {tA tB' : TT} {rest : List Expr}
def tAnd (t u : TT) : TT := fun σ H Q => t σ H fun c H1 => if c = true then u σ H1 Q else Q false H1
def tOr (t u : TT) : TT := fun σ H Q => t σ H fun c H1 => if c = true then Q true H1 else u σ H1 Q
def tNot (t : TT) : TT := fun σ H Q => t σ H fun c H1 => Q (!c) H1
theorem pw_and1 (ha : PT X a tA) : PW X (.BoolOp .And [a] pos) tA := by
 intro wh pins s σ H Q I h
 refine isTrue_and (thn (ha pins s σ H Q I h) fun c s1 e => ?_)
 cases c with
 | true => exact isTrue_and_nil e
 | false => exact e
theorem pw_or1 (ha : PT X a tA) : PW X (.BoolOp .Or [a] pos) tA := by
 intro wh pins s σ H Q I h
 refine isTrue_or (thn (ha pins s σ H Q I h) fun c s1 e => ?_)
 cases c with
 | false => exact isTrue_or_nil e
 | true => exact e
theorem pw_and (ha : PT X a tA) (hb : PW X (.BoolOp .And (b :: rest) pos) tB') : PW X (.BoolOp .And (a :: b :: rest) pos) (tAnd tA tB') := by
 intro wh pins s σ H Q I h
 refine isTrue_and (thn (ha pins s σ H _ I h) fun c s1 ⟨H1, I1, q1⟩ => ?_)
 cases c with
 | true => exact hb wh pins s1 σ H1 Q I1 q1
 | false => exact ⟨H1, I1, q1⟩
theorem pw_or (ha : PT X a tA) (hb : PW X (.BoolOp .Or (b :: rest) pos) tB') : PW X (.BoolOp .Or (a :: b :: rest) pos) (tOr tA tB') := by
 intro wh pins s σ H Q I h
 refine isTrue_or (thn (ha pins s σ H _ I h) fun c s1 ⟨H1, I1, q1⟩ => ?_)
 cases c with
 | true => exact ⟨H1, I1, q1⟩
 | false => exact hb wh pins s1 σ H1 Q I1 q1
theorem pt_not (ha : PT X a tA) : PT X (.UnaryOp .Not a pos) (tNot tA) := by
 intro pins s σ H Q I h
 exact isTrue_not (ha pins s σ H (fun c H1 => Q (!c) H1) I h)
def tAndV (ta tb : TE) : TE := fun σ H Q => ta σ H fun x H1 => ∃ c, x = .bl c /\ if c = true then tb σ H1 Q else Q (.bl false) H1
def tNotV (ta : TE) : TE := fun σ H Q => ta σ H fun x H1 => ∃ c, x = .bl c /\ Q (.bl (!c)) H1
theorem pe_one {op} {t : TE} (h : PE X a t) : PE X (.BoolOp op [a] pos) t := fun pins s σ H Q I hw => BoolOp_one (h pins s σ H Q I hw)
theorem pe_and (ha : PE X a ta) (hb : PE X (.BoolOp .And (b :: rest) pos) tb) : PE X (.BoolOp .And (a :: b :: rest) pos) (tAndV ta tb) := by
 intro pins s σ H Q I h
 refine BoolOp_and (thn (ha pins s σ H _ I h) fun v s1 ⟨x, H1, I1, r1, q1⟩ => ?_)
 obtain ⟨c, rfl, q1⟩ := q1
 cases r1
 refine wpAny_truthy_bool ?_
 cases c with
 | true => exact hb pins s1 σ H1 Q I1 q1
 | false => exact ⟨.bl false, H1, I1, rfl, q1⟩
theorem pe_not (ha : PE X a ta) : PE X (.UnaryOp .Not a pos) (tNotV ta) := by
 intro pins s σ H Q I h
 refine UnaryOp_ (thn (ha pins s σ H _ I h) fun v s1 ⟨x, H1, I1, r1, q1⟩ => ?_)
 obtain ⟨c, rfl, q1⟩ := q1
 cases r1
 exact not_of (wpAny_truthy_bool ⟨.bl (!c), H1, I1, rfl, q1⟩)
def tIf (t : TT) (ta tb : TE) : TE := fun σ H Q => t σ H fun c H1 => if c = true then ta σ H1 Q else tb σ H1 Q
theorem pe_ifExp {c : Expr} (hc : PT X c tA) (ha : PE X a ta) (hb : PE X b tb) : PE X (.IfExp c a b pos) (tIf tA ta tb) := by
 intro pins s σ H Q I h
 refine wpAny_IfExp (thn (hc pins s σ H _ I h) fun d s1 ⟨H1, I1, q1⟩ => ?_)
 cases d with
 | true => exact ha pins s1 σ H1 Q I1 q1
 | false => exact hb pins s1 σ H1 Q I1 q1
end
end L2
namespace L2
open PySem PySem.Spec PyProof.Rows
def SqL (K : Fg_) (H : Hp) (a : Addr) (xs : List V) : Prop :=
 Rd H a (.lst xs) \/
  ∃ (o : Obj) (its : Array Value) (n : Nat), K.lookup a = some o /\ o.cls = .type "list" /\ o.dict = none /\ o.data = .seq its n /\ its.size <= sizeLine /\ Vals xs its.toList
def SqT (K : Fg_) (H : Hp) (a : Addr) (xs : List V) : Prop :=
 Rd H a (.tup xs) \/
  ∃ (o : Obj) (its : Array Value) (n : Nat), K.lookup a = some o /\ o.cls = .type "tuple" /\ o.data = .seq its n /\ its.size <= sizeLine /\ Vals xs its.toList
def absV : Value -> Option V
 | .none => some .non
 | .bool b => some (.bl b)
 | .int i _ => some (.int i)
 | .str x _ => some (.str x)
 | .bytes b _ => some (.byt b)
 | .float b _ => some (.flt b)
 | .ref a => some (.ref a)
 | .type n => some (.ty n)
 | _ => none
theorem RelV.abs {x : V} {u : Value} (r : RelV x u) : absV u = some x := by
 cases x with
 | non => cases r; rfl
 | bl _ => cases r; rfl
 | int _ => obtain ⟨t, rfl⟩ := r; rfl
 | str _ => obtain ⟨t, rfl⟩ := r; rfl
 | byt _ => obtain ⟨t, rfl⟩ := r; rfl
 | flt _ => obtain ⟨t, rfl⟩ := r; rfl
 | ref _ => cases r; rfl
 | ty _ => cases r; rfl
theorem RelV.inj {x y : V} {u : Value} (r : RelV x u) (q : RelV y u) : x = y := Option.some.inj (r.abs.symm.trans q.abs)
theorem Vals.inj : ∀ {xs ys : List V} {us : List Value}, Vals xs us -> Vals ys us -> xs = ys
 | _, _, _, .nil, .nil => rfl
 | _, _, _, .cons r t, .cons r' t' => by rw [r.inj r', Vals.inj t t']
section
variable {X : Cx} {pins : List (Addr × Obj)} {σ : St} {H : Hp} {s : Shared} {a : Addr} {xs ys : List V}
theorem SqL.of {K : Fg_} (h : H a = some (.lst xs)) : SqL K H a xs := .inl (.inl h)
theorem SqT.of {K : Fg_} (h : H a = some (.tup xs)) : SqT K H a xs := .inl (.inl h)
theorem Inv.list (I : Inv X pins σ H s) (h : SqL X.K H a xs) : ∃ its : List Value, Vals xs its /\ PlainL s.heap a its.toArray /\ xs.length <= sizeLine := by
 rcases h with h | ⟨o, its, n, hk, hc, hd, hs, hz, r⟩
 ·obtain ⟨z, its, n, r, e⟩ := h.ok I.hok
  exact ⟨its, r, ⟨_, n, e, rfl, rfl, rfl⟩, z⟩
 ·refine ⟨its.toList, r, ⟨o, n, I.kIn a o hk, hc, hd, by simpa using hs⟩, ?_⟩
  have e := r.length
  simp only [Array.length_toList] at e
  omega
theorem Inv.tuple (I : Inv X pins σ H s) (h : SqT X.K H a xs) : ∃ its : List Value, Vals xs its /\ IsTup s.heap a its.toArray /\ xs.length <= sizeLine := by
 rcases h with h | ⟨o, its, n, hk, hc, hs, hz, r⟩
 ·obtain ⟨z, its, r, p⟩ := h.ok I.hok
  exact ⟨its, r, p, z⟩
 ·refine ⟨its.toList, r, ⟨o, I.kIn a o hk, hc, n, by simpa using hs⟩, ?_⟩
  have e := r.length
  simp only [Array.length_toList] at e
  omega
theorem Inv.list_inj (I : Inv X pins σ H s) (h : SqL X.K H a xs) (h' : SqL X.K H a ys) : xs = ys := by
 obtain ⟨its, r, ⟨o, n, e, _, _, d⟩, _⟩ := I.list h
 obtain ⟨its', r', ⟨o', n', e', _, _, d'⟩, _⟩ := I.list h'
 rw [e] at e'; cases e'
 rw [d] at d'
 injection d' with d1 _
 have : its = its' := by simpa using congrArg Array.toList d1
 subst this
 exact r.inj r'
theorem Inv.tuple_inj (I : Inv X pins σ H s) (h : SqT X.K H a xs) (h' : SqT X.K H a ys) : xs = ys := by
 obtain ⟨its, r, ⟨o, e, _, n, d⟩, _⟩ := I.tuple h
 obtain ⟨its', r', ⟨o', e', _, n', d'⟩, _⟩ := I.tuple h'
 rw [e] at e'; cases e'
 rw [d] at d'
 injection d' with d1 _
 have : its = its' := by simpa using congrArg Array.toList d1
 subst this
 exact r.inj r'
end
abbrev Cx.wish (X : Cx) (E : Value -> Shared -> Prop) : Cx := { X with xe := E }
abbrev Cx.nox (X : Cx) : Cx := X.wish fun _ _ => False
theorem Cx.Ok.wish {X : Cx} (ok : X.Ok) (E : Value -> Shared -> Prop) : (X.wish E).Ok :=
 ⟨ok.mod, ok.kind, ok.glob, ok.blt, ok.above, ok.inj, ok.has, ok.cab, ok.hd, ok.frames, ok.stk, ok.exf, ok.bs, ok.bsz, ok.noex, ok.exfs, ok.funs, ok.frf⟩
theorem Cx.Ok.unwish {X : Cx} {E : Value -> Shared -> Prop} (ok : (X.wish E).Ok) : X.Ok :=
 ⟨ok.mod, ok.kind, ok.glob, ok.blt, ok.above, ok.inj, ok.has, ok.cab, ok.hd, ok.frames, ok.stk, ok.exf, ok.bs, ok.bsz, ok.noex, ok.exfs, ok.funs, ok.frf⟩
section
variable {X : Cx} {pins : List (Addr × Obj)} {σ : St} {H : Hp} {s : Shared} {E : Value -> Shared -> Prop}
theorem Inv.wish (I : Inv X pins σ H s) (E : Value -> Shared -> Prop) : Inv (X.wish E) pins σ H s := ⟨I.ok.wish E, I.os, I.bare, I.base, I.loc, I.cell, I.free, I.freeC, I.pin, I.hok, I.len⟩
theorem Inv.unwish (I : Inv (X.wish E) pins σ H s) : Inv X pins σ H s := ⟨I.ok.unwish, I.os, I.bare, I.base, I.loc, I.cell, I.free, I.freeC, I.pin, I.hok, I.len⟩
theorem SP.unwish {D : Ends} {f : Flow} {s' : Shared} (h : SP (X.wish E) pins D f s') : SP X pins D f s' := by
 cases f with
 | next => obtain ⟨σ', H', I, q⟩ := h; exact ⟨σ', H', I.unwish, q⟩
 | brk => obtain ⟨σ', H', I, q⟩ := h; exact ⟨σ', H', I.unwish, q⟩
 | cont => obtain ⟨σ', H', I, q⟩ := h; exact ⟨σ', H', I.unwish, q⟩
 | ret u => obtain ⟨v, σ', H', I, r, q⟩ := h; exact ⟨v, σ', H', I.unwish, r, q⟩
theorem PE.nox {e : Expr} {t : TE} (h : PE X.nox e t) : PE X e t := fun pins s σ H Q I hw =>
 wpAny_mono (h pins s σ H Q (I.wish _) hw) (fun _ _ ⟨v, H', I', r, q⟩ => ⟨v, H', I'.unwish, r, q⟩) fun _ _ z => False.elim z
theorem PSs.nox {st : List Stmt} {t : TS} (h : PSs X.nox st t) : PSs X st t := fun pins s σ H D I hw =>
 wpAny_mono (h pins s σ H D (I.wish _) hw) (fun _ _ q => q.unwish) fun _ _ z => False.elim z
end
section
variable {X : Cx} {st : Stmt} {rest : List Stmt} {t u : TS} {e : Expr} {te : TE} {pos : Pos}
def tNext : TS := fun D σ H => D.nx σ H
def tSeq (t u : TS) : TS := fun D σ H => t { D with nx := u D } σ H
theorem pss_nil : PSs X [] tNext := fun _ _ σ H _ I h => wpAny_execs_nil ⟨σ, H, I, h⟩
theorem pss_cons (h1 : PS X st t) (h2 : PSs X rest u) : PSs X (st :: rest) (tSeq t u) := by
 intro pins s σ H D I h
 refine wpAny_execs_cons (thn (h1 pins s σ H { D with nx := u D } I h) fun f s1 q => ?_)
 cases f with
 | next =>
  obtain ⟨σ', H', I', q⟩ := q
  exact h2 pins s1 σ' H' D I' q
 | ret v => exact q
 | brk => exact q
 | cont => exact q
theorem pss_one (h1 : PS X st t) : PSs X [st] t := by
 intro pins s σ H D I h
 refine wpAny_execs_cons (thn (h1 pins s σ H D I h) fun f s1 q => ?_)
 cases f with
 | next => exact wpAny_execs_nil q
 | ret v => exact q
 | brk => exact q
 | cont => exact q
theorem Inv.quiet {pins : List (Addr × Obj)} {σ : St} {H : Hp} {s : Shared} (I : Inv X pins σ H s) : interactive X.env = false := by simp [interactive, I.ok.kind]
def tDrop (te : TE) : TS := fun D σ H => te σ H fun _ H1 => D.nx σ H1
theorem ps_expr (he : PE X e te) (hs : swapsWith e none pos.line X.env = pure false := by rfl) : PS X (.Expr e pos) (tDrop te) := by
 intro pins s σ H D I h
 exact wpAny_Expr_any (thn (he pins s σ H _ I h) fun v s1 ⟨x, H1, I1, r1, q1⟩ => ⟨σ, H1, I1, q1⟩) I.quiet hs
def tRet (te : TE) : TS := fun D σ H => te σ H D.rt
theorem ps_ret (he : PE X e te) : PS X (.Return (some e) pos) (tRet te) := by
 intro pins s σ H D I h
 exact wpAny_Return_some (thn (he pins s σ H _ I h) fun v s1 ⟨x, H1, I1, r1, q1⟩ => ⟨x, σ, H1, I1, r1, q1⟩)
def tIfS (c : TT) (t u : TS) : TS := fun D σ H => c σ H fun b H1 => if b = true then t D σ H1 else u D σ H1
theorem ps_if {c : Expr} {a b : List Stmt} {tc : TT} (hc : PT X c tc) (ha : PSs X a t) (hb : PSs X b u) : PS X (.If c a b pos) (tIfS tc t u) := by
 intro pins s σ H D I h
 refine wpAny_If (thn (hc pins s σ H _ I h) fun d s1 ⟨H1, I1, q1⟩ => ?_)
 cases d with
 | true => exact ha pins s1 σ H1 D I1 q1
 | false => exact hb pins s1 σ H1 D I1 q1
def tNever : TS := fun _ _ _ => False
theorem ps_never : PS X st tNever := fun _ _ _ _ _ _ h => h.elim
end
abbrev TG := V -> St -> Hp -> (St -> Hp -> Prop) -> Prop
abbrev TGs := List V -> St -> Hp -> (St -> Hp -> Prop) -> Prop
def PG (X : Cx) (target : Expr) (t : TG) : Prop :=
 ∀ (pins : List (Addr × Obj)) (s : Shared) (σ : St) (H : Hp) (v : V) (u : Value) (Q : St -> Hp -> Prop), Inv X pins σ H s -> RelV v u -> t v σ H Q ->
  wpAny (model X.prog X.w) X.A (assign target X.env u) (fun _ s' => ∃ σ' H', Inv X pins σ' H' s' /\ Q σ' H') X.xe s
def PGs (X : Cx) (ts : List Expr) (t : TGs) : Prop :=
 ∀ (pins : List (Addr × Obj)) (s : Shared) (σ : St) (H : Hp) (vs : List V) (us : List Value) (Q : St -> Hp -> Prop), Inv X pins σ H s -> Vals vs us -> t vs σ H Q ->
  wpAny (model X.prog X.w) X.A (assignInOrder ((assignEach ts X.env).map (·.2)) us) (fun _ s' => ∃ σ' H', Inv X pins σ' H' s' /\ Q σ' H') X.xe s
section
variable {X : Cx} {pos : Pos}
def gName (i : Nat) : TG := fun v σ H Q => Q (σ.set i (some v)) H
theorem pg_name {i : Nat} {x : Str} (hN : X.N.Nodup) (hi : X.N[i]? = some x) (hx : Loc X.env.scope x) (hf : X.fn x = true \/ X.env.scope.names.lookup x = some .local := by first | exact .inl rfl | exact .inr rfl | assumption) : PG X (.Name x pos) (gName i) := by
 intro pins s σ H v u Q I r h
 exact wpAny_assign_Name (store_ok I hN hi hx r (fun s' I' => ⟨_, H, I', h⟩) hf)
def gNil : TGs := fun vs σ H Q => vs = [] /\ Q σ H
def gCons (t : TG) (u : TGs) : TGs := fun vs σ H Q => ∃ v r, vs = v :: r /\ t v σ H fun σ' H' => u r σ' H' Q
theorem pgs_nil : PGs X [] gNil := by
 intro pins s σ H vs us Q I r h
 obtain ⟨e, h⟩ := h
 subst e
 cases r
 exact assignInOrder_nil ⟨σ, H, I, h⟩
theorem pgs_cons {e : Expr} {es : List Expr} {t : TG} {u : TGs} (h1 : PG X e t) (h2 : PGs X es u)
  (hs : (assignEach (e :: es) X.env).map (·.2) = assign e X.env :: (assignEach es X.env).map (·.2) := by rfl) : PGs X (e :: es) (gCons t u) := by
 intro pins s σ H vs us Q I r h
 obtain ⟨v, vr, e1, h⟩ := h
 subst e1
 cases r with
 | cons r rr =>
  rw [hs]
  refine assignInOrder_cons (thn (h1 pins s σ H _ _ _ I r h) fun _ s1 ⟨σ1, H1, I1, q1⟩ => ?_)
  exact h2 pins s1 σ1 H1 _ _ Q I1 rr q1
def gTup (K : Fg_) (n : Nat) (t : TGs) : TG := fun v σ H Q => ∃ a xs, v = .ref a /\ SqT K H a xs /\ xs.length = n /\ t xs σ H Q
theorem pg_tup {es : List Expr} {k : Nat} {t : TGs} {n : Nat} (hc : X.calm = true) (h : PGs X es t)
  (hn : (assignEach es X.env).length = n := by rfl) (hst : (assignEach es X.env).findIdx? (·.1) = none := by rfl) : PG X (.Tuple es k pos) (gTup X.K n t) := by
 intro pins s σ H v u Q I r hw
 obtain ⟨a, xs, e1, hq, hl, hw⟩ := hw
 subst e1
 cases r
 obtain ⟨its, rv, ht, hz⟩ := I.tuple hq
 refine assign_Tuple_tuple (I.ok.hd hc) ht (by simp [hn, <- hl, rv.length]) hst fun h' hx => ?_
 have I1 : Inv X pins σ H { s with heap := h' } := I.kept (t' := s.toks) fun b o e => hx b o (Nat.ne_of_lt (Heap.lt_size e)) e
 exact h pins _ σ H xs _ Q I1 (by simpa using rv) hw
def tAsg (te : TE) (g : TG) : TS := fun D σ H => te σ H fun x H1 => g x σ H1 D.nx
theorem ps_asg {tg e : Expr} {te : TE} {g : TG} (he : PE X e te) (hg : PG X tg g) (hs : swapsWithSole [tg] e pos.line X.env = pure false := by rfl) (hw : swappedStores [tg] e X.env = pure none := by rfl)
  (h1 : (assignEach [tg] X.env).map (·.2) = [assign tg X.env] := by rfl) : PS X (.Assign [tg] e pos) (tAsg te g) := by
 intro pins s σ H D I h
 refine wpAny_Assign_stores (thn (he pins s σ H _ I h) fun v s1 ⟨x, H1, I1, r1, q1⟩ => ?_) hs hw
 rw [h1]
 exact thn (hg pins s1 σ H1 x v _ I1 r1 q1) fun _ s2 q => q
theorem ps_set {i : Nat} {x : Str} {e : Expr} {te : TE} {pos' : Pos} (hN : X.N.Nodup) (hi : X.N[i]? = some x) (hx : Loc X.env.scope x) (he : PE X e te) (hs : swapsWith e (some (.Name x pos')) pos.line X.env = pure false := by rfl) (hf : X.fn x = true \/ X.env.scope.names.lookup x = some .local := by first | exact .inl rfl | exact .inr rfl | assumption) :
  PS X (.Assign [.Name x pos'] e pos) (tAsg te (gName i)) := by
 intro pins s σ H D I h
 refine wpAny_Assign_Name (thn (he pins s σ H _ I h) fun v s1 ⟨y, H1, I1, r1, q1⟩ => ?_) hs
 exact store_ok I1 hN hi hx r1 (fun s2 I2 => ⟨_, H1, I2, q1⟩) hf
end
section
variable {X : Cx} {pos : Pos}
def tWhile (c : TT) (tb : TS) : TS := fun D σ H => ∃ W : Nat -> St -> Hp -> Prop, (∃ m, W m σ H) /\ ∀ m σ H, W m σ H ->
 c σ H fun b H1 => if b = true then ∃ N : St -> Hp -> Prop, (∀ σ' H', N σ' H' -> ∃ m', m' < m /\ W m' σ' H') /\ tb { D with nx := N, ct := N, bk := D.nx } σ H1 else D.nx σ H1
theorem ps_while {c : Expr} {body : List Stmt} {tc : TT} {tb : TS} (hp : PassesOwn (model X.prog X.w) X.A X.env X.xe) (hc : PT X c tc) (hb : PSs X body tb) : PS X (.While c body [] pos) (tWhile tc tb) := by
 intro pins s σ H D I h
 obtain ⟨W, ⟨m0, w0⟩, turn⟩ := h
 refine wpAny_While (codeAny_whileLoop (fun n s' => ∃ σ' H', Inv X pins σ' H' s' /\ W n σ' H') ?_ m0 ⟨σ, H, I, w0⟩)
 rintro n s1 ⟨σ1, H1, I1, w1⟩
 refine wpAny_passesOwn hp (thn (hc pins s1 σ1 H1 _ I1 (turn n σ1 H1 w1)) fun b s2 ⟨H2, I2, q2⟩ => ?_)
 cases b with
 | true =>
  obtain ⟨N, hN, q2⟩ := q2
  rw [if_pos rfl]
  refine wpAny_passesOwn hp (thn (hb pins s2 σ1 H2 _ I2 q2) fun f s3 q3 => ?_)
  cases f with
  | next =>
   obtain ⟨σ3, H3, I3, n3⟩ := q3
   obtain ⟨m', hm, w3⟩ := hN σ3 H3 n3
   exact ⟨m', hm, σ3, H3, I3, w3⟩
  | cont =>
   obtain ⟨σ3, H3, I3, n3⟩ := q3
   obtain ⟨m', hm, w3⟩ := hN σ3 H3 n3
   exact ⟨m', hm, σ3, H3, I3, w3⟩
  | brk => exact q3
  | ret v => exact q3
 | false =>
  rw [if_neg Bool.false_ne_true]
  exact wpAny_execs_nil ⟨σ1, H2, I2, q2⟩
end
structure It where
 go : Nat -> Hp -> Prop
 yld : Nat -> Hp -> V -> Hp -> Prop
 stop : Nat -> Hp -> Prop
def FpOk (X : Cx) (pins : List (Addr × Obj)) (H : Hp) (b : Addr) : Prop :=
 H b = none /\ b ≠ X.env.locals /\ b ∉ X.fs /\ (b ∈ X.ex \/ X.s₀.heap.objs.size <= b) /\ (∀ x c, X.env.cells.lookup x = some c -> c ≠ b) /\ ∀ p ∈ X.pn ++ pins, p.1 ≠ b
theorem Inv.fpOk {X : Cx} {pins : List (Addr × Obj)} {σ : St} {H H' : Hp} {s : Shared} {b : Addr} (I : Inv X pins σ H s) (hb : s.heap.objs.size <= b) (hn : H' b = none) : FpOk X pins H' b := by
 refine ⟨hn, Nat.ne_of_gt (Nat.lt_of_lt_of_le I.lt hb), I.nofs hb, .inr (Nat.le_trans I.sz hb), fun x c e z => ?_, fun p hp z => ?_⟩
 ·obtain ⟨v, q⟩ := I.cell x c e
  exact absurd (Nat.lt_of_lt_of_le q.lt (by rw [z]; exact hb)) (Nat.lt_irrefl _)
 ·exact absurd (Nat.lt_of_lt_of_le (Heap.lt_size (I.pin p hp).1) (by rw [z]; exact hb)) (Nat.lt_irrefl _)
structure Turn (P : Program) (w : World) (K : Fg_) (tg : Expr) (J : It) (fp : List Addr) (it : Addr) (tn : Nat -> Heap -> Prop) : Prop where
 mem : it ∈ fp
 obj : ∀ i h, tn i h -> ∀ b ∈ fp, ∃ o, h.get? b = some o /\ ∀ v, o.data ≠ .cell v
 keep : ∀ i h h', tn i h -> (∀ b ∈ fp, ∀ o, h.get? b = some o -> h'.get? b = some o) -> tn i h'
 item : ∀ (X : Cx), X.prog = P -> X.w = w -> X.K = K -> X.calm = true -> ∀ (i : Nat) (pins : List (Addr × Obj)) (s : Shared) (σ : St) (H : Hp) (E : Value -> Shared -> Prop), Inv X pins σ H s -> (∀ b ∈ fp, FpOk X pins H b) -> tn i s.heap -> J.go i H ->
  wpAny (model P w) X.A (pyNext (.ref it)) (fun r s1 => ∃ u, r = some u /\
   wpAny (model P w) X.A (letOwnedTupleGo tg (.ref it) u) (fun _ s2 => ∃ x H', Inv X pins σ H' s2 /\ RelV x u /\ J.yld i H x H' /\ tn (i + 1) s2.heap /\ ∀ b ∈ fp, H' b = none) E s1) E s
 done : ∀ (X : Cx), X.prog = P -> X.w = w -> X.K = K -> X.calm = true -> ∀ (i : Nat) (pins : List (Addr × Obj)) (s : Shared) (σ : St) (H : Hp) (E : Value -> Shared -> Prop), Inv X pins σ H s -> (∀ b ∈ fp, FpOk X pins H b) -> tn i s.heap -> J.stop i H ->
  wpAny (model P w) X.A (pyNext (.ref it)) (fun r s1 => r = none /\ Inv X pins σ H s1) E s
 self : ∀ (A : Around) (i : Nat) (s : Shared) (Q : Value -> Shared -> Prop) (E : Value -> Shared -> Prop), tn i s.heap -> Q (.ref it) s -> wpAny (model P w) A (pyIter (.ref it)) Q E s
abbrev TI := St -> Hp -> (It -> Hp -> Prop) -> Prop
def PIE (X : Cx) (pins : List (Addr × Obj)) (σ : St) (tg : Expr) (R : It -> Hp -> Prop) (itv : Value) (s2 : Shared) : Prop :=
 ∃ (it : Addr) (fp : List Addr) (tn : Nat -> Heap -> Prop) (J : It) (H' : Hp), itv = .ref it /\ Inv X pins σ H' s2 /\ Turn X.prog X.w X.K tg J fp it tn /\ tn 0 s2.heap /\ (∀ b ∈ fp, FpOk X pins H' b) /\ R J H'
def PI (X : Cx) (tg iter : Expr) (wi : TI) : Prop :=
 ∀ (pins : List (Addr × Obj)) (s : Shared) (σ : St) (H : Hp) (R : It -> Hp -> Prop), Inv X pins σ H s -> wi σ H R ->
  wpAny (model X.prog X.w) X.A (eval iter X.env) (fun v s1 => wpAny (model X.prog X.w) X.A (pyIter v) (PIE X pins σ tg R) X.xe s1) X.xe s
theorem go_of {M : Model} {A : Around} {E : Value -> Shared -> Prop} {s : Shared} {tg : Expr} {it : Addr} {u : Value} {o : Obj} {n : String} {vs : Array Value} {Q : Unit -> Shared -> Prop} (ho : s.heap.get? it = some o) (hc : o.cls = .type n) (hd : o.data = .fields vs)
  (hn : ["enumerate", "zip", "dict_itemiterator", "dict_reverseitemiterator", "odict_iterator", "itertools.zip_longest", "itertools.pairwise"].contains n = false) (hQ : Q () s) : wpAny M A (letOwnedTupleGo tg (.ref it) u) Q E s := by
 unfold letOwnedTupleGo
 cases tg <;> first
  | exact wpAny_pure hQ
  | (cases u <;> first
    | exact wpAny_pure hQ
    | (refine wpAny_bind (wpAny_load ho ?_)
       rw [hc, hd]
       show wpAny M A (if (["enumerate", "zip", "dict_itemiterator", "dict_reverseitemiterator", "odict_iterator", "itertools.zip_longest", "itertools.pairwise"].contains n && vs[0]? == some (rawInt _)) = true then _ else _) Q E s
       rw [if_neg (by intro h; rw [hn, Bool.false_and] at h; cases h)]
       exact wpAny_pure hQ))
def Itl (K : Fg_) (a : Addr) : It :=
 ⟨fun i H => ∃ xs x, SqL K H a xs /\ xs[i]? = some x, fun i H x H' => H' = H /\ ∀ xs, SqL K H a xs -> xs[i]? = some x, fun i H => ∃ xs, SqL K H a xs /\ xs.length <= i⟩
def Itt (K : Fg_) (a : Addr) : It :=
 ⟨fun i H => ∃ xs x, SqT K H a xs /\ xs[i]? = some x, fun i H x H' => H' = H /\ ∀ xs, SqT K H a xs -> xs[i]? = some x, fun i H => ∃ xs, SqT K H a xs /\ xs.length <= i⟩
def Itr (lo : Int) (n : Nat) : It := ⟨fun i _ => i < n, fun i H x H' => H' = H /\ x = .int (lo + i), fun i _ => n <= i⟩
theorem turn_list {P : Program} {w : World} {K : Fg_} {tg : Expr} (a it : Addr) : Turn P w K tg (Itl K a) [it] it (fun i h => h.IsListIter it a i) where
 mem := by simp
 obj := fun i h st b hb => by
  have e : b = it := by simpa using hb
  subst e
  obtain ⟨o, e, c, d⟩ := st
  exact ⟨o, e, fun v z => by rw [d] at z; cases z⟩
 keep := fun i h h' st k => st.at fun o e => k it (by simp) o e
 item := by
  intro X hP hw hK hc i pins s σ H E I hf st hg
  subst hP hw hK
  obtain ⟨xs, x, hq, hx⟩ := hg
  obtain ⟨its, rv, p, hz⟩ := I.list hq
  obtain ⟨u, hu, ru⟩ := rv.get hx
  obtain ⟨f0, f1, f2, f3, f4, f5⟩ := hf it (by simp)
  refine wpAny_pyNext_list_item st p.isList (x := u) (by simpa using hu) fun h' st' sb => ?_
  have I1 : Inv X pins σ H { s with heap := h' } := I.turned (t' := s.toks) (fun b o hb e => (sb.2 b hb).trans e) f0 f1 f3 f4 f5
  obtain ⟨o, e, c, d⟩ := id st'
  exact ⟨u, rfl, go_of (s := { s with heap := h' }) e c d (by decide) ⟨x, H, I1, ru, ⟨rfl, fun ys hy => by rw [I.list_inj hy hq]; exact hx⟩, st', fun b hb => (hf b hb).1⟩⟩
 done := by
  intro X hP hw hK hc i pins s σ H E I hf st hg
  subst hP hw hK
  obtain ⟨xs, hq, hx⟩ := hg
  obtain ⟨its, rv, p, hz⟩ := I.list hq
  obtain ⟨f0, f1, f2, f3, f4, f5⟩ := hf it (by simp)
  have hl := rv.length
  exact wpAny_pyNext_list_end (I.ok.hd hc) st p.isList (by simp; omega) fun h' eb => ⟨rfl, I.turned (t' := s.toks) (fun b o hb e => eb b o hb e) f0 f1 f3 f4 f5⟩
 self := fun _ _ _ _ _ st h => wpAny_pyIter_listiter st h
theorem turn_tuple {P : Program} {w : World} {K : Fg_} {tg : Expr} (a it : Addr) : Turn P w K tg (Itt K a) [it] it (fun i h => h.IsTupleIter it a i) where
 mem := by simp
 obj := fun i h st b hb => by
  have e : b = it := by simpa using hb
  subst e
  obtain ⟨o, e, c, d⟩ := st
  exact ⟨o, e, fun v z => by rw [d] at z; cases z⟩
 keep := fun i h h' st k => st.at fun o e => k it (by simp) o e
 item := by
  intro X hP hw hK hc i pins s σ H E I hf st hg
  subst hP hw hK
  obtain ⟨xs, x, hq, hx⟩ := hg
  obtain ⟨its, rv, p, hz⟩ := I.tuple hq
  obtain ⟨u, hu, ru⟩ := rv.get hx
  obtain ⟨f0, f1, f2, f3, f4, f5⟩ := hf it (by simp)
  refine wpAny_pyNext_tuple_item st (show s.heap.IsTuple a its.toArray from p) (x := u) (by simpa using hu) fun h' st' sb => ?_
  have I1 : Inv X pins σ H { s with heap := h' } := I.turned (t' := s.toks) (fun b o hb e => (sb.2 b hb).trans e) f0 f1 f3 f4 f5
  obtain ⟨o, e, c, d⟩ := id st'
  exact ⟨u, rfl, go_of (s := { s with heap := h' }) e c d (by decide) ⟨x, H, I1, ru, ⟨rfl, fun ys hy => by rw [I.tuple_inj hy hq]; exact hx⟩, st', fun b hb => (hf b hb).1⟩⟩
 done := by
  intro X hP hw hK hc i pins s σ H E I hf st hg
  subst hP hw hK
  obtain ⟨xs, hq, hx⟩ := hg
  obtain ⟨its, rv, p, hz⟩ := I.tuple hq
  obtain ⟨f0, f1, f2, f3, f4, f5⟩ := hf it (by simp)
  have hl := rv.length
  exact wpAny_pyNext_tuple_end (I.ok.hd hc) st (show s.heap.IsTuple a its.toArray from p) (by simp; omega) fun h' eb => ⟨rfl, I.turned (t' := s.toks) (fun b o hb e => eb b o hb e) f0 f1 f3 f4 f5⟩
 self := fun _ _ _ _ _ st h => wpAny_pyIter_tupleiter st h
theorem turn_range {P : Program} {w : World} {K : Fg_} {tg : Expr} (it : Addr) (lo : Int) (n : Nat) : Turn P w K tg (Itr lo n) [it] it (fun i h => IsRangeIter h it (lo + (i : Nat) * 1) ((n : Int) - (i : Nat)) 1) where
 mem := by simp
 obj := fun i h st b hb => by
  have e : b = it := by simpa using hb
  subst e
  exact ⟨_, st, fun v z => by
   have z' : Data.fields _ = Data.cell v := z
   cases z'⟩
 keep := fun i h h' st k => k it (by simp) _ st
 item := by
  intro X hP hw hK hc i pins s σ H E I hf st hg
  subst hP hw hK
  obtain ⟨f0, f1, f2, f3, f4, f5⟩ := hf it (by simp)
  have W := Walks.range (prog := X.prog) (w := X.w) (I.ok.hd hc) it lo 1 n
  refine W.item i s _ _ hg st fun v h' tk hv st' kk => ?_
  obtain ⟨t, rfl⟩ := hv
  have I1 : Inv X pins σ H { s with heap := h', toks := tk } := I.turned (fun b o hb e => kk b o (by simpa using hb) e) f0 f1 f3 f4 f5
  refine ⟨_, rfl, go_of (s := { s with heap := h', toks := tk }) (n := "range_iterator") st' rfl rfl (by decide) ⟨.int (lo + i), H, I1, ⟨t, ?_⟩, ⟨rfl, rfl⟩, st', fun b hb => (hf b hb).1⟩⟩
  rw [Int.mul_one]
 done := by
  intro X hP hw hK hc i pins s σ H E I hf st hg
  subst hP hw hK
  obtain ⟨f0, f1, f2, f3, f4, f5⟩ := hf it (by simp)
  exact wpAny_pyNext_range_end (I.ok.hd hc) st (by have : n <= i := hg; omega) fun h' eb => ⟨rfl, I.turned (t' := s.toks) (fun b o hb e => eb b o hb e) f0 f1 f3 f4 f5⟩
 self := fun _ _ _ _ _ st h => wpAny_pyIter_rangeiter st h
end L2
namespace L2
open PySem PySem.Spec PyProof.Rows
section
variable {X : Cx} {tg : Expr}
def iList (K : Fg_) (tl : TE) : TI := fun σ H R => tl σ H fun x H1 => ∃ a, x = .ref a /\ (∃ xs, SqL K H1 a xs) /\ R (Itl K a) H1
def iTup (K : Fg_) (tl : TE) : TI := fun σ H R => tl σ H fun x H1 => ∃ a, x = .ref a /\ (∃ xs, SqT K H1 a xs) /\ R (Itt K a) H1
theorem pi_list {l : Expr} {tl : TE} (hl : PE X l tl) : PI X tg l (iList X.K tl) := by
 intro pins s σ H R I h
 refine thn (hl pins s σ H _ I h) fun v s1 ⟨x, H1, I1, r1, q1⟩ => ?_
 obtain ⟨a, e, ⟨xs, hq⟩, q⟩ := q1
 subst e
 cases r1
 obtain ⟨its, rv, p, hz⟩ := I1.list hq
 refine wpAny_pyIter_list p.isList ?_
 refine ⟨s1.heap.objs.size, [s1.heap.objs.size], _, _, H1, rfl, I1.kept (t' := s1.toks) fun b o e => Heap.get?_push_of_some _ e, turn_list a _, ⟨_, Heap.get?_push_size _ rfl, rfl, rfl⟩, fun b hb => ?_, q⟩
 have e : b = s1.heap.objs.size := by simpa using hb
 subst e
 exact I1.fpOk (Nat.le_refl _) (I1.hok.fresh (Nat.le_refl _))
theorem pi_tup {l : Expr} {tl : TE} (hl : PE X l tl) : PI X tg l (iTup X.K tl) := by
 intro pins s σ H R I h
 refine thn (hl pins s σ H _ I h) fun v s1 ⟨x, H1, I1, r1, q1⟩ => ?_
 obtain ⟨a, e, ⟨xs, hq⟩, q⟩ := q1
 subst e
 cases r1
 obtain ⟨its, rv, p, hz⟩ := I1.tuple hq
 refine wpAny_pyIter_tuple (show s1.heap.IsTuple a its.toArray from p) ?_
 refine ⟨s1.heap.objs.size, [s1.heap.objs.size], _, _, H1, rfl, I1.kept (t' := s1.toks) fun b o e => Heap.get?_push_of_some _ e, turn_tuple a _, ⟨_, Heap.get?_push_size _ rfl, rfl, rfl⟩, fun b hb => ?_, q⟩
 have e : b = s1.heap.objs.size := by simpa using hb
 subst e
 exact I1.fpOk (Nat.le_refl _) (I1.hok.fresh (Nat.le_refl _))
theorem range_it {pins : List (Addr × Obj)} {σ : St} {H : Hp} {s : Shared} {R : It -> Hp -> Prop} {E : Value -> Shared -> Prop} {lo hi : Int} {t u v : Tok} {tk : Nat} (I : Inv X pins σ H s) (h1 : -(2 ^ 62) <= lo) (h2 : lo < 2 ^ 62) (h3 : -(2 ^ 62) <= hi) (h4 : hi < 2 ^ 62)
  (q : R (Itr lo (hi - lo).toNat) H) : wpAny (model X.prog X.w) X.A (pyIter (.ref s.heap.objs.size)) (PIE X pins σ tg R) E { s with heap := s.heap.push { cls := .type "range", data := .fields #[.int lo t, .int hi u, .int 1 v] }, toks := tk } := by
 refine wpAny_pyIter_range (IsRange.new ..) (small_one h1 h2 h3 h4) ?_
 have I1 : Inv X pins σ H { s with heap := s.heap.push { cls := .type "range", data := .fields #[.int lo t, .int hi u, .int 1 v] }, toks := tk } := I.kept fun b o e => Heap.get?_push_of_some _ e
 refine ⟨(s.heap.push { cls := .type "range", data := .fields #[.int lo t, .int hi u, .int 1 v] }).objs.size, [(s.heap.push { cls := .type "range", data := .fields #[.int lo t, .int hi u, .int 1 v] }).objs.size], _, _, H, rfl,
  I1.kept (t' := tk) fun b o e => Heap.get?_push_of_some _ e, turn_range _ lo (hi - lo).toNat, ?_, fun b hb => ?_, q⟩
 ·have e1 : lo + ((0 : Nat) : Int) * 1 = lo := by simp
  have e2 : (((hi - lo).toNat : Nat) : Int) - ((0 : Nat) : Int) = Builtin.Range.rangeSize lo hi 1 := by rw [rangeSize_one]; split <;> omega
  show IsRangeIter _ _ (lo + ((0 : Nat) : Int) * 1) ((((hi - lo).toNat : Nat) : Int) - ((0 : Nat) : Int)) 1
  rw [e1, e2]
  exact Heap.get?_push_size _ rfl
 ·have e : b = (s.heap.push { cls := .type "range", data := .fields #[.int lo t, .int hi u, .int 1 v] }).objs.size := by simpa using hb
  subst e
  exact I1.fpOk (Nat.le_refl _) (I1.hok.fresh (Nat.le_refl _))
def iRng1 (ta : TA) : TI := fun σ H R => ta σ H fun vs H1 => ∃ j : Int, vs = [.int j] /\ -(2 ^ 62) <= j /\ j < 2 ^ 62 /\ R (Itr 0 j.toNat) H1
theorem pi_range1 {a : Expr} {ta : TA} {p pos : Pos} (hg : Gl X "range") (hm : X.mg "range" = none) (ha : PA X [a] ta) (hs : starEach [a] X.env = [(false, eval a X.env)] := by rfl) : PI X tg (.Call (.Name "range" p) [a] [] pos) (iRng1 ta) := by
 intro pins s σ H R I h
 refine Call_ (ld_blt I hg hm boot_range (PyProof.Rows.callWith_type1 (thn (ha pos pins s σ H _ I h) fun us s1 ⟨vs, H1, I1, r1, q1⟩ => ?_) hs rfl))
 obtain ⟨j, e, q1, q2, q⟩ := q1
 subst e
 cases r1 with
 | cons r rr =>
  cases rr
  obtain ⟨t, rfl⟩ := r
  exact call_range_1 (range_it I1 (by omega) (by omega) q1 q2 (by simpa using q))
def tFor (wi : TI) (g : TG) (tb : TS) : TS := fun D σ H => wi σ H fun J H1 => ∃ W : Nat -> Nat -> St -> Hp -> Prop, (∃ m, W 0 m σ H1) /\ ∀ i m σ H, W i m σ H ->
 (J.stop i H /\ D.nx σ H) \/ (J.go i H /\ ∃ N : St -> Hp -> Prop, (∀ σ' H', N σ' H' -> ∃ m', m' < m /\ W (i + 1) m' σ' H') /\ ∀ x H', J.yld i H x H' -> g x σ H' fun σ2 H2 => tb { D with nx := N, ct := N, bk := D.nx } σ2 H2)
def pinsAt (fp : List Addr) (h : Heap) : List (Addr × Obj) := fp.filterMap fun b => (h.get? b).map fun o => (b, o)
theorem mem_pinsAt {fp : List Addr} {h : Heap} {b : Addr} {o : Obj} (hb : b ∈ fp) (e : h.get? b = some o) : (b, o) ∈ pinsAt fp h := List.mem_filterMap.mpr ⟨b, hb, by rw [e]; rfl⟩
theorem of_pinsAt {fp : List Addr} {h : Heap} {p : Addr × Obj} (hp : p ∈ pinsAt fp h) : p.1 ∈ fp /\ h.get? p.1 = some p.2 := by
 obtain ⟨b, hb, e⟩ := List.mem_filterMap.mp hp
 cases q : h.get? b with
 | none => rw [q] at e; cases e
 | some o =>
  rw [q] at e
  have e' : (b, o) = p := Option.some.inj e
  subst e'
  exact ⟨hb, q⟩
theorem Inv.pinned {pins : List (Addr × Obj)} {σ : St} {H : Hp} {s : Shared} {fp : List Addr} (I : Inv X pins σ H s) (hf : ∀ b ∈ fp, FpOk X pins H b) (ho : ∀ b ∈ fp, ∃ o, s.heap.get? b = some o /\ ∀ v, o.data ≠ .cell v) : Inv X (pins ++ pinsAt fp s.heap) σ H s :=
 I.pins_of fun p hp => (List.mem_append.mp hp).elim (fun z => I.pin p (List.mem_append_right _ z)) fun z => by
  obtain ⟨hb, e⟩ := of_pinsAt z
  obtain ⟨f0, f1, f2, _⟩ := hf p.1 hb
  obtain ⟨o, e', d⟩ := ho p.1 hb
  rw [e] at e'; cases e'
  exact ⟨e, f0, f1, f2, d⟩
theorem Inv.unpinned {pins pl : List (Addr × Obj)} {σ : St} {H : Hp} {s : Shared} (I : Inv X (pins ++ pl) σ H s) : Inv X pins σ H s := I.pins_of fun p hp => I.pin p (List.mem_append_right _ (List.mem_append_left _ hp))
theorem ps_for {iter : Expr} {body : List Stmt} {wi : TI} {g : TG} {tb : TS} {pos : Pos} (hp : PassesOwn (model X.prog X.w) X.A X.env X.xe) (hc : X.calm = true) (hi : PI X tg iter wi) (hg : PG X tg g) (hb : PSs X body tb)
  (hs : ∀ x, foldedSetIterable iter X.env x = pure x := by intro _; rfl) : PS X (.For tg iter body [] pos) (tFor wi g tb) := by
 intro pins s σ H D I h
 refine wpAny_For (thn (hi pins s σ H _ I h) fun v s1 h1 => thn h1 fun itv s2 h2 => ?_) hs
 obtain ⟨it, fp, tn, J, H2, e, I2, T, st2, f2, W, ⟨m0, w0⟩, turn⟩ := h2
 subst e
 have stat : ∀ {H' : Hp}, (∀ b ∈ fp, H' b = none) -> ∀ b ∈ fp, FpOk X pins H' b := fun hn b hb => ⟨hn b hb, (f2 b hb).2⟩
 refine codeAny_forLoop_any (fun n s' => ∃ i σ' H', Inv X pins σ' H' s' /\ tn i s'.heap /\ (∀ b ∈ fp, H' b = none) /\ W i n σ' H') ?_ m0 ⟨0, σ, H2, I2, st2, fun b hb => (f2 b hb).1, w0⟩
 rintro n s3 ⟨i, σ3, H3, I3, st3, fr3, w3⟩
 rcases turn i n σ3 H3 w3 with ⟨stop, qn⟩ | ⟨go, N, hN, step⟩
 ·refine wpAny_passesOwn hp (thn (T.done X rfl rfl rfl hc i pins s3 σ3 H3 X.xe I3 (stat fr3) st3 stop) fun r s4 ⟨hr, I4⟩ => ?_)
  subst hr
  exact wpAny_execs_nil ⟨σ3, H3, I4, qn⟩
 ·refine wpAny_passesOwn hp (thn (T.item X rfl rfl rfl hc i pins s3 σ3 H3 X.xe I3 (stat fr3) st3 go) fun r s4 ⟨u, hr, h4⟩ => ?_)
  subst hr
  refine wpAny_passesOwn hp (thn h4 fun _ s5 ⟨x, H5, I5, r5, y5, st5, fr5⟩ => ?_)
  have I5' := I5.pinned (stat fr5) (T.obj _ _ st5)
  refine wpAny_passesOwn hp (thn (hg _ s5 σ3 H5 x u _ I5' r5 (step x H5 y5)) fun _ s6 ⟨σ6, H6, I6, q6⟩ => ?_)
  refine wpAny_passesOwn hp (thn (hb _ s6 σ6 H6 _ I6 q6) fun f s7 q7 => ?_)
  have again : ∀ {σ7 : St} {H7 : Hp}, Inv X (pins ++ pinsAt fp s5.heap) σ7 H7 s7 -> N σ7 H7 -> ∃ m, m < n /\ ∃ i σ' H', Inv X pins σ' H' s7 /\ tn i s7.heap /\ (∀ b ∈ fp, H' b = none) /\ W i m σ' H' := fun {σ7 H7} I7 n7 => by
   obtain ⟨m', hm, w7⟩ := hN σ7 H7 n7
   refine ⟨m', hm, i + 1, σ7, H7, I7.unpinned, T.keep _ _ _ st5 fun b hb o e => (I7.pin (b, o) (List.mem_append_right _ (List.mem_append_right _ (mem_pinsAt hb e)))).1, fun b hb => ?_, w7⟩
   obtain ⟨o, e, d⟩ := T.obj _ _ st5 b hb
   exact (I7.pin (b, o) (List.mem_append_right _ (List.mem_append_right _ (mem_pinsAt hb e)))).2.1
  cases f with
  | next => obtain ⟨σ7, H7, I7, n7⟩ := q7; exact again I7 n7
  | cont => obtain ⟨σ7, H7, I7, n7⟩ := q7; exact again I7 n7
  | brk => obtain ⟨σ7, H7, I7, q7⟩ := q7; exact ⟨σ7, H7, I7.unpinned, q7⟩
  | ret v => obtain ⟨x7, σ7, H7, I7, r7, q7⟩ := q7; exact ⟨x7, σ7, H7, I7.unpinned, r7, q7⟩
end
theorem for_list {K : Fg_} {a : Addr} {xs : List V} {g : TG} {tb : TS} {D : Ends} {σ : St} {H : Hp} (Pv : Nat -> St -> Hp -> Prop) (h0 : Pv 0 σ H) (hl : ∀ i σ H, i <= xs.length -> Pv i σ H -> SqL K H a xs)
  (hs : ∀ i x σ H, xs[i]? = some x -> Pv i σ H -> g x σ H fun σ2 H2 => tb { D with nx := Pv (i + 1), ct := Pv (i + 1), bk := D.nx } σ2 H2) (hd : ∀ σ H, Pv xs.length σ H -> D.nx σ H) :
  ∃ W : Nat -> Nat -> St -> Hp -> Prop, (∃ m, W 0 m σ H) /\ ∀ i m σ H, W i m σ H ->
   ((Itl K a).stop i H /\ D.nx σ H) \/ ((Itl K a).go i H /\ ∃ N : St -> Hp -> Prop, (∀ σ' H', N σ' H' -> ∃ m', m' < m /\ W (i + 1) m' σ' H') /\ ∀ x H', (Itl K a).yld i H x H' -> g x σ H' fun σ2 H2 => tb { D with nx := N, ct := N, bk := D.nx } σ2 H2) := by
 refine ⟨fun i m σ H => m = xs.length - i /\ i <= xs.length /\ Pv i σ H, ⟨xs.length, by simp, Nat.zero_le _, h0⟩, ?_⟩
 rintro i m σ H ⟨rfl, hi, p⟩
 have q := hl i σ H hi p
 by_cases hlt : i < xs.length
 ·refine .inr ⟨⟨xs, xs[i], q, by simp [hlt]⟩, Pv (i + 1), fun σ' H' p' => ⟨xs.length - (i + 1), by omega, rfl, hlt, p'⟩, fun x H' y => ?_⟩
  obtain ⟨e, y⟩ := y
  subst e
  exact hs i x σ _ (y xs q) p
 ·have e : i = xs.length := by omega
  subst e
  exact .inl ⟨⟨xs, q, Nat.le_refl _⟩, hd σ H p⟩
theorem for_range {lo : Int} {n : Nat} {g : TG} {tb : TS} {D : Ends} {σ : St} {H : Hp} (Pv : Nat -> St -> Hp -> Prop) (h0 : Pv 0 σ H)
  (hs : ∀ i σ H, i < n -> Pv i σ H -> g (.int (lo + i)) σ H fun σ2 H2 => tb { D with nx := Pv (i + 1), ct := Pv (i + 1), bk := D.nx } σ2 H2) (hd : ∀ σ H, Pv n σ H -> D.nx σ H) :
  ∃ W : Nat -> Nat -> St -> Hp -> Prop, (∃ m, W 0 m σ H) /\ ∀ i m σ H, W i m σ H ->
   ((Itr lo n).stop i H /\ D.nx σ H) \/ ((Itr lo n).go i H /\ ∃ N : St -> Hp -> Prop, (∀ σ' H', N σ' H' -> ∃ m', m' < m /\ W (i + 1) m' σ' H') /\ ∀ x H', (Itr lo n).yld i H x H' -> g x σ H' fun σ2 H2 => tb { D with nx := N, ct := N, bk := D.nx } σ2 H2) := by
 refine ⟨fun i m σ H => m = n - i /\ i <= n /\ Pv i σ H, ⟨n, by simp, Nat.zero_le _, h0⟩, ?_⟩
 rintro i m σ H ⟨rfl, hi, p⟩
 by_cases hlt : i < n
 ·refine .inr ⟨hlt, Pv (i + 1), fun σ' H' p' => ⟨n - (i + 1), by omega, rfl, hlt, p'⟩, fun x H' y => ?_⟩
  obtain ⟨e, y⟩ := y
  subst e y
  exact hs i σ _ hlt p
 ·have e : i = n := by omega
  subst e
  exact .inl ⟨Nat.le_refl _, hd σ H p⟩
end L2
namespace L2
open PySem PySem.Spec PyProof.Rows
abbrev R2 := V -> V -> Hp -> VK -> Prop
def OpR (X : Cx) (f : Value -> Value -> Sem Value) (r : R2) : Prop :=
 ∀ (pins : List (Addr × Obj)) (s : Shared) (σ : St) (H : Hp) (x y : V) (v u : Value) (Q : VK), Inv X pins σ H s -> RelV x v -> RelV y u -> r x y H Q ->
  wpAny (model X.prog X.w) X.A (f v u) (EP X pins σ Q) X.xe s
def UnR (X : Cx) (f : Value -> Sem Value) (r : V -> Hp -> VK -> Prop) : Prop :=
 ∀ (pins : List (Addr × Obj)) (s : Shared) (σ : St) (H : Hp) (x : V) (v : Value) (Q : VK), Inv X pins σ H s -> RelV x v -> r x H Q ->
  wpAny (model X.prog X.w) X.A (f v) (EP X pins σ Q) X.xe s
def CallR (X : Cx) (f : Value) (r : List V -> Hp -> VK -> Prop) : Prop :=
 ∀ (pins : List (Addr × Obj)) (s : Shared) (σ : St) (H : Hp) (xs : List V) (us : List Value) (Q : VK), Inv X pins σ H s -> Vals xs us -> r xs H Q ->
  wpAny (model X.prog X.w) X.A (call f us) (EP X pins σ Q) X.xe s
def tOp (r : R2) (ta tb : TE) : TE := fun σ H Q => ta σ H fun x H1 => tb σ H1 fun y H2 => r x y H2 Q
def tUn (r : V -> Hp -> VK -> Prop) (ta : TE) : TE := fun σ H Q => ta σ H fun x H1 => r x H1 Q
def rI (C : Int -> Int -> Prop) (g : Int -> Int -> V) : R2 := fun x y H Q => ∃ i j, x = .int i /\ y = .int j /\ C i j /\ Q (g i j) H
def rI0 (g : Int -> Int -> V) : R2 := fun x y H Q => ∃ i j, x = .int i /\ y = .int j /\ Q (g i j) H
def rU (g : Int -> V) : V -> Hp -> VK -> Prop := fun x H Q => ∃ i, x = .int i /\ Q (g i) H
section
variable {X : Cx} {a b c : Expr} {ta tb tc : TE} {pos : Pos}
theorem binT (ha : PE X a ta) (hb : PE X b tb) {pins : List (Addr × Obj)} {s : Shared} {σ : St} {H : Hp} {R : V -> V -> Hp -> Prop} (I : Inv X pins σ H s)
  (h : ta σ H fun x H1 => tb σ H1 fun y H2 => R x y H2) {Q : Value -> Shared -> Prop} {f : Value -> Value -> Sem Value}
  (hf : ∀ v u s2 x y H2, Inv X pins σ H2 s2 -> RelV x v -> RelV y u -> R x y H2 -> wpAny (model X.prog X.w) X.A (f v u) Q X.xe s2) :
  wpAny (model X.prog X.w) X.A (eval a X.env) (fun v s₁ => wpAny (model X.prog X.w) X.A (eval b X.env) (fun u s₂ => wpAny (model X.prog X.w) X.A (f v u) Q X.xe s₂) X.xe s₁) X.xe s := by
 refine thn (ha pins s σ H _ I h) fun v s1 ⟨x, H1, I1, r1, q1⟩ => ?_
 refine thn (hb pins s1 σ H1 _ I1 q1) fun u s2 ⟨y, H2, I2, r2, q2⟩ => ?_
 exact hf v u s2 x y H2 I2 r1 r2 q2
theorem pe_op {op : Operator} {r : R2} (ho : OpR X (binaryOp op) r) (ha : PE X a ta) (hb : PE X b tb) : PE X (.BinOp a op b pos) (tOp r ta tb) := by
 intro pins s σ H Q I h
 exact wpAny_BinOp (binT ha hb I h fun v u s2 x y H2 I2 rx ry q => ho pins s2 σ H2 x y v u Q I2 rx ry q)
theorem pe_un {op : UnaryOp} {r : V -> Hp -> VK -> Prop} (ho : UnR X (unaryOp op) r) (ha : PE X a ta) : PE X (.UnaryOp op a pos) (tUn r ta) := by
 intro pins s σ H Q I h
 exact UnaryOp_ (thn (ha pins s σ H _ I h) fun v s1 ⟨x, H1, I1, r1, q1⟩ => ho pins s1 σ H1 x v Q I1 r1 q1)
theorem opI {f : Value -> Value -> Sem Value} {C : Int -> Int -> Prop} {g : Int -> Int -> Int}
  (rule : ∀ (i j : Int) (t u : Tok) (s : Shared) (Q : Value -> Shared -> Prop) (E : Value -> Shared -> Prop), C i j -> Q (.int (g i j) s.toks) { s with toks := s.toks + 1 } -> wpAny (model X.prog X.w) X.A (f (.int i t) (.int j u)) Q E s) :
  OpR X f (rI C fun i j => .int (g i j)) := by
 intro pins s σ H x y v u Q I rx ry h
 obtain ⟨i, j, rfl, rfl, hc, q⟩ := h
 obtain ⟨t, rfl⟩ := rx
 obtain ⟨t', rfl⟩ := ry
 exact rule i j t t' s _ _ hc ⟨.int (g i j), H, I.tok _, ⟨_, rfl⟩, q⟩
theorem opI0 {f : Value -> Value -> Sem Value} {g : Int -> Int -> Int}
  (rule : ∀ (i j : Int) (t u : Tok) (s : Shared) (Q : Value -> Shared -> Prop) (E : Value -> Shared -> Prop), Q (.int (g i j) s.toks) { s with toks := s.toks + 1 } -> wpAny (model X.prog X.w) X.A (f (.int i t) (.int j u)) Q E s) :
  OpR X f (rI0 fun i j => .int (g i j)) := by
 intro pins s σ H x y v u Q I rx ry h
 obtain ⟨i, j, rfl, rfl, q⟩ := h
 obtain ⟨t, rfl⟩ := rx
 obtain ⟨t', rfl⟩ := ry
 exact rule i j t t' s _ _ ⟨.int (g i j), H, I.tok _, ⟨_, rfl⟩, q⟩
theorem opB0 {f : Value -> Value -> Sem Value} {g : Int -> Int -> Bool}
  (rule : ∀ (i j : Int) (t u : Tok) (s : Shared) (Q : Value -> Shared -> Prop) (E : Value -> Shared -> Prop), Q (.bool (g i j)) s -> wpAny (model X.prog X.w) X.A (f (.int i t) (.int j u)) Q E s) :
  OpR X f (rI0 fun i j => .bl (g i j)) := by
 intro pins s σ H x y v u Q I rx ry h
 obtain ⟨i, j, rfl, rfl, q⟩ := h
 obtain ⟨t, rfl⟩ := rx
 obtain ⟨t', rfl⟩ := ry
 exact rule i j t t' s _ _ ⟨.bl (g i j), H, I, rfl, q⟩
def CPow (i j : Int) : Prop := 0 <= j /\ j <= 1000000 /\ i.natAbs < 2 ^ 64
def CMul (i j : Int) : Prop := (-(2 ^ 64) < i /\ i < 2 ^ 64) \/ (-(2 ^ 64) < j /\ j < 2 ^ 64)
theorem CMul.ok {i j : Int} (h : CMul i j) : IntMulOk i j := by
 rcases h with ⟨h1, h2⟩ | ⟨h1, h2⟩
 ·exact .of_left (intBits_le_64 h1 h2)
 ·exact .of_right (intBits_le_64 h1 h2)
theorem op_add : OpR X (binaryOp .Add) (rI0 fun i j => .int (i + j)) := opI0 fun _ _ _ _ _ _ _ q => add_int q
theorem op_mod : OpR X (binaryOp .Mod) (rI (fun _ j => 0 < j) fun i j => .int (i % j)) := opI fun i j _ _ _ _ _ hc q => by
 have h1 : (0 : Int) < j := hc
 exact mod_int' (by omega) (by rw [Int.fmod_eq_emod_of_nonneg i (by omega)]; exact q)
theorem op_pow : OpR X (binaryOp .Pow) (rI CPow fun i j => .int (i ^ j.toNat)) := opI fun _ _ _ _ _ _ _ hc q => pow_int_small hc.1 hc.2.1 hc.2.2 q
theorem unI {f : Value -> Sem Value} {g : Int -> Int}
  (rule : ∀ (i : Int) (t : Tok) (s : Shared) (Q : Value -> Shared -> Prop) (E : Value -> Shared -> Prop), Q (.int (g i) s.toks) { s with toks := s.toks + 1 } -> wpAny (model X.prog X.w) X.A (f (.int i t)) Q E s) :
  UnR X f (rU fun i => .int (g i)) := by
 intro pins s σ H x v Q I rx h
 obtain ⟨i, rfl, q⟩ := h
 obtain ⟨t, rfl⟩ := rx
 exact rule i t s _ _ ⟨.int (g i), H, I.tok _, ⟨_, rfl⟩, q⟩
theorem un_neg : UnR X (unaryOp .USub) (rU fun i => .int (-i)) := unI fun _ _ _ _ _ q => neg_int q
end
def scal : V -> V -> Bool
 | .non, .non => true | .non, .int _ => true | .int _, .non => true | .non, .bl _ => true | .bl _, .non => true | .non, .str _ => true | .str _, .non => true
 | .int _, .int _ => true | .bl _, .bl _ => true | .str _, .str _ => true | .byt _, .byt _ => true
 | .int _, .str _ => true | .str _, .int _ => true | .bl _, .str _ => true | .str _, .bl _ => true
 | _, _ => false
def rEq : R2 := fun x y H Q => scal x y = true /\ Q (.bl (decide (x = y))) H
def rNe : R2 := fun x y H Q => scal x y = true /\ Q (.bl (!decide (x = y))) H
theorem dec_int {i j : Int} : decide (V.int i = V.int j) = (i == j) := by
 rw [Bool.eq_iff_iff]
 simp
theorem dec_bl {i j : Bool} : decide (V.bl i = V.bl j) = (i == j) := by
 rw [Bool.eq_iff_iff]
 simp
theorem dec_str {i j : Str} : decide (V.str i = V.str j) = (i == j) := by
 rw [Bool.eq_iff_iff]
 simp
theorem dec_byt {i j : Array UInt8} : decide (V.byt i = V.byt j) = (i.toList == j.toList) := by
 rw [Bool.eq_iff_iff]
 cases i
 cases j
 simp
section
variable {X : Cx} {a b c : Expr} {ta tb tc : TE} {pos : Pos}
theorem fin_bl {pins : List (Addr × Obj)} {σ : St} {H : Hp} {s : Shared} {Q : VK} {k k' : Bool} (I : Inv X pins σ H s) (q : Q (.bl k) H) (e : k = k') : EP X pins σ Q (.bool k') s := by
 subst e
 exact ⟨.bl k, H, I, rfl, q⟩
theorem op_eq : OpR X (compareOp .Eq) rEq := by
 intro pins s σ H x y v u Q I rx ry h
 obtain ⟨hs, q⟩ := h
 cases x with
 | non =>
  cases rx
  cases y with
  | non => cases ry; exact PySem.EqNone.eq_none_none (fin_bl I q (by simp))
  | bl j => cases ry; exact PySem.EqNone.eq_none_bool (fin_bl I q (by simp))
  | int j => obtain ⟨t', rfl⟩ := ry; exact PySem.EqNone.eq_none_int (fin_bl I q (by simp))
  | str j => obtain ⟨t', rfl⟩ := ry; exact PySem.EqNone.eq_none_str (fin_bl I q (by simp))
  | _ => exact absurd (show false = true from hs) Bool.false_ne_true
 | bl i =>
  cases rx
  cases y with
  | non => cases ry; exact PySem.EqNone.eq_bool_none (fin_bl I q (by simp))
  | bl j => cases ry; exact eq_bool (fin_bl I q dec_bl)
  | str j => obtain ⟨t', rfl⟩ := ry; exact PySem.EqMixed.eq_bool_str (fin_bl I q (by simp))
  | _ => exact absurd (show false = true from hs) Bool.false_ne_true
 | int i =>
  obtain ⟨t, rfl⟩ := rx
  cases y with
  | non => cases ry; exact PySem.EqNone.eq_int_none (fin_bl I q (by simp))
  | int j => obtain ⟨t', rfl⟩ := ry; exact eq_int (fin_bl I q dec_int)
  | str j => obtain ⟨t', rfl⟩ := ry; exact PySem.EqMixed.eq_int_str (fin_bl I q (by simp))
  | _ => exact absurd (show false = true from hs) Bool.false_ne_true
 | str i =>
  obtain ⟨t, rfl⟩ := rx
  cases y with
  | non => cases ry; exact PySem.EqNone.eq_str_none (fin_bl I q (by simp))
  | bl j => cases ry; exact PySem.EqMixed.eq_str_bool (fin_bl I q (by simp))
  | int j => obtain ⟨t', rfl⟩ := ry; exact PySem.EqMixed.eq_str_int (fin_bl I q (by simp))
  | str j => obtain ⟨t', rfl⟩ := ry; exact eq_str (fin_bl I q dec_str)
  | _ => exact absurd (show false = true from hs) Bool.false_ne_true
 | byt i =>
  obtain ⟨t, rfl⟩ := rx
  cases y with
  | byt j => obtain ⟨t', rfl⟩ := ry; exact PySem.W.eq_bytes (fin_bl I q dec_byt)
  | _ => exact absurd (show false = true from hs) Bool.false_ne_true
 | _ => cases y <;> exact absurd (show false = true from hs) Bool.false_ne_true
theorem op_ne : OpR X (compareOp .NotEq) rNe := by
 intro pins s σ H x y v u Q I rx ry h
 obtain ⟨hs, q⟩ := h
 cases x with
 | non =>
  cases rx
  cases y with
  | non => cases ry; exact PySem.EqNone.ne_none_none (fin_bl I q (by simp))
  | bl j => cases ry; exact PySem.EqNone.ne_none_bool (fin_bl I q (by simp))
  | int j => obtain ⟨t', rfl⟩ := ry; exact PySem.EqNone.ne_none_int (fin_bl I q (by simp))
  | str j => obtain ⟨t', rfl⟩ := ry; exact PySem.EqNone.ne_none_str (fin_bl I q (by simp))
  | _ => exact absurd (show false = true from hs) Bool.false_ne_true
 | bl i =>
  cases rx
  cases y with
  | non => cases ry; exact PySem.EqNone.ne_bool_none (fin_bl I q (by simp))
  | bl j => cases ry; exact ne_bool (fin_bl I q (congrArg not dec_bl))
  | str j => obtain ⟨t', rfl⟩ := ry; exact PySem.EqMixed.ne_bool_str (fin_bl I q (by simp))
  | _ => exact absurd (show false = true from hs) Bool.false_ne_true
 | int i =>
  obtain ⟨t, rfl⟩ := rx
  cases y with
  | non => cases ry; exact PySem.EqNone.ne_int_none (fin_bl I q (by simp))
  | int j => obtain ⟨t', rfl⟩ := ry; exact ne_int (fin_bl I q (congrArg not dec_int))
  | str j => obtain ⟨t', rfl⟩ := ry; exact PySem.EqMixed.ne_int_str (fin_bl I q (by simp))
  | _ => exact absurd (show false = true from hs) Bool.false_ne_true
 | str i =>
  obtain ⟨t, rfl⟩ := rx
  cases y with
  | non => cases ry; exact PySem.EqNone.ne_str_none (fin_bl I q (by simp))
  | bl j => cases ry; exact PySem.EqMixed.ne_str_bool (fin_bl I q (by simp))
  | int j => obtain ⟨t', rfl⟩ := ry; exact PySem.EqMixed.ne_str_int (fin_bl I q (by simp))
  | str j => obtain ⟨t', rfl⟩ := ry; exact ne_str (fin_bl I q (congrArg not dec_str))
  | _ => exact absurd (show false = true from hs) Bool.false_ne_true
 | byt i =>
  obtain ⟨t, rfl⟩ := rx
  cases y with
  | byt j => obtain ⟨t', rfl⟩ := ry; exact PySem.W.ne_bytes (fin_bl I q (congrArg not dec_byt))
  | _ => exact absurd (show false = true from hs) Bool.false_ne_true
 | _ => cases y <;> exact absurd (show false = true from hs) Bool.false_ne_true
theorem op_lt : OpR X (compareOp .Lt) (rI0 fun i j => .bl (decide (i < j))) := opB0 fun _ _ _ _ _ _ _ q => lt_int q
theorem op_gt : OpR X (compareOp .Gt) (rI0 fun i j => .bl (decide (j < i))) := opB0 fun _ _ _ _ _ _ _ q => gt_int q
theorem op_isN : OpR X (compareOp .Is) (fun x y H Q => y = .non /\ Q (.bl (decide (x = .non))) H) := by
 intro pins s σ H x y v u Q I rx ry h
 obtain ⟨rfl, q⟩ := h
 cases ry
 refine is_none_gen (fin_bl I q ?_)
 cases x <;> first
  | (cases rx; rfl)
  | (obtain ⟨t, rfl⟩ := rx; rfl)
theorem op_notN : OpR X (compareOp .IsNot) (fun x y H Q => y = .non /\ Q (.bl (!decide (x = .non))) H) := by
 intro pins s σ H x y v u Q I rx ry h
 obtain ⟨rfl, q⟩ := h
 cases ry
 refine isnot_none_gen (fin_bl I q ?_)
 cases x <;> first
  | (cases rx; rfl)
  | (obtain ⟨t, rfl⟩ := rx; rfl)
theorem nomark (b : Expr) {op : CmpOp} (h : op ≠ .In := by decide) (h2 : op ≠ .NotIn := by decide) : behindInMarks op b = false := by
 have e1 : (op == CmpOp.In) = false := by cases op <;> first | rfl | exact absurd rfl h
 have e2 : (op == CmpOp.NotIn) = false := by cases op <;> first | rfl | exact absurd rfl h2
 cases b <;> simp [behindInMarks, e1, e2]
theorem pe_cmpR {op : CmpOp} {r : R2} (ho : OpR X (compareOp op) r) (ha : PE X a ta) (hb : PE X b tb) (hm : behindInMarks op b = false) : PE X (.Compare a [op] [b] pos) (tOp r ta tb) := by
 intro pins s σ H Q I h
 exact wpAny_Compare1 (binT ha hb I h fun v u s2 x y H2 I2 rx ry q => ho pins s2 σ H2 x y v u Q I2 rx ry q) hm
def tTest (t : TE) : TT := fun σ H Q => t σ H fun x H' => ∃ k, x = .bl k /\ Q k H'
theorem pt_cmpR {op : CmpOp} {r : R2} (ho : OpR X (compareOp op) r) (ha : PE X a ta) (hb : PE X b tb) (hm : behindInMarks op b = false) : PT X (.Compare a [op] [b] pos) (tTest (tOp r ta tb)) := by
 intro pins s σ H Q I h
 refine wpAny_isTrue_Compare1 (thn (ha pins s σ H _ I h) fun v s1 ⟨x, H1, I1, r1, q1⟩ => thn (hb pins s1 σ H1 _ I1 q1) fun u s2 ⟨y, H2, I2, r2, q2⟩ =>
  thn (ho pins s2 σ H2 x y v u _ I2 r1 r2 q2) fun c s3 ⟨z, H3, I3, r3, k, e, q3⟩ => ?_) hm
 subst e
 cases r3
 exact wpAny_truthy_bool ⟨H3, I3, q3⟩
def tChain (r r' : R2) (ta tb tc : TE) : TE := fun σ H Q => ta σ H fun x H1 => tb σ H1 fun y H2 => r x y H2 fun z H3 => ∃ k, z = .bl k /\
 (if k = true then tc σ H3 fun w' H4 => r' y w' H4 Q else Q (.bl false) H3)
theorem pe_chain {op op' : CmpOp} {r r' : R2} (ho : OpR X (compareOp op) r) (ho' : OpR X (compareOp op') r') (ha : PE X a ta) (hb : PE X b tb) (hc : PE X c tc)
  (hm : lastMarks [op, op'] [b, c] = false := by with_unfolding_all rfl) : PE X (.Compare a [op, op'] [b, c] pos) (tChain r r' ta tb tc) := by
 intro pins s σ H Q I h
 refine Compare_chain (thn (ha pins s σ H _ I h) fun v s1 ⟨x, H1, I1, r1, q1⟩ => chain_link (thn (hb pins s1 σ H1 _ I1 q1) fun u s2 ⟨y, H2, I2, r2, q2⟩ =>
  thn (ho pins s2 σ H2 x y v u _ I2 r1 r2 q2) fun d s3 ⟨z, H3, I3, r3, k, e, q3⟩ => ?_)) hm
 subst e
 cases r3
 refine wpAny_truthy_bool ?_
 cases k with
 | false => exact ite_ff ⟨.bl false, H3, I3, rfl, q3⟩
 | true => exact ite_tt (chain_last (thn (hc pins s3 σ H3 _ I3 q3) fun w' s4 ⟨z', H4, I4, r4, q4⟩ => ho' pins s4 σ H4 y z' u w' Q I4 r2 r4 q4))
theorem line63 : (sizeLine : Nat) < 2 ^ 63 := by rw [sizeLine_eq]; decide
theorem op_add_str : OpR X (binaryOp .Add) (fun x y H Q => ∃ i j, x = .str i /\ y = .str j /\ i.length + j.length <= sizeLine /\ Q (.str (i ++ j)) H) := by
 intro pins s σ H x y v u Q I rx ry h
 obtain ⟨i, j, rfl, rfl, hz, q⟩ := h
 obtain ⟨t, rfl⟩ := rx
 obtain ⟨t', rfl⟩ := ry
 exact add_str (fun t' tk => ⟨.str (i ++ j), H, I.tok _, ⟨_, rfl⟩, q⟩) hz
theorem vals1 {x : V} {us : List Value} (r : Vals [x] us) : ∃ u, us = [u] /\ RelV x u := by
 cases r with
 | cons r1 r2 => cases r2; exact ⟨_, rfl, r1⟩
theorem vals2 {x y : V} {us : List Value} (r : Vals [x, y] us) : ∃ u w', us = [u, w'] /\ RelV x u /\ RelV y w' := by
 cases r with
 | cons r1 r2 =>
  cases r2 with
  | cons r3 r4 => cases r4; exact ⟨_, _, rfl, r1, r3⟩
theorem call_max2 (hc : X.calm = true) : CallR X (.builtin "max") (fun xs H Q => ∃ i j, xs = [.int i, .int j] /\ Q (.int (if j > i then j else i)) H) := by
 intro pins s σ H xs us Q I r h
 obtain ⟨i, j, rfl, q⟩ := h
 obtain ⟨u, w', rfl, ⟨t, rfl⟩, ⟨t', rfl⟩⟩ := vals2 r
 refine max_two_ints (I.ok.hd hc) fun h' tk k => ⟨_, H, I.kept k, ?_, q⟩
 by_cases hj : j > i
 ·rw [if_pos hj, if_pos hj]; exact ⟨_, rfl⟩
 ·rw [if_neg hj, if_neg hj]; exact ⟨_, rfl⟩
theorem call_min2 (hc : X.calm = true) : CallR X (.builtin "min") (fun xs H Q => ∃ i j, xs = [.int i, .int j] /\ Q (.int (if j < i then j else i)) H) := by
 intro pins s σ H xs us Q I r h
 obtain ⟨i, j, rfl, q⟩ := h
 obtain ⟨u, w', rfl, ⟨t, rfl⟩, ⟨t', rfl⟩⟩ := vals2 r
 refine min_two_ints (I.ok.hd hc) fun h' tk k => ⟨_, H, I.kept k, ?_, q⟩
 by_cases hj : j < i
 ·rw [if_pos hj, if_pos hj]; exact ⟨_, rfl⟩
 ·rw [if_neg hj, if_neg hj]; exact ⟨_, rfl⟩
theorem call_int1 : CallR X (.type "int") (fun xs H Q => (∃ i, xs = [.int i] /\ Q (.int i) H) \/ ∃ k, xs = [.bl k] /\ Q (.int (if k then 1 else 0)) H) := by
 intro pins s σ H xs us Q I r h
 rcases h with ⟨i, rfl, q⟩ | ⟨k, rfl, q⟩
 ·obtain ⟨u, rfl, t, rfl⟩ := vals1 r
  exact call_int_int ⟨.int i, H, I, ⟨_, rfl⟩, q⟩
 ·obtain ⟨u, rfl, r1⟩ := vals1 r
  cases r1
  exact call_int_bool ⟨.int (if k then 1 else 0), H, I.tok _, ⟨_, rfl⟩, q⟩
end
end L2
namespace L2
open PySem PySem.Spec PyProof.Rows
structure ObjM (h : Heap) (x dx C : Addr) (mA : Str -> Option Value) : Prop where
 obj : h.get? x = some (PySem.W.instObj C dx)
 ns : h.Ns1 dx mA
 ne : dx ≠ x
theorem lookIn_ns {h : Heap} {dx : Addr} {mA : Str -> Option Value} (n : h.Ns1 dx mA) : ∃ od, h.get? dx = some od /\ ∀ name, PySem.W.lookIn name od = some (mA name) := by
 obtain ⟨o, es, ep, ho, hd, hk, _, hm⟩ := n
 refine ⟨o, ho, fun name => ?_⟩
 have e := hm name
 unfold nsFind findBy at e
 rw [<- Array.find?_toList] at e
 unfold PySem.W.lookIn
 rw [hd]
 dsimp only
 split
 ·rename_i y q
  rw [q] at e
  exact congrArg some e
 ·rename_i q
  rw [q] at e
  have a : es.toList.any (·.refKey) = false := by
   rw [List.any_eq_false]
   intro y hy
   obtain ⟨z, t, hkey⟩ := hk y (Array.mem_toList_iff.mp hy)
   simp [DictEntry.refKey, hkey]
  have a' : ¬ es.toList.any (·.refKey) = true := by rw [a]; exact Bool.false_ne_true
  rw [if_neg a']
  exact congrArg some e
theorem ObjM.look {h : Heap} {x dx C : Addr} {mA : Str -> Option Value} (I : ObjM h x dx C mA) : ∃ od, PySem.W.InstAt h x (PySem.W.instObj C dx) C (some od) /\ ∀ name, PySem.W.lookIn name od = some (mA name) :=
 let ⟨od, ho, hl⟩ := lookIn_ns I.ns
 ⟨od, ⟨I.obj, rfl, rfl, ho⟩, hl⟩
section
variable {prog : Program} {w : World} {A : Around} {E : Value -> Shared -> Prop} {s : Shared} {K : Fg_} {x dx C f : Addr} {mA : Str -> Option Value} {name : Str} {v : Value}
theorem get_map {expr : Bool} {Q : Value -> Shared -> Prop} (X : K.In s.heap) (I : ObjM s.heap x dx C mA) (hg : PySem.W.plainGet K C name = true) (hh : PySem.W.hasDictIn K C = true)
  (ha : PySem.W.findIn K (.ref C) name = some none) (hv : mA name = some v) (hv' : PySem.W.handedIn v = true) (h : Q v { s with toks := s.toks + 1 }) :
  wpAny (model prog w) A (getAttr (.ref x) name expr) Q E s := by
 obtain ⟨od, J, hl⟩ := I.look
 exact PySem.W.get_value X J (PySem.W.plainGet_of hg).1 (PySem.W.findObj_own hh ha rfl (by rw [hl, hv])) hv' h
theorem get_meth {pl : Sem Bool} {Q : Value × List Value -> Shared -> Prop} (X : K.In s.heap) (I : ObjM s.heap x dx C mA) (hg : PySem.W.plainGet K C name = true)
  (hf : PySem.W.findIn K (.ref C) name = some (some (.ref f))) (ht : PySem.W.isFn K (.ref f) = true) (hv : mA name = none) (h : Q (.ref f, [.ref x]) s) :
  wpAny (model prog w) A (getMethod (.ref x) name pl) Q E s := by
 obtain ⟨od, J, hl⟩ := I.look
 exact PySem.W.method_fn X J (PySem.W.plainGet_of hg).1 (PySem.W.plainGet_of hg).2 hf (beq_iff_eq.mp ht) (by show (PySem.W.lookIn name od).map (·.isSome) = some false; rw [hl, hv]; rfl) h
theorem set_map {ns : List Str} {Q : Unit -> Shared -> Prop} (X : K.In s.heap) (I : ObjM s.heap x dx C mA)
  (hs : PySem.W.findIn K (.ref C) "__setattr__" = some (some (.builtin "object.__setattr__"))) (hp : PySem.W.plainOver K C = true) (ht : PySem.W.takerIn K C name = some none) (hh : PySem.W.hasDictIn K C = true)
  (hw : PySem.Within mA ns) (hsz : ns.length <= sizeLine)
  (h : ∀ h', ObjM h' x dx C (fun y => if y = name then some v else mA y) -> Heap.SameBut dx s.heap h' -> Q () { s with heap := h', toks := s.toks + 2 }) :
  wpAny (model prog w) A (setAttr (.ref x) name v) Q E s := by
 obtain ⟨od, J, hl⟩ := I.look
 refine PySem.W.set_plain X J hs (PySem.W.osa_open (s := { s with toks := s.toks + 1 }) (r := none) X J hp ht fun b => ?_)
 obtain ⟨cd, hc, hd'⟩ := PySem.W.any_some hh
 have hx : s.heap.get? x = some ⟨.ref C, some dx, .plain, #[]⟩ := I.obj
 refine wpAny_bind (wpAny_pure (wpAny_bind (wpAny_bind (wpAny_loadPart hx (wpAny_bind (PySem.W.Looks.here (s := { s with toks := s.toks + 1 }) (PySem.W.looks_clsIn X hc) ?_))))))
 rw [hd']
 refine wpAny_pure (a := some dx) (wpAny_bind (wpAny_pure (wpAny_bind ?_)))
 refine wpAny_nsSet1 (s := { s with toks := s.toks + 1 }) I.ns fun h' hn2 hs2 => ?_
 obtain ⟨oD, esD, epD, hoD, hdD, hcD⟩ := hn2.count (PySem.Within.cons name v hw)
 refine wpAny_bind (wpAny_lookBehind hoD (by rw [hdD]; exact pastItsLine_dict (Nat.le_trans hcD (by rw [List.length_cons]; omega))) ?_)
 exact wpAny_pure (h _ ⟨(hs2.2 _ (Ne.symm I.ne)).trans I.obj, hn2, I.ne⟩ hs2)
theorem make_map {R : Result -> Shared -> Prop} {vs : List Value} {kw : List (Str × Value)} (X : K.In s.heap) (hm : PySem.W.makesIn K C = true)
  (hi : PySem.W.findIn K (.ref C) "__init__" = some (some (.ref f))) (hf : PySem.W.typeIn K (.ref f) = some (.type "function"))
  (h : codeAny (model prog w) (A.under (.builtin "type.__call__" ⟨.ref C :: vs, kw⟩)) (.call (.ref f) ⟨.ref (s.heap.objs.size + 1) :: vs, kw⟩) (PySem.W.InitBack (s.heap.objs.size + 1) R)
   { s with heap := (s.heap.push PySem.W.emptyDict).push (PySem.W.instObj C s.heap.objs.size) }) :
  codeAny (model prog w) A (.call (.ref C) ⟨vs, kw⟩) R s := by
 obtain ⟨hh, g, d, t, os⟩ := s
 exact PySem.W.make_core (PySem.W.makes_of X hm) (PySem.W.looks_findIn X hi) (fun self => PySem.W.bind_fn X self hf) (.inl rfl) h
theorem make_map0 {R : Result -> Shared -> Prop} (X : K.In s.heap) (hm : PySem.W.makesIn K C = true)
  (hi : PySem.W.findIn K (.ref C) "__init__" = some (some (.builtin "object.__init__")))
  (hb : ∀ self, PySem.W.Looks (model prog w) s.heap (bindSpecial (.builtin "object.__init__") self) (.builtin "object.__init__", [self]))
  (h : codeAny (model prog w) (A.under (.builtin "type.__call__" ⟨[.ref C], []⟩)) (.call (.builtin "object.__init__") ⟨[.ref (s.heap.objs.size + 1)], []⟩) (PySem.W.InitBack (s.heap.objs.size + 1) R)
   { s with heap := (s.heap.push PySem.W.emptyDict).push (PySem.W.instObj C s.heap.objs.size) }) :
  codeAny (model prog w) A (.call (.ref C) ⟨[], []⟩) R s := by
 obtain ⟨hh, g, d, t, os⟩ := s
 exact PySem.W.make_core (PySem.W.makes_of X hm) (PySem.W.looks_findIn X hi) hb (.inr ⟨rfl, rfl⟩) h
end
def putF (f : Str) (v : V) : List (Str × V) -> List (Str × V)
 | [] => [(f, v)]
 | (g, x) :: r => if g = f then (g, v) :: r else (g, x) :: putF f v r
theorem lookup_putF (f g : Str) (v : V) : ∀ fs : List (Str × V), (putF f v fs).lookup g = if g = f then some v else fs.lookup g
 | [] => by
  show List.lookup g [(f, v)] = _
  by_cases h : g = f
  ·have hb : (g == f) = true := beq_iff_eq.mpr h
   simp only [List.lookup, hb, if_pos h]
  ·have hb : (g == f) = false := beq_eq_false_iff_ne.mpr h
   simp only [List.lookup, hb, if_neg h]
 | (k, x) :: r => by
  have ih := lookup_putF f g v r
  rw [show putF f v ((k, x) :: r) = (if k = f then (k, v) :: r else (k, x) :: putF f v r) from rfl]
  by_cases hk : k = f
  ·rw [if_pos hk]
   by_cases h : g = k
   ·have hb : (g == k) = true := beq_iff_eq.mpr h
    simp only [List.lookup, hb, if_pos (h.trans hk)]
   ·have hb : (g == k) = false := beq_eq_false_iff_ne.mpr h
    simp only [List.lookup, hb, if_neg (fun e : g = f => h (e.trans hk.symm))]
  ·rw [if_neg hk]
   by_cases h : g = k
   ·have hb : (g == k) = true := beq_iff_eq.mpr h
    simp only [List.lookup, hb, if_neg (fun e : g = f => hk (h.symm.trans e))]
   ·have hb : (g == k) = false := beq_eq_false_iff_ne.mpr h
    simp only [List.lookup, hb]
    exact ih
theorem keys_putF (f : Str) (v : V) : ∀ fs : List (Str × V), f ∈ (putF f v fs).map (·.1) /\ ∀ g, g ∈ fs.map (·.1) -> g ∈ (putF f v fs).map (·.1)
 | [] => ⟨by simp [putF], fun g h => by simp at h⟩
 | (k, x) :: r => by
  obtain ⟨i1, i2⟩ := keys_putF f v r
  rw [show putF f v ((k, x) :: r) = (if k = f then (k, v) :: r else (k, x) :: putF f v r) from rfl]
  by_cases hk : k = f
  ·rw [if_pos hk]
   subst hk
   exact ⟨by simp, fun g h => by simpa using h⟩
  ·rw [if_neg hk]
   refine ⟨?_, fun g h => ?_⟩
   ·rw [List.map_cons]
    exact List.mem_cons_of_mem _ i1
   ·rw [List.map_cons] at h ⊢
    rcases List.mem_cons.mp h with e | e
    ·exact List.mem_cons.mpr (.inl e)
    ·exact List.mem_cons_of_mem _ (i2 g e)
theorem length_putF (f : Str) (v : V) : ∀ fs : List (Str × V), (putF f v fs).length <= fs.length + 1
 | [] => by simp [putF]
 | (k, x) :: r => by
  have ih := length_putF f v r
  rw [show putF f v ((k, x) :: r) = (if k = f then (k, v) :: r else (k, x) :: putF f v r) from rfl]
  by_cases hk : k = f
  ·rw [if_pos hk, List.length_cons, List.length_cons]; omega
  ·rw [if_neg hk, List.length_cons, List.length_cons]; omega
theorem RelO.some_of {v : V} {o : Option Value} (r : RelO (some v) o) : ∃ u, o = some u /\ RelV v u := by
 cases o with
 | none => exact (show False from r).elim
 | some u => exact ⟨u, rfl, r⟩
theorem RelO.none_of {o : Option Value} (r : RelO none o) : o = none := by
 cases o with
 | none => rfl
 | some u => exact (show False from r).elim
theorem handed_of {v : V} {u : Value} (r : RelV v u) : PySem.W.handedIn u = true := by
 cases v with
 | non => cases (show u = Value.none from r); rfl
 | bl b => cases (show u = Value.bool b from r); rfl
 | int i => obtain ⟨t, e⟩ := (show ∃ t, u = Value.int i t from r); cases e; rfl
 | str x => obtain ⟨t, e⟩ := (show ∃ t, u = Value.str x t from r); cases e; rfl
 | byt b => obtain ⟨t, e⟩ := (show ∃ t, u = Value.bytes b t from r); cases e; rfl
 | flt b => obtain ⟨t, e⟩ := (show ∃ t, u = Value.float b t from r); cases e; rfl
 | ref a => cases (show u = Value.ref a from r); rfl
 | ty n => cases (show u = Value.type n from r); rfl
section
variable {P : Program} {w : World} {H H' : Hp} {h h' : Heap} {a C dx : Addr} {fs fs' : List (Str × V)}
theorem ins_get (hok : HOk P w H h) (e : H a = some (.ins C dx fs)) : ∃ mA, ObjM h a dx C mA /\ (∀ f, RelO (fs.lookup f) (mA f)) /\ PySem.Within mA (fs.map (·.1)) /\ fs.length <= 1000 /\ H dx = some (.own a) := by
 obtain ⟨d, z, ne, ob, mA, n, r, q⟩ := (show ObjOk P w H h a (.ins C dx fs) from hok a _ e)
 exact ⟨mA, ⟨ob, n, ne⟩, r, q, z, d⟩
end
structure Cls (K : Fg_) (C : Addr) : Prop where
 pg : PySem.W.plainGet K C Str.empty = true
 hd : PySem.W.hasDictIn K C = true
 po : PySem.W.plainOver K C = true
 sa : PySem.W.findIn K (.ref C) "__setattr__" = some (some (.builtin "object.__setattr__"))
theorem Cls.get {K : Fg_} {C : Addr} (c : Cls K C) (f : Str) : PySem.W.plainGet K C f = true := c.pg
def NoAttr (K : Fg_) (C : Addr) (f : Str) : Prop := PySem.W.findIn K (.ref C) f = some none
theorem NoAttr.taker {K : Fg_} {C : Addr} {f : Str} (n : NoAttr K C f) : PySem.W.takerIn K C f = some none := by
 unfold PySem.W.takerIn
 rw [show PySem.W.findIn K (.ref C) f = some none from n]
 rfl
structure Con (K : Fg_) (C : Addr) (f : Str) (v : V) (u : Value) : Prop where
 at_ : PySem.W.findIn K (.ref C) f = some (some u)
 rel : RelV v u
 get : PySem.W.specialIn K u "__get__" = some none
 cp : PySem.W.copiedNames.contains f = false
structure Meth (K : Fg_) (C : Addr) (m : Str) (f : Addr) : Prop where
 at_ : PySem.W.findIn K (.ref C) m = some (some (.ref f))
 fn : PySem.W.isFn K (.ref f) = true
 kp : PySem.W.keepIn K (.ref f) = true
section
variable {X : Cx} {pins : List (Addr × Obj)} {σ : St} {H : Hp} {s : Shared} {a C dx : Addr} {fs : List (Str × V)} {f : Str} {v : V} {A : Around} {E : Value -> Shared -> Prop}
theorem getattr_ok {b : Bool} {Q : Value -> Shared -> Prop} (I : Inv X pins σ H s) (e : H a = some (.ins C dx fs)) (c : Cls X.K C) (n : NoAttr X.K C f) (l : fs.lookup f = some v)
  (h : ∀ u s', Inv X pins σ H s' -> RelV v u -> Q u s') : wpAny (model X.prog X.w) A (getAttr (.ref a) f b) Q E s := by
 obtain ⟨mA, O, r, _, _, _⟩ := ins_get I.hok e
 obtain ⟨u, hu, ru⟩ := RelO.some_of (v := v) (o := mA f) (by rw [<- l]; exact r f)
 exact get_map I.kIn O (c.get f) c.hd n hu (handed_of ru) (h u _ (I.tok _) ru)
theorem getmeth_ok {m : Str} {g : Addr} {pl : Sem Bool} {Q : Value × List Value -> Shared -> Prop} (I : Inv X pins σ H s) (e : H a = some (.ins C dx fs)) (c : Cls X.K C) (k : Meth X.K C m g) (l : fs.lookup m = none)
  (h : Q (.ref g, [.ref a]) s) : wpAny (model X.prog X.w) A (getMethod (.ref a) m pl) Q E s := by
 obtain ⟨mA, O, r, _, _, _⟩ := ins_get I.hok e
 have hn : mA m = none := RelO.none_of (by rw [<- l]; exact r m)
 exact get_meth I.kIn O (c.get m) k.at_ k.fn hn h
theorem setattr_ok {y : V} {u : Value} {Q : Unit -> Shared -> Prop} (I : Inv X pins σ H s) (e : H a = some (.ins C dx fs)) (c : Cls X.K C) (n : NoAttr X.K C f) (hl : fs.length < 1000) (ry : RelV y u)
  (h : ∀ s', Inv X pins σ (upd H a (.ins C dx (putF f y fs))) s' -> Q () s') : wpAny (model X.prog X.w) A (setAttr (.ref a) f u) Q E s := by
 obtain ⟨mA, O, r, wi, _, ho⟩ := ins_get I.hok e
 have hz : (fs.map (·.1)).length <= sizeLine := by rw [List.length_map, sizeLine_eq]; omega
 refine set_map I.kIn O c.sa c.po n.taker c.hd wi hz fun h' O' sb => h _ ?_
 have hd : ∃ o, h'.get? dx = some o := let ⟨o, _, _, e', _⟩ := O'.ns; ⟨o, e'⟩
 refine I.write (x := a) (e := dx) (by rw [e]; exact True.intro) (.inr ho) (fun b q hb z => (sb.2 b hb).trans z) hd ?_
 refine ⟨by rw [upd_ne O.ne]; exact ho, ?_, O.ne, O'.obj, _, O'.ns, fun g => ?_, fun g hg => ?_⟩
 ·have := length_putF f y fs; omega
 ·show RelO ((putF f y fs).lookup g) (if g = f then some u else mA g)
  rw [lookup_putF]
  by_cases q : g = f
  ·rw [if_pos q, if_pos q]; exact ry
  ·rw [if_neg q, if_neg q]; exact r g
 ·by_cases q : g = f
  ·rw [q]; exact (keys_putF f y fs).1
  ·refine (keys_putF f y fs).2 g (wi g fun z => hg ?_)
   show (if g = f then some u else mA g) = none
   rw [if_neg q]; exact z
theorem Inv.made (I : Inv X pins σ H s) : Inv X pins σ (upd (upd H s.heap.objs.size (.own (s.heap.objs.size + 1))) (s.heap.objs.size + 1) (.ins C s.heap.objs.size []))
  { s with heap := (s.heap.push PySem.W.emptyDict).push (PySem.W.instObj C s.heap.objs.size) } := by
 have e1 : (s.heap.push PySem.W.emptyDict).get? s.heap.objs.size = some PySem.W.emptyDict := Heap.get?_push_size s.heap rfl
 have e2 : ((s.heap.push PySem.W.emptyDict).push (PySem.W.instObj C s.heap.objs.size)).get? (s.heap.objs.size + 1) = some (PySem.W.instObj C s.heap.objs.size) := by
  have := Heap.get?_push_size (s.heap.push PySem.W.emptyDict) (o := PySem.W.instObj C s.heap.objs.size) rfl
  rwa [Heap.size_push] at this
 have e3 : (s.heap.push PySem.W.emptyDict).Ns s.heap.objs.size (fun _ => none) := ⟨PySem.W.emptyDict, #[], _, e1, rfl, (fun e he => absurd he (by simp)), fun _ => rfl⟩
 have I1 := I.laid (a := s.heap.objs.size) (o := .own (s.heap.objs.size + 1)) (h' := s.heap.push PySem.W.emptyDict) (t' := s.toks) (fun b u q => Heap.get?_push_of_some _ q) (Nat.le_refl _) ⟨_, e1⟩
 refine I1.laid (a := s.heap.objs.size + 1) (o := .ins C s.heap.objs.size []) (t' := s.toks) (fun b u q => Heap.get?_push_of_some _ q) (Nat.le_of_eq (Heap.size_push _ _)) ?_
 have ne : s.heap.objs.size ≠ s.heap.objs.size + 1 := Nat.ne_of_lt (Nat.lt_succ_self _)
 refine ⟨by rw [upd_ne ne, upd_same], Nat.zero_le _, ne, e2, fun _ => none, (Heap.Ns1.of_empty e3).at fun o q => Heap.get?_push_of_some _ q, fun _ => True.intro, fun y hy => absurd rfl hy⟩
theorem attr_of {prog : Program} {w : World} {env : Env} {e : Expr} {f : Str} {pos : Pos} {s : Shared} {Q : Value -> Shared -> Prop} (hb : attributeBase e f env (eval e env) = eval e env)
  (h : wpAny (model prog w) A (eval e env) (fun o s₁ => wpAny (model prog w) A (getAttr o f true) Q E s₁) E s) : wpAny (model prog w) A (eval (.Attribute e f pos) env) Q E s :=
 Attribute_any_ h (by rw [arm_eval_Attribute, hb])
end
def tFld (K : Fg_) (ta : TE) (f : Str) : TE := fun σ H Q => ta σ H fun x H1 => ∃ a C dx fs v, x = .ref a /\ H1 a = some (.ins C dx fs) /\ Cls K C /\ NoAttr K C f /\ fs.lookup f = some v /\ Q v H1
def sFld (K : Fg_) (ta tv : TE) (f : Str) : TS := fun D σ H => tv σ H fun y H1 => ta σ H1 fun x H2 => ∃ a C dx fs, x = .ref a /\ H2 a = some (.ins C dx fs) /\ Cls K C /\ NoAttr K C f /\ fs.length < 1000 /\
 D.nx σ (upd H2 a (.ins C dx (putF f y fs)))
section
variable {X : Cx} {o e value : Expr} {f : Str} {pos pos' tpos : Pos} {ta tv : TE}
theorem pe_fld (he : PE X e ta) (hb : attributeBase e f X.env (eval e X.env) = eval e X.env) : PE X (.Attribute e f pos) (tFld X.K ta f) := by
 intro pins s σ H Q I h
 refine attr_of hb (thn (he pins s σ H _ I h) fun u s1 ⟨x, H1, I1, rx, a, C, dx, fs, v, ex, ea, c, n, l, q⟩ => ?_)
 subst ex
 obtain rfl : u = Value.ref a := rx
 exact getattr_ok I1 ea c n l fun u' s2 I2 ru => ⟨v, H1, I2, ru, q⟩
theorem ps_fld (ha : PE X o ta) (hv : PE X value tv) (hs : swapsWith value (some (.Attribute o f pos')) pos.line X.env = pure false) : PS X (.Assign [.Attribute o f pos'] value pos) (sFld X.K ta tv f) := by
 intro pins s σ H D I h
 refine plainObj_wpAny_Assign_Attribute (thn (hv pins s σ H _ I h) fun u s1 ⟨y, H1, I1, ry, q⟩ => thn (ha pins s1 σ H1 _ I1 q) fun ov s2 ⟨x, H2, I2, rx, a, C, dx, fs, ex, ea, c, n, l, q2⟩ => ?_) hs
 subst ex
 obtain rfl : ov = Value.ref a := rx
 exact setattr_ok I2 ea c n l ry fun s3 I3 => ⟨σ, _, I3, q2⟩
end
section
variable {X : Cx} {pins : List (Addr × Obj)} {σ : St} {H : Hp} {s : Shared} {A : Around} {E : Value -> Shared -> Prop} {Q : Value -> Shared -> Prop} {c : Value} {b : Bool}
inductive TyOf (K : Fg_) (H : Hp) : V -> Value -> Prop where
 | non : TyOf K H .non (.type "NoneType")
 | bl (x : Bool) : TyOf K H (.bl x) (.type "bool")
 | int (i : Int) : TyOf K H (.int i) (.type "int")
 | str (x : Str) : TyOf K H (.str x) (.type "str")
 | flt (x : UInt64) : TyOf K H (.flt x) (.type "float")
 | lst {a : Addr} {xs : List V} (e : H a = some (.lst xs)) : TyOf K H (.ref a) (.type "list")
 | frz {a : Addr} {o : Obj} {xs : List V} (e : H a = some (.frz o (.lst xs))) : TyOf K H (.ref a) (.type "list")
 | tup {a : Addr} {xs : List V} (e : H a = some (.tup xs)) : TyOf K H (.ref a) (.type "tuple")
 | dK {a : Addr} {kvs : List (Key × V)} (e : H a = some (.dK kvs)) : TyOf K H (.ref a) (.type "dict")
 | dT {a : Addr} {kvs : List (List Key × V)} (e : H a = some (.dT kvs)) : TyOf K H (.ref a) (.type "dict")
 | ins {a C dx : Addr} {fs : List (Str × V)} (e : H a = some (.ins C dx fs)) (cl : Cls K C) (ha : PySem.W.findIn K (.ref C) "__class__" = some (some (.builtin "object.__class__")))
   (hn : PySem.W.specialIn K (.builtin "object.__class__") "__get__" = some (some (.builtin "getset_descriptor.__get__"))) (htk : PySem.W.takesIn K (.builtin "object.__class__") = some true)
   (hm : PySem.W.mroIn K C (.type "object") = some true) : TyOf K H (.ref a) (.ref C)
theorem isinst_ok {x : V} {u t : Value} (I : Inv X pins σ H s) (rx : RelV x u) (ty : TyOf X.K H x t) (e : PySem.W.kitOne X.K t c = some b) (h : ∀ tk, Q (.bool b) { s with toks := tk }) :
  wpAny (model X.prog X.w) A (call (.builtin "isinstance") [u, c]) Q E s := by
 cases ty with
 | non => cases (show u = Value.none from rx); exact PySem.W.kia_one PySem.W.kitx_none I.kIn True.intro e (fun z => nomatch z) h
 | bl y => cases (show u = Value.bool y from rx); exact PySem.W.kia_one PySem.W.kitx_bool I.kIn True.intro e (fun z => nomatch z) h
 | int i => obtain ⟨t, q⟩ := (show ∃ t, u = Value.int i t from rx); cases q; exact PySem.W.kia_one PySem.W.kitx_int I.kIn True.intro e (fun z => nomatch z) h
 | str y => obtain ⟨t, q⟩ := (show ∃ t, u = Value.str y t from rx); cases q; exact PySem.W.kia_one PySem.W.kitx_str I.kIn True.intro e (fun z => nomatch z) h
 | flt y => obtain ⟨t, q⟩ := (show ∃ t, u = Value.float y t from rx); cases q; exact PySem.W.kia_one PySem.W.kitx_float I.kIn True.intro e (fun z => nomatch z) h
 | @lst a xs ea =>
  cases (show u = Value.ref a from rx)
  obtain ⟨_, _, n, _, h1⟩ := (show ObjOk X.prog X.w H s.heap a (.lst xs) from I.hok a _ ea)
  exact PySem.W.kia_one PySem.W.kitx_list I.kIn ⟨_, h1, rfl⟩ e (fun z => nomatch z) h
 | @frz a ob xs ea =>
  cases (show u = Value.ref a from rx)
  obtain ⟨_, _, _, n, _, h1⟩ := (show ObjOk X.prog X.w H s.heap a (.frz ob (.lst xs)) from I.hok a _ ea)
  exact PySem.W.kia_one PySem.W.kitx_list I.kIn ⟨_, h1, rfl⟩ e (fun z => nomatch z) h
 | @tup a xs ea =>
  cases (show u = Value.ref a from rx)
  obtain ⟨_, _, _, p⟩ := (show ObjOk X.prog X.w H s.heap a (.tup xs) from I.hok a _ ea)
  obtain ⟨o, h1, h2, _⟩ := p
  exact PySem.W.kia_one PySem.W.kitx_tuple I.kIn ⟨o, h1, h2⟩ e (fun z => nomatch z) h
 | @dK a kvs ea =>
  cases (show u = Value.ref a from rx)
  obtain ⟨_, _, vs, _, p⟩ := (show ObjOk X.prog X.w H s.heap a (.dK kvs) from I.hok a _ ea)
  obtain ⟨o, es, ep, h1, h2, _⟩ := p
  exact PySem.W.kia_one PySem.W.kitx_dict I.kIn ⟨o, h1, h2.1⟩ e (fun z => nomatch z) h
 | @dT a kvs ea =>
  cases (show u = Value.ref a from rx)
  obtain ⟨_, _, xs, _, o, es, ep, h1, h2, _⟩ := (show ObjOk X.prog X.w H s.heap a (.dT kvs) from I.hok a _ ea)
  exact PySem.W.kia_one PySem.W.kitx_dict I.kIn ⟨o, h1, h2.1⟩ e (fun z => nomatch z) h
 | @ins a C dx fs ea cl ha hn htk hm =>
  cases (show u = Value.ref a from rx)
  obtain ⟨mA, O, _⟩ := ins_get I.hok ea
  obtain ⟨od, J, _⟩ := O.look
  exact PySem.W.kia_one (PySem.W.kitx_own (cl.get _) cl.hd ha hn htk hm) I.kIn J e (fun z => nomatch z) h
end
end L2
namespace L2
open PySem PySem.Spec PyProof.Rows
structure Room (k : Nat) (A : Around) : Prop where
 hd : A.handled = none
 dp : A.depth + 3 * k + 5 < recursionLimit
 un : A.units + 16 * k + 200 < cLine
theorem Room.mono {j k : Nat} {A : Around} (r : Room k A) (h : j <= k) : Room j A := ⟨r.hd, by have := r.dp; omega, by have := r.un; omega⟩
theorem Room.deeper {k : Nat} {A : Around} (r : Room (k + 1) A) (env : Env) : Room k (A.deeper env) :=
 ⟨r.hd, by have := r.dp; show A.depth + 1 + 3 * k + 5 < _; omega, by have := r.un; show A.units + 3 + 16 * k + 200 < _; omega⟩
theorem Room.in1 {k : Nat} {A : Around} (r : Room (k + 1) A) : Room k A.in1 :=
 ⟨r.hd, by have := r.dp; show A.depth + 3 * k + 5 < _; omega, by have := r.un; show A.units + 1 + 16 * k + 200 < _; omega⟩
theorem make_depth {A : Around} {C : Addr} {us : List Value} {kw : List (Str × Value)} : (A.under (.builtin "type.__call__" ⟨.ref C :: us, kw⟩)).depth = A.depth + 1 := by
 first | rfl | simp [Around.under, Code.weight, Code.isCreation, Code.isGuard, Code.isCaller, Code.frames, Code.isFrame, guardIds]
theorem make_units {A : Around} {C : Addr} {us : List Value} {kw : List (Str × Value)} : (A.under (.builtin "type.__call__" ⟨.ref C :: us, kw⟩)).units = A.units + 1 := by
 first | rfl | simp [Around.under, Code.cUnits, Code.frames, Code.isFrame]
theorem Room.make {k : Nat} {A : Around} (r : Room (k + 1) A) (C : Addr) (us : List Value) (kw : List (Str × Value)) : Room k (A.under (.builtin "type.__call__" ⟨.ref C :: us, kw⟩)) :=
 ⟨r.hd, by have := r.dp; rw [make_depth]; omega, by have := r.un; rw [make_units]; omega⟩
theorem Room.depth {k : Nat} {A : Around} (r : Room k A) : A.depth < recursionLimit := by have := r.dp; omega
theorem Room.units {k : Nat} {A : Around} (r : Room k A) : A.units + 64 < cLine := by have := r.un; omega
theorem Room.units0 {k : Nat} {A : Around} (r : Room k A) : A.units < cLine := by have := r.un; omega
def tNil : TA := fun _ H Q => Q [] H
def tCons (ta : TE) (tr : TA) : TA := fun σ H Q => ta σ H fun x H1 => tr σ H1 fun xs H2 => Q (x :: xs) H2
section
variable {X : Cx} {e : Expr} {es : List Expr} {te : TE} {t : TA} {pos : Pos}
theorem pa_nil : PA X [] tNil := fun _ _ _ _ H Q I h => Calls.spliced_nil ⟨[], H, I, .nil, h⟩
theorem pa_cons (ha : PE X e te) (hr : PA X es t) (hs : starEach (e :: es) X.env = (false, eval e X.env) :: starEach es X.env := by rfl) : PA X (e :: es) (tCons te t) := by
 intro pos pins s σ H Q I h
 rw [hs]
 show wpAny _ _ (spliced ((false, eval e X.env) :: backTo pos (starEach es X.env))) _ _ s
 refine Calls.spliced_cons (thn (ha pins s σ H _ I h) fun u s1 ⟨x, H1, I1, r1, q1⟩ => ?_)
 exact thn (hr pos pins s1 σ H1 _ I1 q1) fun us s2 ⟨xs, H2, I2, r2, q2⟩ => ⟨x :: xs, H2, I2, .cons r1 r2, q2⟩
def tTup (t : TA) : TE := fun σ H Q => t σ H fun xs H1 => xs.length <= sizeLine /\ ∀ p, H1 p = none -> Q (.ref p) (upd H1 p (.tup xs))
def tLst (t : TA) : TE := fun σ H Q => t σ H fun xs H1 => xs.length <= sizeLine /\ ∀ p, H1 p = none -> Q (.ref p) (upd H1 p (.lst xs))
theorem pe_tup {x1} (h : PA X es t) : PE X (.Tuple es x1 pos) (tTup t) := by
 intro pins s σ H Q I hq
 refine wpAny_Tuple_spliced (thn (h pos pins s σ H _ I hq) fun us s1 ⟨xs, H1, I1, r, z, q⟩ => ⟨by rw [<- r.length]; exact z, ?_⟩)
 have hf : H1 s1.heap.objs.size = none := I1.hok.fresh (Nat.le_refl _)
 refine ⟨.ref s1.heap.objs.size, upd H1 s1.heap.objs.size (.tup xs), I1.laid (t' := s1.toks) (fun b u e => Heap.get?_push_of_some _ e) (Nat.le_refl _) ?_, rfl, q _ hf⟩
 exact ⟨z, us, r, ⟨_, Heap.get?_push_size _ rfl, rfl, _, rfl⟩⟩
theorem pe_lst (h : PA X es t) : PE X (.List es pos) (tLst t) := by
 intro pins s σ H Q I hq
 refine wpAny_List_spliced (thn (h pos pins s σ H _ I hq) fun us s1 ⟨xs, H1, I1, r, z, q⟩ => ⟨by rw [<- r.length]; exact z, ?_⟩)
 have hf : H1 s1.heap.objs.size = none := I1.hok.fresh (Nat.le_refl _)
 refine ⟨.ref s1.heap.objs.size, upd H1 s1.heap.objs.size (.lst xs), I1.laid (t' := s1.toks) (fun b u e => Heap.get?_push_of_some _ e) (Nat.le_refl _) ?_, rfl, q _ hf⟩
 exact ⟨z, us, 0, r, Heap.get?_push_size _ rfl⟩
end
abbrev Sp := List V -> Hp -> VK -> XK -> Prop
abbrev CXT := List Env -> Hp -> Shared -> XK -> Value -> Shared -> Prop
structure Env0 (P : Program) (w : World) (K : Fg_) (mg : Str -> Option Value) (base : Heap) (A : Around) (outer : List Env) (s : Shared) (H : Hp) : Prop where
 frames : A.frames = some outer
 mod : Mod K mg base
 bs : ∀ b o, base.get? b = some o -> s.heap.get? b = some o /\ H b = none
 bsz : base.objs.size <= s.heap.objs.size
 funs : s.heap.FunFrames base outer
 frf : ∀ b ∈ frs outer, H b = none
 hok : HOk P w H s.heap
 bare : AllBare s.gens
def CE (outer : List Env) (P : Program) (w : World) (H : Hp) (s : Shared) (Q : VK) (u : Value) (s' : Shared) : Prop :=
 ∃ v H', s'.os = s.os /\ AllBare s'.gens /\ Un (frs outer) [] H H' s.heap s'.heap /\ HOk P w H' s'.heap /\ RelV v u /\ Q v H'
def CR (CX : CXT) (outer : List Env) (P : Program) (w : World) (H : Hp) (s : Shared) (Q : VK) (E : XK) (r : Result) (s' : Shared) : Prop :=
 match r with
 | .ok (.ret u) => CE outer P w H s Q u s'
 | .ok _ => False
 | .error e => CX outer H s E e s'
structure FnOk (P : Program) (w : World) (K : Fg_) (mg : Str -> Option Value) (base : Heap) (CX : CXT) (k : Nat) (f : Addr) (fd : FuncData) (ps : List Str) (sp : Sp) : Prop where
 len : ∀ vs H Q E, sp vs H Q E -> vs.length = ps.length
 run : ∀ (A : Around) (outer : List Env) (s : Shared) (H : Hp) (args : Args) (us : List Value) (vs : List V) (Q : VK) (E : XK), Room k A -> Env0 P w K mg base A outer s H -> BindsTo s fd args (ps.zip us) -> Vals vs us -> sp vs H Q E ->
  codeAny (model P w) A (.call (.ref f) args) (CR CX outer P w H s Q E) s
theorem Env0.make {P : Program} {w : World} {K : Fg_} {mg : Str -> Option Value} {base : Heap} {A : Around} {outer : List Env} {s : Shared} {H : Hp} (e : Env0 P w K mg base A outer s H) (C : Addr) (us : List Value) (kw : List (Str × Value)) :
  Env0 P w K mg base (A.under (.builtin "type.__call__" ⟨.ref C :: us, kw⟩)) outer s H := ⟨by first | exact e.frames | (simpa [Around.under, Code.envs, Code.isFrame, pushEnvs] using e.frames), e.mod, e.bs, e.bsz, e.funs, e.frf, e.hok, e.bare⟩
theorem Env0.in1 {P : Program} {w : World} {K : Fg_} {mg : Str -> Option Value} {base : Heap} {A : Around} {outer : List Env} {s : Shared} {H : Hp} (e : Env0 P w K mg base A outer s H) :
  Env0 P w K mg base A.in1 outer s H := ⟨e.frames, e.mod, e.bs, e.bsz, e.funs, e.frf, e.hok, e.bare⟩
section
variable {X : Cx} {pins : List (Addr × Obj)} {σ : St} {H : Hp} {s s' : Shared}
theorem Inv.env0 (I : Inv X pins σ H s) : Env0 X.prog X.w X.K X.mg X.base X.A X.stack s H :=
 ⟨I.ok.frames, I.ok.mod, I.bs, Nat.le_trans I.ok.bsz I.sz, I.stack, I.stkFree, I.hok, I.bare⟩
theorem Inv.after {Q : VK} {u : Value} (I : Inv X pins σ H s) (h : CE X.stack X.prog X.w H s Q u s') : EP X pins σ Q u s' := by
 obtain ⟨v, H', os, bare, un, hok, r, q⟩ := h
 obtain ⟨hh, g, d, t, os'⟩ := s'
 obtain rfl : os' = s.os := os
 exact ⟨v, H', I.call (h' := hh) (g' := g) (d' := d) (t' := t) (ch := []) un hok bare (fun b z => absurd z (by simp)), r, q⟩
end
def tCall (sp : Sp) (dvs : List V) (E : XK) (t : TA) : TE := fun σ H Q => t σ H fun vs H1 => sp (vs ++ dvs) H1 Q E
def tMake (C : Addr) (sp : Sp) (dvs : List V) (E : XK) (t : TA) : TE := fun σ H Q => t σ H fun vs H1 => ∀ x dx, H1 x = none -> H1 dx = none -> dx ≠ x ->
 sp (.ref x :: (vs ++ dvs)) (upd (upd H1 dx (.own x)) x (.ins C dx [])) (fun v H2 => v = .non /\ Q (.ref x) H2) E
def Binds (K : Fg_) (fd : FuncData) (ps : List Str) (ds : List Value) : Prop :=
 ∀ (s : Shared) (us : List Value), K.In s.heap -> (us ++ ds).length = ps.length -> BindsTo s fd ⟨us, []⟩ (ps.zip (us ++ ds))
theorem Binds.all {K : Fg_} {fd : FuncData} {ps : List Str} (h : ∀ us : List Value, us.length = ps.length -> bindArgs fd ⟨us, []⟩ = pure (ps.zip us)) : Binds K fd ps [] := fun s us _ hl => by
 rw [List.append_nil] at hl ⊢
 exact .of_eq (h us hl)
def Passes (CX : CXT) (X : Cx) (E : XK) : Prop := ∀ (pins : List (Addr × Obj)) (σ : St) (H : Hp) (s : Shared) (e : Value) (s' : Shared), Inv X pins σ H s -> CX X.stack H s E e s' -> X.xe e s'
section
variable {X : Cx} {CX : CXT} {k : Nat} {f C : Addr} {fd : FuncData} {ps : List Str} {sp : Sp} {dvs : List V} {ds : List Value} {E : XK} {x m : Str} {p pos apos : Pos} {e o : Expr} {es : List Expr} {ta : TE} {t : TA}
theorem run_fn {pins : List (Addr × Obj)} {σ : St} {H : Hp} {s : Shared} {Q : VK} {us : List Value} {vs : List V} (F : FnOk X.prog X.w X.K X.mg X.base CX k f fd ps sp) (hr : Room k X.A) (hb : Binds X.K fd ps ds) (hd : Vals dvs ds) (hx : Passes CX X E)
  (I : Inv X pins σ H s) (r : Vals vs us) (h : sp (vs ++ dvs) H Q E) : wpAny (model X.prog X.w) X.A (call (.ref f) us) (EP X pins σ Q) X.xe s := by
 have r2 : Vals (vs ++ dvs) (us ++ ds) := r.append hd
 have hl : (us ++ ds).length = ps.length := by rw [<- r2.length]; exact F.len _ _ _ _ h
 refine wpAny_call (codeAny_mono (F.run X.A X.stack s H ⟨us, []⟩ (us ++ ds) (vs ++ dvs) Q E hr I.env0 (hb s us I.kIn hl) r2 h) fun r s' hq => ?_)
 cases r with
 | error e => exact hx pins σ H s e s' I hq
 | ok fl =>
  cases fl with
  | ret u => exact I.after hq
  | next => exact False.elim hq
  | brk => exact False.elim hq
  | cont => exact False.elim hq
theorem pe_call (F : FnOk X.prog X.w X.K X.mg X.base CX k f fd ps sp) (hr : Room k X.A) (hg : Gl X x) (hm : X.mg x = some (.ref f)) (hk : PySem.W.keepIn X.K (.ref f) = true) (hb : Binds X.K fd ps ds) (hd : Vals dvs ds) (hx : Passes CX X E)
  (ha : PA X (e :: es) t) (hdb : (x == ("__debug__" : Str)) = false := by decide) (he : starEach (e :: es) X.env = (false, eval e X.env) :: starEach es X.env := by rfl) (hpl : (backTo pos (starEach es X.env)).any (·.1) = false := by rfl) :
  PE X (.Call (.Name x p) (e :: es) [] pos) (tCall sp dvs E t) := by
 intro pins s σ H Q I h
 refine wpAny_Call_Name_kw (ld_glob I hg hm ?_ hdb)
 refine PySem.W.callWith_K (h₀ := X.base) I.ok.mod.kin hk (thn (ha pos pins s σ H _ I h) fun us s1 ⟨vs, H1, I1, r, q⟩ => ⟨I1.kIn, ?_⟩) he hpl
 exact run_fn F hr hb hd hx I1 r q
structure Mk (K : Fg_) (C f : Addr) : Prop where
 makes : PySem.W.makesIn K C = true
 init : PySem.W.findIn K (.ref C) "__init__" = some (some (.ref f))
 fn : PySem.W.isFn K (.ref f) = true
 kp : PySem.W.keepIn K (.ref C) = true
theorem run_make {pins : List (Addr × Obj)} {σ : St} {H : Hp} {s : Shared} {Q : VK} {us : List Value} {vs : List V} (M : Mk X.K C f) (F : FnOk X.prog X.w X.K X.mg X.base CX k f fd ps sp) (hr : Room (k + 1) X.A) (hb : Binds X.K fd ps ds) (hd : Vals dvs ds)
  (hx : Passes CX X E) (I : Inv X pins σ H s) (r : Vals vs us)
  (h : ∀ x dx, H x = none -> H dx = none -> dx ≠ x -> sp (.ref x :: (vs ++ dvs)) (upd (upd H dx (.own x)) x (.ins C dx [])) (fun v H2 => v = .non /\ Q (.ref x) H2) E) :
  wpAny (model X.prog X.w) X.A (call (.ref C) us) (EP X pins σ Q) X.xe s := by
 have hq := h (s.heap.objs.size + 1) s.heap.objs.size (I.hok.fresh (Nat.le_succ _)) (I.hok.fresh (Nat.le_refl _)) (Nat.ne_of_lt (Nat.lt_succ_self _))
 have I2 := Inv.made (C := C) I
 have r2 : Vals (V.ref (s.heap.objs.size + 1) :: (vs ++ dvs)) (Value.ref (s.heap.objs.size + 1) :: (us ++ ds)) := .cons rfl (r.append hd)
 have hl : (Value.ref (s.heap.objs.size + 1) :: us ++ ds).length = ps.length := by
  have e := r2.length
  rw [F.len _ _ _ _ hq] at e
  exact e.symm
 refine wpAny_call (make_map (f := f) I.kIn M.makes M.init (beq_iff_eq.mp M.fn) (codeAny_mono (F.run _ X.stack _ _ ⟨Value.ref (s.heap.objs.size + 1) :: us, []⟩ (Value.ref (s.heap.objs.size + 1) :: (us ++ ds)) _ _ E (hr.make C us [])
  (I2.env0.make C us []) (hb _ (Value.ref (s.heap.objs.size + 1) :: us) I2.kIn hl) r2 hq) fun r s' hq' => ?_))
 cases r with
 | error e => exact hx pins σ _ _ e s' I2 hq'
 | ok fl =>
  cases fl with
  | ret u =>
   obtain ⟨v, H', I3, rv, ev, q3⟩ := I2.after hq'
   subst ev
   exact ⟨rv, ⟨V.ref (s.heap.objs.size + 1), H', I3, rfl, q3⟩⟩
  | next => exact False.elim hq'
  | brk => exact False.elim hq'
  | cont => exact False.elim hq'
theorem pe_make (M : Mk X.K C f) (F : FnOk X.prog X.w X.K X.mg X.base CX k f fd ps sp) (hr : Room (k + 1) X.A) (hg : Gl X x) (hm : X.mg x = some (.ref C)) (hb : Binds X.K fd ps ds) (hd : Vals dvs ds) (hx : Passes CX X E)
  (ha : PA X (e :: es) t) (hdb : (x == ("__debug__" : Str)) = false := by decide) (he : starEach (e :: es) X.env = (false, eval e X.env) :: starEach es X.env := by rfl) (hpl : (backTo pos (starEach es X.env)).any (·.1) = false := by rfl) :
  PE X (.Call (.Name x p) (e :: es) [] pos) (tMake C sp dvs E t) := by
 intro pins s σ H Q I h
 refine wpAny_Call_Name_kw (ld_glob I hg hm ?_ hdb)
 refine PySem.W.callWith_K (h₀ := X.base) I.ok.mod.kin M.kp (thn (ha pos pins s σ H _ I h) fun us s1 ⟨vs, H1, I1, r, q⟩ => ⟨I1.kIn, ?_⟩) he hpl
 exact run_make M F hr hb hd hx I1 r q
end
def PK (X : Cx) (kws : List Keyword) (t : TA) : Prop :=
 ∀ (pos : Pos) (pins : List (Addr × Obj)) (s : Shared) (σ : St) (H : Hp) (Q : List V -> Hp -> Prop), Inv X pins σ H s -> t σ H Q -> wpAny (model X.prog X.w) X.A (evalAll ((backToKw pos (keywordEach kws X.env)).map (·.2))) (AP X pins σ Q) X.xe s
section
variable {X : Cx} {CX : CXT} {k : Nat} {f C : Addr} {fd : FuncData} {ps ks : List Str} {sp : Sp} {E : XK} {x m : Str} {p pos apos kpos : Pos} {e o : Expr} {es : List Expr} {kws : List Keyword} {te ta : TE} {t tk : TA} {nm : Option Str}
theorem pk_nil : PK X [] tNil := fun _ _ _ _ H Q I h => wpAny_evalAll_nil ⟨[], H, I, .nil, h⟩
theorem pk_cons (ha : PE X e te) (hr : PK X kws t) : PK X (⟨nm, e, kpos⟩ :: kws) (tCons te t) := by
 intro pos pins s σ H Q I h
 show wpAny _ _ (evalAll ((do let v <- eval e X.env; standAt pos; pure v) :: (backToKw pos (keywordEach kws X.env)).map (·.2))) _ _ s
 refine wpAny_evalAll_cons (wpAny_bind (thn (ha pins s σ H _ I h) fun u s1 ⟨x, H1, I1, r1, q1⟩ => wpAny_bind (wpAny_standAt (wpAny_pure ?_))))
 exact thn (hr pos pins s1 σ H1 _ I1 q1) fun us s2 ⟨xs, H2, I2, r2, q2⟩ => ⟨x :: xs, H2, I2, .cons r1 r2, q2⟩
structure KBinds (K : Fg_) (fd : FuncData) (ps ks : List Str) (g : List Value -> List Value -> List Value) (gV : List V -> List V -> List V) : Prop where
 to : ∀ (s : Shared) (us ws : List Value), K.In s.heap -> (g us ws).length = ps.length -> BindsTo s fd ⟨us, ks.zip ws⟩ (ps.zip (g us ws))
 rel : ∀ {vs : List V} {us : List Value} {zs : List V} {ws : List Value}, Vals vs us -> Vals zs ws -> Vals (gV vs zs) (g us ws)
variable {g : List Value -> List Value -> List Value} {gV : List V -> List V -> List V}
end
structure FnScope (N P : List Str) (sc : Scope) : Prop where
 kind : sc.kind = .function
 co : sc.isCoroutine = false
 gen : sc.isGenerator = false
 nd : N.Nodup
 pre : N.take P.length = P
 par : ∀ x ∈ P, sc.names.lookup x = some .local \/ sc.names.lookup x = some .cell
 nofree : ∀ y ∈ sc.names, y.2 ≠ .free
theorem bindL_out {kindOf : Str -> Option NameKind} {x : Str} : ∀ {binds : List (Str × Value)} {m : Str -> Option Value}, (∀ v, (x, v) ∉ binds) -> bindL kindOf binds m x = m x
 | [], _, _ => rfl
 | (n, v) :: r, m, h => by
  unfold bindL
  rw [bindL_out fun w hw => h w (List.mem_cons_of_mem _ hw)]
  split
  ·have : x ≠ n := by rintro rfl; exact h v List.mem_cons_self
   simp [this]
  ·rfl
theorem bindC_out {kindOf : Str -> Option NameKind} {x : Str} : ∀ {binds : List (Str × Value)} {m : Str -> Option Value}, (∀ v, (x, v) ∉ binds) -> bindC kindOf binds m x = m x
 | [], _, _ => rfl
 | (n, v) :: r, m, h => by
  unfold bindC
  rw [bindC_out fun w hw => h w (List.mem_cons_of_mem _ hw)]
  split
  ·rfl
  ·have : x ≠ n := by rintro rfl; exact h v List.mem_cons_self
   simp [this]
theorem bindL_get {kindOf : Str -> Option NameKind} {x : Str} {v : Value} : ∀ {P : List Str} {vs : List Value} {i : Nat} {m : Str -> Option Value}, P.Nodup -> P[i]? = some x -> vs[i]? = some v -> kindOf x = some .local ->
  bindL kindOf (P.zip vs) m x = some v
 | [], _, _, _, _, h, _, _ => by simp at h
 | _ :: _, [], _, _, _, _, h, _ => by simp at h
 | p :: P, w :: vs, 0, m, nd, h1, h2, hk => by
  simp at h1 h2; subst h1; subst h2
  show bindL kindOf ((p, w) :: P.zip vs) m p = _
  unfold bindL
  rw [bindL_out fun v hv => (List.nodup_cons.mp nd).1 (List.of_mem_zip hv).1, if_pos hk]
  simp
 | p :: P, w :: vs, i + 1, m, nd, h1, h2, hk => by
  show bindL kindOf ((p, w) :: P.zip vs) m x = _
  unfold bindL
  exact bindL_get (i := i) (List.nodup_cons.mp nd).2 (by simpa using h1) (by simpa using h2) hk
theorem bindC_get {kindOf : Str -> Option NameKind} {x : Str} {v : Value} : ∀ {P : List Str} {vs : List Value} {i : Nat} {m : Str -> Option Value}, P.Nodup -> P[i]? = some x -> vs[i]? = some v -> kindOf x ≠ some .local ->
  bindC kindOf (P.zip vs) m x = some v
 | [], _, _, _, _, h, _, _ => by simp at h
 | _ :: _, [], _, _, _, _, h, _ => by simp at h
 | p :: P, w :: vs, 0, m, nd, h1, h2, hk => by
  simp at h1 h2; subst h1; subst h2
  show bindC kindOf ((p, w) :: P.zip vs) m p = _
  unfold bindC
  rw [bindC_out fun v hv => (List.nodup_cons.mp nd).1 (List.of_mem_zip hv).1, if_neg hk]
  simp
 | p :: P, w :: vs, i + 1, m, nd, h1, h2, hk => by
  show bindC kindOf ((p, w) :: P.zip vs) m x = _
  unfold bindC
  exact bindC_get (i := i) (List.nodup_cons.mp nd).2 (by simpa using h1) (by simpa using h2) hk
def start (N : List Str) (vs : List V) : St := vs.map some ++ List.replicate (N.length - vs.length) none
def cxOf (CX : CXT) (P : Program) (w : World) (K : Fg_) (mg : Str -> Option Value) (base : Heap) (N : List Str) (qual : Str) (scope : Scope) (f : Addr) (cd : Value) (A : Around) (outer : List Env) (s : Shared) (H : Hp) (E : XK) : Cx where
 prog := P
 w := w
 K := K
 mg := mg
 base := base
 A := A.deeper (envOfC qual scope s.heap.objs.size f cd)
 N := N
 s₀ := s
 H₀ := H
 env := envOfC qual scope s.heap.objs.size f cd
 outer := outer
 stack := envOfC qual scope s.heap.objs.size f cd :: outer
 ex := []
 calm := true
 fn := fun _ => true
 pn := []
 xe := fun e s' => wpAny (model P w) (A.deeper (envOfC qual scope s.heap.objs.size f cd)) (leaving (envOfC qual scope s.heap.objs.size f cd) e) (fun _ s'' => CX outer H s E e s'') (fun e' s'' => CX outer H s E e' s'') s'
theorem cell_has {sc : Scope} {n : Nat} {x : Str} (h : sc.names.lookup x = some .cell) : ∃ c, (cellsFrom n sc.names []).lookup x = some c := by
 have q := PySem.W.cellsFrom_some sc.names n [] (.inl h)
 exact Option.isSome_iff_exists.mp q
theorem inv_start {CX : CXT} {P : Program} {w : World} {K : Fg_} {mg : Str -> Option Value} {base : Heap} {N ps : List Str} {qual : Str} {scope : Scope} {f : Addr} {cd : Value} {A : Around} {outer : List Env} {s s1 : Shared} {H : Hp} {E : XK} {us : List Value} {vs : List V}
  (S : FnScope N ps scope) (hd : A.handled = none) (e0 : Env0 P w K mg base A outer s H) (hl : vs.length = ps.length) (r : Vals vs us)
  (x : InCallC s s.heap.objs.size (bindL (envOfC qual scope s.heap.objs.size f cd).kindOf (ps.zip us) fun _ => none) (cellsFrom (s.heap.objs.size + 1) scope.names []) (bindC (envOfC qual scope s.heap.objs.size f cd).kindOf (ps.zip us) fun _ => none) s1) :
  Inv (cxOf CX P w K mg base N qual scope f cd A outer s H E) [] (start N vs) H s1 := by
 have hpl : ps.length <= N.length := by have := congrArg List.length S.pre; rw [List.length_take] at this; omega
 obtain ⟨h1, tk, rfl, hk⟩ := x.done
 have noA : ∀ b : Addr, b ∉ (cxOf CX P w K mg base N qual scope f cd A outer s H E).ex := fun b z => absurd (show b ∈ ([] : List Addr) from z) (by simp)
 refine ⟨⟨e0.mod, S.kind, rfl, rfl, Nat.le_refl _, fun y z c h1 h2 => ?_, fun y hy => ?_, fun y c _ h => ?_, fun _ => hd, Around.frames_deeper e0.frames, .inr ⟨rfl, rfl⟩, fun b z => absurd z (noA b), e0.bs, e0.bsz, fun b _ _ => noA b, fun b z => absurd z (noA b), e0.funs, e0.frf⟩,
  rfl, e0.bare, Un.kept hk, ⟨_, x.toInCall.ns, fun i y v h1 h2 h3 => ?_⟩, fun y c h => ⟨_, x.cell y c h⟩, e0.hok.fresh (Nat.le_refl _), fun y c h => ?_, fun p hp => absurd (show p ∈ ([] : List (Addr × Obj)) from hp) (by simp), e0.hok.kept hk, ?_⟩
 ·exact name_of_addr x.apart (PySem.mem_of_lookup h1) (PySem.mem_of_lookup h2)
 ·have hy : scope.names.lookup y = some .cell \/ scope.names.lookup y = some .free := hy
  rcases hy with hy | hy
  ·exact cell_has hy
  ·exact absurd rfl (S.nofree _ (PySem.mem_of_lookup hy))
 ·exact Nat.le_of_lt (x.above y c (PySem.mem_of_lookup h))
 ·have hi : i < vs.length := by
   unfold start at h2
   by_cases hi : i < vs.length
   ·exact hi
   ·rw [List.getElem?_append_right (by simpa using hi)] at h2
    rw [List.getElem?_replicate] at h2
    split at h2 <;> cases h2
  have ha : vs[i]? = some v := by
   unfold start at h2
   rw [List.getElem?_append_left (by simpa using hi), List.getElem?_map] at h2
   cases e : vs[i]? with
   | none => rw [e] at h2; cases h2
   | some a => rw [e] at h2; cases h2; rfl
  obtain ⟨u, hu, rv⟩ := r.get ha
  have hp : ps[i]? = some y := by
   rw [<- S.pre, List.getElem?_take_of_lt (by omega)]; exact h1
  have ndP : ps.Nodup := by rw [<- S.pre]; exact S.nd.sublist (List.take_sublist _ _)
  refine ⟨u, rv, ?_⟩
  rcases S.par y (List.mem_of_getElem? hp) with k | k
  ·exact .inl ⟨k, bindL_get ndP hp hu k⟩
  ·obtain ⟨c, e⟩ := cell_has (n := s.heap.objs.size + 1) k
   refine .inr ⟨.inl k, c, e, ?_⟩
   have q := x.cell y c e
   rw [bindC_get ndP hp hu (by show scope.names.lookup y ≠ _; rw [k]; decide)] at q
   exact q
 ·exact e0.hok.fresh (Nat.le_of_lt (x.above y c (PySem.mem_of_lookup h)))
 ·unfold start
  show _ = N.length
  rw [List.length_append, List.length_map, List.length_replicate]
  omega
theorem fn_of {CX : CXT} {P : Program} {w : World} {K : Fg_} {mg : Str -> Option Value} {base : Heap} {k : Nat} {f : Addr} {name qual : Str} {params : Arguments} {body : List Stmt} {scope : Scope} {dV kV doc pm cdv ct oc : Value} {an od : Option Addr}
  {osl : Array (Option Value)} {N ps : List Str} {sp : Sp} (lk : K.lookup f = some ⟨oc, od, .func (PySem.W.fnOf name qual params body scope dV kV doc pm an cdv ct), osl⟩) (hcd : PySem.W.codeIn K cdv qual = true) (S : FnScope N ps scope)
  (len : ∀ vs H Q E, sp vs H Q E -> vs.length = ps.length)
  (hbody : ∀ (A : Around) (outer : List Env) (s : Shared) (H : Hp) (vs : List V) (Q : VK) (E : XK), Room k (A.deeper (envOfC qual scope s.heap.objs.size f cdv)) -> sp vs H Q E ->
   ∃ t, PSs (cxOf CX P w K mg base N qual scope f cdv A outer s H E) body t /\ t { nx := fun _ H' => Q .non H', rt := Q } (start N vs) H) :
  FnOk P w K mg base CX (k + 1) f (PySem.W.fnOf name qual params body scope dV kV doc pm an cdv ct) ps sp := by
 refine ⟨len, fun A outer s H args us vs Q E hr e0 hb r hsp => ?_⟩
 have hl := len _ _ _ _ hsp
 have KX : K.In s.heap := e0.mod.kin.keeps fun b o e => (e0.bs b o e).1
 have lim : s.heap.NoLimit := e0.mod.nolimit.keeps fun b o e => (e0.bs b o e).1
 have hkind : ∀ y ∈ ps.zip us, scope.names.lookup y.1 = some .local \/ (scope.names.lookup y.1 = some .cell /\ ((cellsFrom (s.heap.objs.size + 1) scope.names []).lookup y.1).isSome = true) := fun ⟨n, v⟩ hy => by
  rcases S.par n (List.of_mem_zip hy).1 with q | q
  ·exact .inl q
  ·exact .inr ⟨q, PySem.W.cellsFrom_some _ _ _ (.inl q)⟩
 refine codeAny_call_function hr.depth (KX _ _ lk) rfl S.co S.gen rfl (PySem.W.codeRec_of KX hcd) (hb _ _ _ _ ?_)
 refine wpAny_newFunctionEnv_cells S.kind hkind fun env he s1 x => ?_
 subst he
 refine ⟨lim.keeps x.toInCall.keep, codeAny_func ?_⟩
 obtain ⟨t, ht, hq⟩ := hbody A outer s H vs Q E (hr.deeper _) hsp
 have I : Inv (cxOf CX P w K mg base N qual scope f cdv A outer s H E) [] (start N vs) H s1 := inv_start S hr.hd e0 hl r x
 refine wpAny_mono (ht [] s1 (start N vs) H _ I hq) (fun fl s' hs => ?_) fun e s' hs => hs
 have fin : ∀ {σ' : St} {H' : Hp} {v : V} {u : Value}, Inv (cxOf CX P w K mg base N qual scope f cdv A outer s H E) [] σ' H' s' -> RelV v u -> Q v H' -> CE outer P w H s Q u s' :=
  fun {σ' H' v u} J rv q => ⟨v, H', J.os, J.bare, J.base, J.hok, rv, q⟩
 cases fl with
 | ret u =>
  obtain ⟨v, σ', H', J, rv, q⟩ := hs
  exact fin J rv q
 | next =>
  obtain ⟨σ', H', J, q⟩ := hs
  exact fin (v := V.non) (u := Value.none) J rfl q
 | brk =>
  obtain ⟨_, _, _, q⟩ := hs
  exact False.elim q
 | cont =>
  obtain ⟨_, _, _, q⟩ := hs
  exact False.elim q
end L2
namespace L2
open PySem PySem.Spec PyProof.Rows
section
variable {X : Cx} {x : Str} {p pos : Pos} {e : Expr} {es : List Expr} {t : TA} {id T : String} {r : List V -> Hp -> VK -> Prop}
def tCB (r : List V -> Hp -> VK -> Prop) (t : TA) : TE := fun σ H Q => t σ H fun vs H1 => r vs H1 Q
theorem pe_callB (hc : CallR X (.builtin id) r) (hg : Gl X x) (hm : X.mg x = none) (hv : bootBuiltins x = some (.builtin id)) (ha : PA X (e :: es) t) (hn : x ≠ "__name__" := by decide) (hdb : (x == ("__debug__" : Str)) = false := by decide)
  (he : starEach (e :: es) X.env = (false, eval e X.env) :: starEach es X.env := by rfl) (hpl : (backTo pos (starEach es X.env)).any (·.1) = false := by rfl) : PE X (.Call (.Name x p) (e :: es) [] pos) (tCB r t) := by
 intro pins s σ H Q I h
 refine wpAny_Call_Name_kw (ld_blt I hg hm hv ?_ hn hdb)
 exact PyProof.Rows.callWith_builtin1 (thn (ha pos pins s σ H _ I h) fun us s1 ⟨vs, H1, I1, r1, q1⟩ => hc pins s1 σ H1 vs us Q I1 r1 q1) he hpl
theorem pe_callTy (hc : CallR X (.type T) r) (hg : Gl X x) (hm : X.mg x = none) (hv : bootBuiltins x = some (.type T)) (ha : PA X (e :: es) t) (hn : x ≠ "__name__" := by decide) (hdb : (x == ("__debug__" : Str)) = false := by decide)
  (he : starEach (e :: es) X.env = (false, eval e X.env) :: starEach es X.env := by rfl) (hpl : (backTo pos (starEach es X.env)).any (·.1) = false := by rfl) : PE X (.Call (.Name x p) (e :: es) [] pos) (tCB r t) := by
 intro pins s σ H Q I h
 refine wpAny_Call_Name_kw (ld_blt I hg hm hv ?_ hn hdb)
 exact PyProof.Rows.callWith_type1 (thn (ha pos pins s σ H _ I h) fun us s1 ⟨vs, H1, I1, r1, q1⟩ => hc pins s1 σ H1 vs us Q I1 r1 q1) he hpl
end
end L2
namespace HT
open PySem PyProof.Rows
theorem eqAt_int (A : Around) (s : Shared) (a : Int) (t : Tok) (c : Int) (u : Tok) : ∃ e, SeqAt.EqAt A s (.int a t) (.int c u) e /\ (e = true ↔ a = c) :=
 ⟨(a == c), SeqAt.EqAt.int_int a t c u, by simp⟩
section
open PySem.SeqAt
open PySem.AutoSeq1 (wpAny_loadPart')
open PySem.MeetsSeq PySem.MeetsSeq2 PySem.MeetsSeq3
end
section
variable {prog : Program} {w : World} {A : Around} {E : Value -> Shared -> Prop} {s : Shared}
def sIx (n d : Nat) : Option Int -> Nat
 | none => d
 | some v => if v < 0 then (v + (n : Int)).toNat else min v.toNat n
end
end HT
namespace L2
open PySem PySem.Spec PyProof.Rows
abbrev TO := St -> Hp -> (Option Int -> Hp -> Prop) -> Prop
def PO (X : Cx) (e : Option Expr) (t : TO) : Prop :=
 ∀ (pins : List (Addr × Obj)) (s : Shared) (σ : St) (H : Hp) (Q : Option Int -> Hp -> Prop), Inv X pins σ H s -> t σ H Q ->
  wpAny (model X.prog X.w) X.A (evalPart e X.env) (fun u s' => ∃ o H', Inv X pins σ H' s' /\ IsPart u o /\ Q o H') X.xe s
def tNoPart : TO := fun _ H Q => Q none H
def tPart (t : TE) : TO := fun σ H Q => t σ H fun x H1 => ∃ i, x = .int i /\ Q (some i) H1
theorem intsAre_of {ns : List Int} : ∀ {us : List Value}, Vals (ns.map V.int) us -> IntsAre us ns := by
 induction ns with
 | nil => intro us r; rw [List.map_nil] at r; cases r; exact .nil
 | cons n ns ih =>
  intro us r
  rw [List.map_cons] at r
  cases r with
  | cons r1 r2 =>
   obtain ⟨t, e⟩ := r1
   subst e
   exact .cons n t (ih r2)
section
variable {X : Cx} {e : Expr} {te : TE} {lo hi : Option Expr} {tl th : TO} {pos p2 : Pos}
theorem po_none : PO X none tNoPart := by
 intro pins s σ H Q I h
 rw [evalPart_none]
 exact wpAny_pure ⟨none, H, I, .none, h⟩
theorem po_some (h : PE X e te) : PO X (some e) (tPart te) := by
 intro pins s σ H Q I hw
 rw [evalPart_some]
 refine thn (h pins s σ H _ I hw) fun u s1 ⟨x, H1, I1, r1, q1⟩ => ?_
 obtain ⟨i, rfl, q⟩ := q1
 obtain ⟨t, rfl⟩ := r1
 exact ⟨some i, H1, I1, .int i t, q⟩
def SlR (X : Cx) (r : V -> Option Int -> Option Int -> Hp -> VK -> Prop) : Prop :=
 ∀ (pins : List (Addr × Obj)) (s : Shared) (σ : St) (H : Hp) (x : V) (v vl vu : Value) (lo hi : Option Int) (sl : Addr) (Q : VK), Inv X pins σ H s -> RelV x v -> s.heap.IsSliceOf sl vl vu .none -> IsPart vl lo -> IsPart vu hi -> r x lo hi H Q ->
  ∃ T id, typeLookup (.type T) "__getitem__" = pure (some (.builtin id)) /\ s.TypeIs v T /\ wpAny (model X.prog X.w) X.A (getItem v (.ref sl)) (EP X pins σ Q) X.xe s
def tSl (r : V -> Option Int -> Option Int -> Hp -> VK -> Prop) (te : TE) (tl th : TO) : TE := fun σ H Q => te σ H fun x H1 => tl σ H1 fun l H2 => th σ H2 fun u H3 => r x l u H3 Q
theorem pe_slice {r : V -> Option Int -> Option Int -> Hp -> VK -> Prop} (hr : SlR X r) (he : PE X e te) (hl : PO X lo tl) (hu : PO X hi th) : PE X (.Subscript e (.Slice lo hi none p2) pos) (tSl r te tl th) := by
 intro pins s σ H Q I h
 refine Subscript_ (thn (he pins s σ H _ I h) fun v s1 ⟨x, H1, I1, r1, q1⟩ => ?_)
 refine wpAny_Slice (thn (hl pins s1 σ H1 _ I1 q1) fun vl s2 ⟨l, H2, I2, pl, q2⟩ => thn (hu pins s2 σ H2 _ I2 q2) fun vu s3 ⟨u, H3, I3, pu, q3⟩ => ?_)
 rw [evalPart_none]
 refine wpAny_pure ?_
 have I4 : Inv X pins σ H3 { s3 with heap := s3.heap.push { cls := .type "slice", data := .fields #[vl, vu, .none] } } := I3.kept (t' := s3.toks) fun b ob q => Heap.get?_push_of_some _ q
 obtain ⟨T, id, hT, ht, hg⟩ := hr pins { s3 with heap := s3.heap.push { cls := .type "slice", data := .fields #[vl, vu, .none] } } σ H3 x v vl vu l u s3.heap.objs.size Q I4 r1 (Heap.IsSliceOf.new ..) pl pu q3
 show wpAny (model X.prog X.w) X.A (subscriptTail e (.Slice lo hi none p2) v (.ref s3.heap.objs.size)) (EP X pins σ Q) X.xe { s3 with heap := s3.heap.push { cls := .type "slice", data := .fields #[vl, vu, .none] } }
 exact tail_any (ops := [.ref s3.heap.objs.size, v]) ht hT hg (by with_unfolding_all rfl)
def cutV (xs : List V) (lo hi : Option Int) : List V := (xs.drop (HT.sIx xs.length 0 lo)).take (HT.sIx xs.length xs.length hi - HT.sIx xs.length 0 lo)
theorem cutV_length (xs : List V) (lo hi : Option Int) : (cutV xs lo hi).length <= xs.length := by
 unfold cutV
 rw [List.length_take, List.length_drop]
 omega
end
end L2
namespace L2
open PySem PySem.Spec PyProof.Rows
def ixN (n : Nat) (i : Int) : Option Nat := if 0 <= i then (if i < n then some i.toNat else none) else if -(n : Int) <= i then some (i + n).toNat else none
def atI {α : Type} (xs : List α) (i : Int) : Option α := (ixN xs.length i).bind fun j => xs[j]?
theorem ixN_seq {n : Nat} {i : Int} {j : Nat} (h : ixN n i = some j) : seqIndex? i n = some j /\ j < n /\ -(n : Int) <= i /\ i < n := by
 unfold ixN at h
 by_cases h0 : 0 <= i
 ·rw [if_pos h0] at h
  by_cases h1 : i < n
  ·rw [if_pos h1] at h
   have e : i.toNat = j := Option.some.inj h
   exact ⟨by rw [seqIndex_of h0 h1, e], by omega, by omega, h1⟩
  ·rw [if_neg h1] at h; cases h
 ·rw [if_neg h0] at h
  by_cases h1 : -(n : Int) <= i
  ·rw [if_pos h1] at h
   have e : (i + n).toNat = j := Option.some.inj h
   exact ⟨by rw [seqIndex_neg (by omega) h1, e], by omega, h1, by omega⟩
  ·rw [if_neg h1] at h; cases h
theorem atI_get {α : Type} {xs : List α} {i : Int} {v : α} (h : atI xs i = some v) : ∃ j, seqIndex? i xs.length = some j /\ xs[j]? = some v /\ j < xs.length /\ -(xs.length : Int) <= i /\ i < xs.length := by
 unfold atI at h
 cases e : ixN xs.length i with
 | none => rw [e] at h; cases h
 | some j =>
  rw [e] at h
  obtain ⟨h1, h2, h3, h4⟩ := ixN_seq e
  exact ⟨j, h1, h, h2, h3, h4⟩
theorem atI_nat {α : Type} {xs : List α} {j : Nat} {v : α} (h : xs[j]? = some v) : atI xs (j : Int) = some v := by
 have hj : j < xs.length := (List.getElem?_eq_some_iff.mp h).1
 have e : ixN xs.length (j : Int) = some j := by
  unfold ixN
  rw [if_pos (by omega), if_pos (by omega)]; simp
 unfold atI; rw [e]; exact h
def PlainIx (b : Expr) : Prop := ∀ o i, subscripted b false o i = operate [o, i] (getItem o i)
def IxR (X : Cx) (r : R2) : Prop :=
 ∀ (value slice : Expr) (pins : List (Addr × Obj)) (s : Shared) (σ : St) (H : Hp) (x y : V) (v u : Value) (Q : VK), Inv X pins σ H s -> RelV x v -> RelV y u -> r x y H Q ->
  subscripted slice false v u = operate [v, u] (getItem v u) -> wpAny (model X.prog X.w) X.A (subscriptTail value slice v u) (EP X pins σ Q) X.xe s
def MtR (X : Cx) (id : String) (r : V -> List V -> Hp -> VK -> Prop) : Prop :=
 ∀ (pins : List (Addr × Obj)) (s : Shared) (σ : St) (H : Hp) (x : V) (xs : List V) (v : Value) (us : List Value) (Q : VK), Inv X pins σ H s -> RelV x v -> Vals xs us -> r x xs H Q ->
  wpAny (model X.prog X.w) X.A (call (.builtin id) (v :: us)) (EP X pins σ Q) X.xe s
section
variable {X : Cx} {a b : Expr} {ta tb : TE} {pos : Pos}
theorem pe_ix {r : R2} (hr : IxR X r) (ha : PE X a ta) (hb : PE X b tb) (hs : PlainIx b) : PE X (.Subscript a b pos) (tOp r ta tb) := by
 intro pins s σ H Q I h
 exact Subscript_ (binT ha hb I h fun v u s2 x y H2 I2 rx ry q => hr a b pins s2 σ H2 x y v u Q I2 rx ry q (hs _ _))
def rIxL (K : Fg_) : R2 := fun x y H Q => ∃ p xs i v, x = .ref p /\ y = .int i /\ SqL K H p xs /\ atI xs i = some v /\ Q v H
def rIxT (K : Fg_) : R2 := fun x y H Q => ∃ p xs i v, x = .ref p /\ y = .int i /\ SqT K H p xs /\ atI xs i = some v /\ Q v H
def rIxS : R2 := fun x y H Q => ∃ z i c, x = .str z /\ y = .int i /\ z.length <= sizeLine /\ atI z.cps.toList i = some c /\ Q (.str ⟨#[c]⟩) H
theorem ix_list : IxR X (rIxL X.K) := by
 intro value slice pins s σ H x y v u Q I rx ry h hs
 obtain ⟨p, xs, i, z, rfl, rfl, hq, he, q⟩ := h
 cases rx
 obtain ⟨t, rfl⟩ := ry
 obtain ⟨its, r, pl, hz⟩ := I.list hq
 obtain ⟨j, h1, h2, h3, h4, h5⟩ := atI_get he
 obtain ⟨w, ew, rw'⟩ := r.get h2
 have hl := r.length
 have hn := line63
 have fin : EP X pins σ Q w s := ⟨z, H, I, rw', q⟩
 by_cases h0 : 0 <= i
 ·have hj : i.toNat = j := by
   rw [seqIndex_of h0 h5] at h1
   exact Option.some.inj h1
  exact item_listR pl.isList h0 (by omega) (by rw [hj]; simpa using ew) fin hs
 ·have hj : (i + (its.toArray.size : Int)).toNat = j := by
   rw [seqIndex_neg (by omega) h4] at h1
   rw [List.size_toArray, <- hl]
   exact Option.some.inj h1
  exact subscriptTail_builtinR (x := w) pl.isList.typeIs slot_list_getitem.lookup
   (wpAny_getItem_list_neg (Q := fun r s' => r = w /\ EP X pins σ Q r s') pl.isList (by omega) (by rw [List.size_toArray] <;> omega) (by omega) (by rw [hj]; simpa using ew) ⟨rfl, fin⟩) hs
theorem ix_tup : IxR X (rIxT X.K) := by
 intro value slice pins s σ H x y v u Q I rx ry h hs
 obtain ⟨p, xs, i, z, rfl, rfl, hq, he, q⟩ := h
 cases rx
 obtain ⟨t, rfl⟩ := ry
 obtain ⟨its, r, pl, hz⟩ := I.tuple hq
 obtain ⟨j, h1, h2, h3, h4, h5⟩ := atI_get he
 obtain ⟨w, ew, rw'⟩ := r.get h2
 have hl := r.length
 have hn := line63
 have fin : EP X pins σ Q w s := ⟨z, H, I, rw', q⟩
 exact subscriptTail_builtinR (x := w) pl.typeIs slot_tuple_getitem.lookup
  (getItem_tuple (j := j) (Q := fun r s' => r = w /\ EP X pins σ Q r s') pl (by omega) (by omega) (by rw [List.size_toArray, <- hl]; exact h1) (by simpa using ew) ⟨rfl, fin⟩) hs
theorem ix_str : IxR X rIxS := by
 intro value slice pins s σ H x y v u Q I rx ry h hs
 obtain ⟨z, i, c, rfl, rfl, hz, he, q⟩ := h
 obtain ⟨t, rfl⟩ := rx
 obtain ⟨t', rfl⟩ := ry
 obtain ⟨j, h1, h2, h3, h4, h5⟩ := atI_get he
 have hl : z.cps.toList.length = z.length := by simp [Str.length]
 rw [hl] at h1 h4 h5
 have hn := line63
 exact tail_any (typeIs_str s z t) slot_str_getitem.lookup (getItem_str (c := c) (by
  have e1 : decide (i < -(2 ^ 63 : Int)) = false := decide_eq_false (by omega)
  have e2 : decide (i >= 2 ^ 63) = false := decide_eq_false (by omega)
  rw [e1, e2, Bool.or_false]) (by rw [h1]; simpa using h2) ⟨.str ⟨#[c]⟩, H, I.tok _, ⟨_, rfl⟩, q⟩) hs
theorem Inv.lst {pins : List (Addr × Obj)} {σ : St} {H : Hp} {s : Shared} {p : Addr} {xs : List V} (I : Inv X pins σ H s) (h : H p = some (.lst xs)) :
  ∃ (its : List Value) (n : Nat), Vals xs its /\ s.heap.get? p = some { cls := .type "list", data := .seq its.toArray n } /\ xs.length <= sizeLine := by
 obtain ⟨z, its, n, r, e⟩ := I.hok p _ h
 exact ⟨its, n, r, e, z⟩
theorem slice_bounds (lo hi : Option Int) (n : Nat) : (sliceBounds lo hi none n).1 = ((HT.sIx n 0 lo : Nat) : Int) /\ (sliceBounds lo hi none n).2.1 = ((HT.sIx n n hi : Nat) : Int) /\ (sliceBounds lo hi none n).2.2 = 1 := by
 refine ⟨?_, ?_, rfl⟩
 ·cases lo with
  | none => simp [sliceBounds, HT.sIx]
  | some i =>
   simp only [sliceBounds, HT.sIx, Option.getD_none, show (1 : Int) > 0 by decide, if_true]
   by_cases h : i < 0
   ·simp only [h, if_true] <;> omega
   ·simp only [h, if_false] <;> omega
 ·cases hi with
  | none => simp [sliceBounds, HT.sIx]
  | some i =>
   simp only [sliceBounds, HT.sIx, Option.getD_none, show (1 : Int) > 0 by decide, if_true]
   by_cases h : i < 0
   ·simp only [h, if_true] <;> omega
   ·simp only [h, if_false] <;> omega
theorem slicePick_cut (its : List Value) (lo hi : Option Int) : slicePick its.toArray lo hi none = ((its.drop (HT.sIx its.length 0 lo)).take (HT.sIx its.length its.length hi - HT.sIx its.length 0 lo)).toArray := by
 obtain ⟨h1, h2, h3⟩ := slice_bounds lo hi its.toArray.size
 unfold slicePick
 rw [h1, h2, h3]
 simp only [sliceRange_one, pick_run, List.size_toArray] <;> rfl
def rSlL (K : Fg_) : V -> Option Int -> Option Int -> Hp -> VK -> Prop := fun x lo hi H Q => ∃ a xs, x = .ref a /\ SqL K H a xs /\ ∀ p, H p = none -> Q (.ref p) (upd H p (.lst (cutV xs lo hi)))
theorem sl_list : SlR X (rSlL X.K) := by
 intro pins s σ H x v vl vu lo hi sl Q I rx hs pl pu h
 obtain ⟨a, xs, rfl, hx, q⟩ := h
 cases rx
 obtain ⟨its, r, ht, hz⟩ := I.list hx
 have hlen := r.length
 refine ⟨"list", _, slot_list_getitem.lookup, ht.isList.typeIs, ?_⟩
 refine wpAny_getItem_list_slice ht.isList hs pl pu .none (by simp) ?_ (by rw [List.size_toArray] <;> omega)
 rw [slicePick_cut, <- hlen]
 refine ⟨.ref s.heap.objs.size, _, I.laid (t' := s.toks) (o := .lst (cutV xs lo hi)) (fun b ob q => Heap.get?_push_of_some _ q) (Nat.le_refl _) ?_, rfl, q _ (I.hok.fresh (Nat.le_refl _))⟩
 exact ⟨Nat.le_trans (cutV_length xs lo hi) hz, _, 0, (r.drop (HT.sIx xs.length 0 lo)).take (HT.sIx xs.length xs.length hi - HT.sIx xs.length 0 lo), Heap.get?_push_size _ rfl⟩
def flatV : V -> Bool
 | .non => true
 | .bl _ => true
 | .int _ => true
 | .str _ => true
 | _ => false
def eqV : V -> V -> Bool
 | .non, .non => true
 | .bl a, .bl b => a == b
 | .bl a, .int b => (if a then 1 else 0) == b
 | .int a, .bl b => a == (if b then 1 else 0)
 | .int a, .int b => a == b
 | .str a, .str b => a == b
 | _, _ => false
theorem eqAt_V {A : Around} {s : Shared} {y x : V} {u v : Value} (ry : RelV y u) (rx : RelV x v) (fy : flatV y = true) (fx : flatV x = true) : SeqAt.EqAt A s u v (eqV y x) := by
 cases y with
 | non =>
  cases ry
  cases x with
  | non => cases rx; exact SeqAt.EqAt.same _
  | bl b => cases rx; exact SeqAt.EqAt.none_bool b
  | int b => obtain ⟨t, rfl⟩ := rx; exact SeqAt.EqAt.none_int b t
  | str b => obtain ⟨t, rfl⟩ := rx; exact SeqAt.EqAt.none_str b t
  | _ => exact absurd (show false = true from fx) Bool.false_ne_true
 | bl a =>
  cases ry
  cases x with
  | non => cases rx; exact SeqAt.EqAt.bool_none a
  | bl b => cases rx; exact SeqAt.EqAt.bool_bool a b
  | int b => obtain ⟨t, rfl⟩ := rx; exact SeqAt.EqAt.bool_int a b t
  | str b => obtain ⟨t, rfl⟩ := rx; exact SeqAt.EqAt.bool_str a b t
  | _ => exact absurd (show false = true from fx) Bool.false_ne_true
 | int a =>
  obtain ⟨t', rfl⟩ := ry
  cases x with
  | non => cases rx; exact SeqAt.EqAt.int_none a t'
  | bl b => cases rx; exact SeqAt.EqAt.int_bool a t' b
  | int b => obtain ⟨t, rfl⟩ := rx; exact SeqAt.EqAt.int_int a t' b t
  | str b => obtain ⟨t, rfl⟩ := rx; exact SeqAt.EqAt.int_str a t' b t
  | _ => exact absurd (show false = true from fx) Bool.false_ne_true
 | str a =>
  obtain ⟨t', rfl⟩ := ry
  cases x with
  | non => cases rx; exact SeqAt.EqAt.str_none a t'
  | bl b => cases rx; exact SeqAt.EqAt.str_bool a t' b
  | int b => obtain ⟨t, rfl⟩ := rx; exact SeqAt.EqAt.str_int a t' b t
  | str b => obtain ⟨t, rfl⟩ := rx; exact SeqAt.EqAt.str_str a t' b t
  | _ => exact absurd (show false = true from fx) Bool.false_ne_true
 | _ => exact absurd (show false = true from fy) Bool.false_ne_true
def eqU (x : V) (u : Value) : Bool := match u with
 | .none => eqV .non x
 | .bool b => eqV (.bl b) x
 | .int i _ => eqV (.int i) x
 | .str z _ => eqV (.str z) x
 | _ => false
theorem eqU_of {x y : V} {u : Value} (r : RelV y u) (f : flatV y = true) : eqU x u = eqV y x := by
 cases y with
 | non => cases r; rfl
 | bl b => cases r; rfl
 | int i => obtain ⟨t, rfl⟩ := r; rfl
 | str z => obtain ⟨t, rfl⟩ := r; rfl
 | _ => exact absurd (show false = true from f) Bool.false_ne_true
theorem any_eqU {x : V} : ∀ {xs : List V} {us : List Value}, Vals xs us -> xs.all flatV = true -> us.any (eqU x) = xs.any fun y => eqV y x
 | _, _, .nil, _ => rfl
 | y :: xs, u :: us, .cons r t, f => by
  rw [List.all_cons, Bool.and_eq_true] at f
  rw [List.any_cons, List.any_cons, eqU_of r f.1, any_eqU t f.2]
theorem mem_eqAt {A : Around} {s : Shared} {x : V} {v : Value} (rx : RelV x v) (fx : flatV x = true) : ∀ {xs : List V} {us : List Value}, Vals xs us -> xs.all flatV = true -> ∀ u ∈ us, SeqAt.EqAt A s u v (eqU x u)
 | _, _, .nil, _ => fun u hu => by cases hu
 | y :: xs, u :: us, .cons r t, f => fun u' hu => by
  rw [List.all_cons, Bool.and_eq_true] at f
  rcases List.mem_cons.mp hu with rfl | hu
  ·rw [eqU_of r f.1]; exact eqAt_V r rx f.1 fx
  ·exact mem_eqAt rx fx t f.2 u' hu
def inV (x : V) (xs : List V) : Bool := xs.any fun y => eqV y x
def rIn (K : Fg_) (neg : Bool) : R2 := fun x y H Q => ∃ p xs, y = .ref p /\ (SqL K H p xs \/ SqT K H p xs) /\ flatV x = true /\ xs.all flatV = true /\ Q (.bl (if neg then !inV x xs else inV x xs)) H
theorem op_in_seq : OpR X (compareOp .In) (rIn X.K false) := by
 intro pins s σ H x y v u Q I rx ry h
 obtain ⟨p, xs, rfl, hq, fx, fs, q⟩ := h
 cases ry
 rcases hq with hq | hq
 ·obtain ⟨its, r, pl, hz⟩ := I.list hq
  refine SeqAt.in_listAt (eqU x) pl.isList (fun w hw => mem_eqAt rx fx r fs w (by simpa using hw)) ⟨.bl _, H, I, rfl, ?_⟩
  rw [show its.toArray.any (eqU x) = its.any (eqU x) by simp, any_eqU r fs]
  exact q
 ·obtain ⟨its, r, pl, hz⟩ := I.tuple hq
  refine SeqAt.in_tupleAt (eqU x) pl (fun w hw => mem_eqAt rx fx r fs w (by simpa using hw)) ⟨.bl _, H, I, rfl, ?_⟩
  rw [show its.toArray.any (eqU x) = its.any (eqU x) by simp, any_eqU r fs]
  exact q
theorem op_notIn_seq : OpR X (compareOp .NotIn) (rIn X.K true) := by
 intro pins s σ H x y v u Q I rx ry h
 obtain ⟨p, xs, rfl, hq, fx, fs, q⟩ := h
 cases ry
 rcases hq with hq | hq
 ·obtain ⟨its, r, pl, hz⟩ := I.list hq
  refine SeqAt.notIn_listAt (eqU x) pl.isList (fun w hw => mem_eqAt rx fx r fs w (by simpa using hw)) ⟨.bl _, H, I, rfl, ?_⟩
  rw [show its.toArray.any (eqU x) = its.any (eqU x) by simp, any_eqU r fs]
  exact q
 ·obtain ⟨its, r, pl, hz⟩ := I.tuple hq
  refine SeqAt.notIn_tupleAt (eqU x) pl (fun w hw => mem_eqAt rx fx r fs w (by simpa using hw)) ⟨.bl _, H, I, rfl, ?_⟩
  rw [show its.toArray.any (eqU x) = its.any (eqU x) by simp, any_eqU r fs]
  exact q
theorem call_len_seq : CallR X (.builtin "len") (fun xs H Q => ∃ p ys, xs = [.ref p] /\ (SqL X.K H p ys \/ SqT X.K H p ys) /\ Q (.int ys.length) H) := by
 intro pins s σ H xs us Q I r h
 obtain ⟨p, ys, rfl, hq, q⟩ := h
 obtain ⟨u, rfl, rx⟩ := vals1 r
 cases rx
 have hn := line63
 rcases hq with hq | hq
 ·obtain ⟨its, r', pl, hz⟩ := I.list hq
  have hlen := r'.length
  exact Calls.call_len_list pl.isList (by simp only [List.size_toArray] <;> omega) ⟨.int ys.length, H, I.tok _, ⟨s.toks + 1, by rw [List.size_toArray, hlen]⟩, q⟩
 ·obtain ⟨its, r', pl, hz⟩ := I.tuple hq
  have hlen := r'.length
  exact len_tuple pl (by simp only [List.size_toArray] <;> omega) ⟨.int ys.length, H, I.tok _, ⟨s.toks + 1, by rw [List.size_toArray, hlen]⟩, q⟩
theorem call_len_str : CallR X (.builtin "len") (fun xs H Q => ∃ z, xs = [.str z] /\ z.length <= sizeLine /\ Q (.int z.length) H) := by
 intro pins s σ H xs us Q I r h
 obtain ⟨z, rfl, hz, q⟩ := h
 obtain ⟨u, rfl, t, rfl⟩ := vals1 r
 have hn := line63
 exact len_str (by omega) ⟨.int z.length, H, I.tok _, ⟨_, rfl⟩, q⟩
theorem call_list_of : CallR X (.type "list") (fun xs H Q => ∃ p ys, xs = [.ref p] /\ (SqL X.K H p ys \/ SqT X.K H p ys) /\ ∀ l, H l = none -> Q (.ref l) (upd H l (.lst ys))) := by
 intro pins s σ H xs us Q I r h
 obtain ⟨p, ys, rfl, hq, q⟩ := h
 obtain ⟨u, rfl, rx⟩ := vals1 r
 cases rx
 have fin : ∀ (its : List Value), Vals ys its -> ys.length <= sizeLine -> ∀ (h' : Heap) (c' : Nat), (∀ b o', s.heap.get? b = some o' -> h'.get? b = some o') ->
   h'.get? s.heap.objs.size = some { cls := .type "list", dict := none, data := .seq its.toArray c', slots := #[] } -> EP X pins σ Q (.ref s.heap.objs.size) { s with heap := h' } := fun its r' hz h' c' kp e =>
  ⟨.ref s.heap.objs.size, _, I.laid (t' := s.toks) kp (Nat.le_refl _) (show ObjOk X.prog X.w _ h' _ (.lst ys) from ⟨hz, its, c', r', e⟩), rfl, q _ (I.hok.fresh (Nat.le_refl _))⟩
 rcases hq with hq | hq
 ·obtain ⟨its, r', pl, hz⟩ := I.list hq
  have hlen := r'.length
  obtain ⟨o, ho, hc, n, hd⟩ := pl.isList
  exact call_list_seq p (.inl rfl) ho hc hd (fun h' c' kp e => fin its r' hz h' c' kp e) (by simp only [List.size_toArray] <;> omega)
 ·obtain ⟨its, r', pl, hz⟩ := I.tuple hq
  have hlen := r'.length
  obtain ⟨o, ho, hc, n, hd⟩ := pl
  exact call_list_seq p (.inr rfl) ho hc hd (fun h' c' kp e => fin its r' hz h' c' kp e) (by simp only [List.size_toArray] <;> omega)
def tyV (K : Fg_) (T : String) (x : V) (H : Hp) : Prop := match x with
 | .str _ => T = "str"
 | .int _ => T = "int"
 | .ref p => (T = "list" /\ ∃ xs, SqL K H p xs) \/ (T = "tuple" /\ ∃ o, K.lookup p = some o /\ o.cls = .type "tuple" /\ o.dict = none) \/
   (T = "dict" /\ ((∃ kvs, H p = some (.dK kvs)) \/ ∃ kvs, H p = some (.dT kvs))) \/ (T = "set" /\ ∃ S n, H p = some (.set S n))
 | _ => False
theorem tyV_is {pins : List (Addr × Obj)} {σ : St} {H : Hp} {s : Shared} {T : String} {x : V} {v : Value} (I : Inv X pins σ H s) (r : RelV x v) (ty : tyV X.K T x H) :
  s.TypeIs v T /\ ∀ a, v = .ref a -> ∃ ob, s.heap.get? a = some ob /\ ob.dict = none := by
 cases x with
 | str z =>
  obtain ⟨t, rfl⟩ := r
  cases (show T = "str" from ty)
  exact ⟨typeIs_str s z t, fun _ e => nomatch e⟩
 | int i =>
  obtain ⟨t, rfl⟩ := r
  cases (show T = "int" from ty)
  exact ⟨typeIs_int s i t, fun _ e => nomatch e⟩
 | ref p =>
  cases r
  rcases ty with ⟨rfl, xs, hq⟩ | ⟨rfl, o, hk, hc, hd⟩ | ⟨rfl, hk⟩ | ⟨rfl, S, n, hk⟩
  ·obtain ⟨its, _, pl, _⟩ := I.list hq
   refine ⟨pl.isList.typeIs, fun a e => ?_⟩
   cases e
   obtain ⟨o, n, e, c, hd, _⟩ := pl
   exact ⟨o, e, hd⟩
  ·refine ⟨⟨o, I.kIn p o hk, hc⟩, fun a e => ?_⟩
   cases e
   exact ⟨o, I.kIn _ o hk, hd⟩
  ·have z : ∃ o, s.heap.get? p = some o /\ o.ExactDict := by
    rcases hk with ⟨kvs, hk⟩ | ⟨kvs, hk⟩
    ·obtain ⟨_, _, _, _, o, _, _, e, ex, _⟩ := I.hok p _ hk
     exact ⟨o, e, ex⟩
    ·obtain ⟨_, _, _, _, o, _, _, e, ex, _⟩ := I.hok p _ hk
     exact ⟨o, e, ex⟩
   obtain ⟨o, e, ex⟩ := z
   refine ⟨⟨o, e, ex.1⟩, fun a e2 => ?_⟩
   cases e2
   exact ⟨o, e, ex.2.1⟩
  ·obtain ⟨o, _, _, _, e, ex, _⟩ := I.hok p _ hk
   refine ⟨⟨o, e, ex.1⟩, fun a e2 => ?_⟩
   cases e2
   exact ⟨o, e, ex.2.1⟩
 | _ => exact False.elim ty
def tBM0 (K : Fg_) (T : String) (r : V -> List V -> Hp -> VK -> Prop) (to : TE) : TE := fun σ H Q => to σ H fun x H1 => tyV K T x H1 /\ r x [] H1 Q
def tBM (K : Fg_) (T : String) (r : V -> List V -> Hp -> VK -> Prop) (to : TE) (t : TA) : TE := fun σ H Q => to σ H fun x H1 => tyV K T x H1 /\ t σ H1 fun xs H2 => r x xs H2 Q
variable {o e : Expr} {es : List Expr} {to : TE} {t : TA} {name : Str} {apos cpos : Pos} {T id : String} {r : V -> List V -> Hp -> VK -> Prop}
theorem pe_bm0 (pa : PlainAttrs T) (slot : Slot T name id) (hty : typeOf (.builtin id) = pure (.type "method_descriptor")) (hm : MtR X id r) (ho : PE X o to)
  (hbase : attributeBase o name X.env (eval o X.env) = eval o X.env := by rfl) (hline : (apos.endLine == cpos.line) = true := by rfl) : PE X (.Call (.Attribute o name apos) [] [] cpos) (tBM0 X.K T r to) := by
 intro pins s σ H Q I h
 refine wpAny_Call_method0_late hbase hline (thn (ho pins s σ H _ I h) fun v s1 ⟨x, H1, I1, r1, ty, q1⟩ => ?_)
 obtain ⟨h1, h2⟩ := tyV_is I1 r1 ty
 exact ⟨T, id, pa, slot, hty, h1, h2, Calls.callWith_builtin rfl (PySem.evalArgs_none (hm pins s1 σ H1 x [] v [] Q I1 r1 .nil q1))⟩
theorem pe_bm (pa : PlainAttrs T) (slot : Slot T name id) (hty : typeOf (.builtin id) = pure (.type "method_descriptor")) (hm : MtR X id r) (ho : PE X o to) (ha : PA X (e :: es) t)
  (hbase : attributeBase o name X.env (eval o X.env) = eval o X.env := by rfl)
  (hfew : ((backTo cpos (starEach (e :: es) X.env)).all (fun x => !x.1) && (backToKw cpos (keywordEach [] X.env)).all (fun x => x.1.isSome)
   && decide ((e :: es).length + ([] : List Keyword).length + (if ([] : List Keyword).isEmpty then 0 else 1) < 30)) = true := by rfl)
  (hline : (apos.endLine == cpos.line) = true := by rfl) (hs : starEach (e :: es) X.env = (false, eval e X.env) :: starEach es X.env := by rfl) (hplain : (backTo cpos (starEach es X.env)).any (·.1) = false := by rfl) :
  PE X (.Call (.Attribute o name apos) (e :: es) [] cpos) (tBM X.K T r to t) := by
 intro pins s σ H Q I h
 refine wpAny_Call_method_late hbase hfew hline rfl (thn (ho pins s σ H _ I h) fun v s1 ⟨x, H1, I1, r1, ty, q1⟩ => ?_)
 obtain ⟨h1, h2⟩ := tyV_is I1 r1 ty
 refine ⟨T, id, pa, slot, hty, h1, h2, ?_⟩
 have hA := ha cpos pins s1 σ H1 _ I1 q1
 rw [hs] at hA ⊢
 refine Calls.callWith_builtin (by show (false || (backTo cpos (starEach es X.env)).any (·.1)) = false; rw [hplain] <;> rfl) (Calls.evalArgs_plain ?_)
 exact thn hA fun us s2 ⟨vs, H2, I2, r2, q2⟩ => hm pins s2 σ H2 x vs v us Q I2 r1 r2 q2
end
end L2
namespace L2
open PySem PySem.Spec PyProof.Rows
def MtM (X : Cx) (id : String) (r : V -> List V -> Hp -> VK -> Prop) : Prop :=
 ∀ (pins : List (Addr × Obj)) (s : Shared) (σ : St) (H : Hp) (x : V) (xs : List V) (v : Value) (us : List Value) (Q : VK), Inv X pins σ H s -> RelV x v -> Vals xs us -> r x xs H Q ->
  wpAny (model X.prog X.w) X.A (call (.builtin id) (v :: us)) (EP X pins σ Q) X.xe s
theorem Vals.one : ∀ {x : V} {us : List Value}, Vals [x] us -> ∃ u, us = [u] /\ RelV x u
 | _, _, .cons r .nil => ⟨_, rfl, r⟩
theorem Vals.zero : ∀ {us : List Value}, Vals [] us -> us = []
 | _, .nil => rfl
section
variable {X : Cx} {pins : List (Addr × Obj)} {σ : St} {H : Hp} {s : Shared} {l b : Addr} {xs ys zs : List V}
theorem Inv.lset {its its' : List Value} {n : Nat} {f : Array Value -> Array Value} {t' : Nat} (I : Inv X pins σ H s) (hH : H l = some (.lst xs))
  (e : s.heap.get? l = some { cls := .type "list", data := .seq its.toArray n }) (hf : f its.toArray = its'.toArray) (hv : Vals ys its') (hz : ys.length <= sizeLine) :
  Inv X pins σ (upd H l (.lst ys)) { s with heap := s.heap.update l (Obj.mapSeq f), toks := t' } := by
 have q := PySem.IsL.update e f
 rw [hf] at q
 refine I.write (x := l) (e := l) (by rw [hH]; exact trivial) (.inl rfl) (fun b' u hb hu => (Heap.get?_update_other s.heap (Obj.mapSeq f) (Ne.symm hb)).trans hu) ⟨_, q⟩ ?_
 exact ⟨hz, its', _, hv, q⟩
theorem Inv.lnew {its : List Value} {t' : Nat} (I : Inv X pins σ H s) (hv : Vals ys its) (hz : ys.length <= sizeLine) :
  Inv X pins σ (upd H s.heap.objs.size (.lst ys)) { s with heap := s.heap.push { cls := .type "list", data := .seq its.toArray }, toks := t' } :=
 I.laid (fun _ _ q => Heap.get?_push_of_some _ q) (Nat.le_refl _) ⟨hz, its, 0, hv, Heap.get?_push_size _ rfl⟩
theorem Inv.fresh (I : Inv X pins σ H s) : H s.heap.objs.size = none := I.hok.fresh (Nat.le_refl _)
theorem Inv.lstM (I : Inv X pins σ H s) (hH : H l = some (.lst xs)) : xs.length <= sizeLine /\ ∃ (its : List Value) (n : Nat), Vals xs its /\ xs.length = its.length /\ s.heap.get? l = some { cls := .type "list", data := .seq its.toArray n } := by
 obtain ⟨z, its, n, r, e⟩ := I.hok l _ hH
 exact ⟨z, its, n, r, r.length, e⟩
end
section
variable {X : Cx}
def rAppend : V -> List V -> Hp -> VK -> Prop := fun x vs H Q => ∃ l xs y, x = .ref l /\ vs = [y] /\ H l = some (.lst xs) /\ xs.length < sizeLine /\ Q .non (upd H l (.lst (xs ++ [y])))
theorem mt_append : MtM X "list.append" rAppend := by
 intro pins s σ H x vs v us Q I rx rv h
 obtain ⟨l, xs, y, rfl, rfl, hH, hz, q⟩ := h
 cases rx
 obtain ⟨u, rfl, ru⟩ := rv.one
 obtain ⟨z, its, n, r, hl, e⟩ := I.lstM hH
 refine call_meets F.slot_list_append ⟨_, e, rfl⟩ F.entry_list_append (F.args_list_append_2 _ _) (PySem.list_append l its.toArray n u (by rw [List.size_toArray]; omega)) ⟨e, ?_⟩
 refine ⟨.non, _, I.lset (its' := its ++ [u]) hH e (by simp) (r.append (.cons ru .nil)) ?_, rfl, q⟩
 rw [List.length_append, List.length_singleton]
 omega
def rCat : R2 := fun x y H Q => ∃ l b xs zs, x = .ref l /\ y = .ref b /\ H l = some (.lst xs) /\ H b = some (.lst zs) /\ xs.length + zs.length <= sizeLine /\ ∀ p, H p = none -> Q (.ref p) (upd H p (.lst (xs ++ zs)))
theorem op_cat : OpR X (binaryOp .Add) rCat := by
 intro pins s σ H x y v u Q I rx ry h
 obtain ⟨l, b, xs, zs, rfl, rfl, hH, hB, hz, q⟩ := h
 cases rx
 cases ry
 obtain ⟨z, its, n, r, hl, e⟩ := I.lstM hH
 obtain ⟨z2, its2, n2, r2, hl2, e2⟩ := I.lstM hB
 refine PySem.P.add_list e e2 ?_ (by rw [List.size_toArray, List.size_toArray]; omega)
 have ea : its.toArray ++ its2.toArray = (its ++ its2).toArray := by simp
 rw [ea]
 exact ⟨.ref _, _, I.lnew (t' := s.toks) (r.append r2) (by rw [List.length_append]; omega), rfl, q _ I.fresh⟩
end
section
variable {prog : Program} {w : World} {A : Around} {E : Value -> Shared -> Prop} {s : Shared}
set_option maxRecDepth 100000 in
end
end L2
namespace Att
open PySem PySem.W PySem.Calls PyProof.Rows
theorem ints_of_wellAll {P : Params} {h : Heap} : ∀ (ns : List Int) (vs : List Value), WellAll P h vs (ns.map WData.int) -> IntsAre vs ns := by
 intro ns
 induction ns with
 | nil =>
  intro vs w
  rw [List.map_nil] at w
  cases w
  exact .nil
 | cons n ns ih =>
  intro vs w
  rw [List.map_cons] at w
  cases w with
  | cons a b =>
   cases a
   exact .cons _ _ (ih _ b)
theorem script_of {l : OpenLaw} {n : Nat} (hn : l.most = some n) {P : Params} {h : Heap} {args : List WData} {vals : List Value}
  (hpre : l.row.toRowW.claim.pre args = true) (hwl : WellAll P h vals args) :
  ∃ a vs ns, vals = [Value.ref a] /\ args = [WData.list (ns.map WData.int)] /\ h.get? a = some { cls := .type "list", data := .seq vs.toArray } /\ IntsAre vs ns /\ ns.length <= n := by
 have hsh : WShape.hasAll [] args [.list .int] = true := (pre_splitW hpre).1
 have hc : l.pre.holds [] { args := args } = true := (pre_splitW hpre).2
 obtain ⟨d, r, rfl, h1, h2⟩ := hasAllW_cons hsh
 obtain rfl := hasAllW_nil h2
 obtain ⟨xs, rfl, h3⟩ := hasW_list h1
 obtain ⟨ns, rfl⟩ := items_int h3
 have hlen : ns.length <= n := by
  unfold OpenLaw.pre at hc
  have h4 : (WTm.not (.lt (.lit (.int (n : Int))) (.len (.arg 0)))).holds [] { args := [.list (ns.map .int)] } = true := by
   have h4 := (holds_andW hc).1
   rw [hn] at h4
   exact h4
  have h5 := condW_of h4 (w_not (w_lt w_lit (w_len_list (w_arg rfl))))
  rw [List.length_map] at h5
  refine Nat.le_of_not_lt fun q => ?_
  have q' : (n : Int) < ((ns.length : Nat) : Int) := by omega
  first
   | (rw [decide_eq_true q'] at h5; exact absurd h5 (by decide))
   | (simp at h5; omega)
 cases hwl with
 | cons w1 w2 =>
  cases w2
  cases w1 with
  | list ho hall => exact ⟨_, _, ns, rfl, rfl, ho, ints_of_wellAll ns _ hall, hlen⟩
theorem post_true (l : OpenLaw) (args : List WData) : l.row.toRowW.claim.post args (.bool true) args = true :=
 postW_of (r := l.row.toRowW) (X := (true == true))
  (show WShape.has [] (.bool true) .bool = true by first | rfl | decide | simp [WShape.has, WShape.arms, WShape.armsAll])
  (show (WTm.eq .res (.lit (.bool true))).value [] { args := args, res := some (.bool true), after := args } = some (.bool (true == true)) from w_eq_bool (w_res rfl) w_lit) rfl
theorem attach_call {l : OpenLaw} {n : Nat} {q : Program} {loose : List Str} {XP : (Str -> Option Value) -> Heap -> Prop} {YP : World -> Heap -> Prop} {d : DefRec}
  (hn : l.most = some n) (hdf : d.params.defaults = [])
  (call : ∀ (w : World) (s₀ s₁ : Shared) (mg mb : Str -> Option Value) (fa : Addr) (o : Obj) (pm cd doc : Value) (a : Addr) (vs : List Value) (ns : List Int),
   Ground q loose [] XP w s₀ mg mb s₁.heap -> YP w s₁.heap ->
   s₁.heap.get? fa = some o -> o.data = .func (docDef d.name d.params d.body d.scope pm cd doc) -> s₁.heap.CodeRec cd d.name -> mg d.name = some (.ref fa) ->
   s₁.heap.get? a = some { cls := .type "list", data := .seq vs.toArray } -> IntsAre vs ns -> ns.length <= n -> s₁.gens = #[] ->
   codeAny (model l.prog w) callerA (.call (.ref fa) ⟨[.ref a], []⟩) (fun r s' => r = .ok (.ret (.bool true)) /\ OldK s₁.heap s'.heap /\ s'.os = s₁.os /\ AllBare s'.gens) s₁) :
  WalkO q loose XP YP l.row.toRowW d [] (fun f vs => PySem.call f vs) := by
 intro w s₀ s₁ mg mb G Y fa o pm cd doc dV kV ho hd hcd hD hmg hg args vals as hpre hlay hrd hwl hlo
 obtain rfl : dV = .none := Dflts.none hD hdf
 obtain rfl : kV = .none := Dflts.noKw hD
 obtain ⟨a, vs, ns, rfl, rfl, hobj, hints, hlen⟩ := script_of hn hpre hwl
 refine enter_call (codeAny_mono (call w s₀ s₁ mg mb fa o pm cd doc a vs ns G Y ho (fd_plain hd) hcd hmg hobj hints hlen hg) fun r s' hq => ?_)
 obtain ⟨rfl, h2, h3, h4⟩ := hq
 exact ⟨.inl ⟨.bool true, .bool true, [], rfl, fun _ => rfl, .bool true, post_true l _, fun _ => ⟨List.Pairwise.nil, fun _ hm => (nomatch hm)⟩⟩, h2, h3, h4⟩
end Att
namespace L2
open PySem PySem.Spec PyProof.Rows
theorem vals_ints : ∀ {vs : List Value} {ns : List Int}, IntsAre vs ns -> Vals (ns.map V.int) vs
 | _, _, .nil => .nil
 | _, _, .cons n t h => .cons ⟨t, rfl⟩ (vals_ints h)
end L2
namespace L2
open PySem PySem.Spec PyProof.Rows
def inClass (s : Stmt) (j : Nat) : Stmt := match s with
 | .ClassDef _ _ _ body _ _ _ _ _ _ _ => body.getD j (.Pass ⟨0, 0, 0, 0⟩)
 | _ => .Pass ⟨0, 0, 0, 0⟩
def defArgs (s : Stmt) : Arguments := match s with
 | .FunctionDef _ a _ _ _ _ _ _ _ _ => a
 | _ => { posonlyargs := [], args := [], vararg := none, kwonlyargs := [], kw_defaults := [], kwarg := none, defaults := [] }
def defBody (s : Stmt) : List Stmt := match s with
 | .FunctionDef _ _ b _ _ _ _ _ _ _ => b
 | _ => []
def defScope (s : Stmt) : Scope := match s with
 | .FunctionDef _ _ _ _ _ _ sc _ _ _ => sc
 | _ => { kind := .function, names := [], isGenerator := false, isCoroutine := false }
abbrev CX0 : CXT := fun _ _ _ _ _ _ => False
abbrev E0 : XK := fun _ _ _ => False
theorem pass0 {X : Cx} : Passes CX0 X E0 := fun _ _ _ _ _ _ _ h => h.elim
structure Fun (K : Fg_) (x qual : Str) (st : Stmt) (f : Addr) (fd : FuncData) : Prop where
 ex : ∃ (oc : Value) (od : Option Addr) (kV doc pm : Value) (an : Option Addr) (cdv ct : Value) (osl : Array (Option Value)),
  fd = PySem.W.fnOf x qual (defArgs st) (defBody st) (defScope st) .none kV doc pm an cdv ct /\ K.lookup f = some ⟨oc, od, .func fd, osl⟩ /\ PySem.W.codeIn K cdv qual = true
 kp : PySem.W.keepIn K (.ref f) = true
section
variable {P : Program} {w : World} {K : Fg_} {mg : Str -> Option Value} {base : Heap}
theorem Fun.ok {x qual : Str} {st : Stmt} {f : Addr} {fd : FuncData} {N ps : List Str} {k : Nat} {sp : Sp} (F : Fun K x qual st f fd) (S : FnScope N ps (defScope st)) (len : ∀ vs H Q E, sp vs H Q E -> vs.length = ps.length)
  (hbody : ∀ (cdv : Value) (A : Around) (outer : List Env) (s : Shared) (H : Hp) (vs : List V) (Q : VK) (E : XK), Room k (A.deeper (envOfC qual (defScope st) s.heap.objs.size f cdv)) -> sp vs H Q E ->
   ∃ t, PSs (cxOf CX0 P w K mg base N qual (defScope st) f cdv A outer s H E).nox (defBody st) t /\ t { nx := fun _ H' => Q .non H', rt := Q } (start N vs) H) : FnOk P w K mg base CX0 (k + 1) f fd ps sp := by
 obtain ⟨oc, od, kV, doc, pm, an, cdv, ct, osl, rfl, lk, hcd⟩ := F.ex
 refine fn_of lk hcd S len fun A outer s H vs Q E hr hsp => ?_
 obtain ⟨t, h, q⟩ := hbody cdv A outer s H vs Q E hr hsp
 exact ⟨t, h.nox, q⟩
theorem Fun.binds {x qual : Str} {st : Stmt} {f : Addr} {fd : FuncData} {ps : List Str} (F : Fun K x qual st f fd)
  (h : ∀ (kV doc pm : Value) (an : Option Addr) (cdv ct : Value) (us : List Value), us.length = ps.length -> bindArgs (PySem.W.fnOf x qual (defArgs st) (defBody st) (defScope st) .none kV doc pm an cdv ct) ⟨us, []⟩ = pure (ps.zip us)) : Binds K fd ps [] := by
 obtain ⟨oc, od, kV, doc, pm, an, cdv, ct, osl, rfl, lk, hcd⟩ := F.ex
 exact .all (h kV doc pm an cdv ct)
theorem fun_mk {x qual : Str} {st : Stmt} {f : Addr} {oc : Value} {od an : Option Addr} {osl : Array (Option Value)} {kV doc pm cdv ct : Value} (l : K.lookup f = some ⟨oc, od, .func (PySem.W.fnOf x qual (defArgs st) (defBody st) (defScope st) .none kV doc pm an cdv ct), osl⟩)
  (c : PySem.W.codeIn K cdv qual = true) (k : PySem.W.keepIn K (.ref f) = true) : Fun K x qual st f (PySem.W.fnOf x qual (defArgs st) (defBody st) (defScope st) .none kV doc pm an cdv ct) := ⟨⟨oc, od, kV, doc, pm, an, cdv, ct, osl, rfl, l, c⟩, k⟩
end
theorem hu_of {A : Around} {k : Nat} (hr : Room k A) : A.units + 1 < cLine := Nat.lt_of_le_of_lt (Nat.add_le_add_left (by decide : 1 <= 64) _) hr.units
section
variable {X : Cx}
theorem pv (i : Nat) {x : Str} {pos : Pos} (hN : X.N[i]? = some x := by rfl) (hv : Vis X.env.scope x := by first | exact Or.inl rfl | exact Or.inr (Or.inl rfl) | exact Or.inr (Or.inr rfl)) (hd : (x == ("__debug__" : Str)) = false := by decide)
  (hcd : (x == ("__classdict__" : Str)) = false := by decide) : PE X (.Name x pos) (tVar i) := pe_var hN hv hd hcd
end
theorem ite2 {c A B : Prop} [Decidable c] (h1 : c -> A) (h2 : ¬ c -> B) : if c then A else B := by
 by_cases h : c
 ·rw [if_pos h]
  exact h1 h
 ·rw [if_neg h]
  exact h2 h
def Same (H H' : Hp) : Prop := ∀ b o, H b = some o -> H' b = some o
theorem Same.refl (H : Hp) : Same H H := fun _ _ h => h
theorem Same.trans {H H1 H2 : Hp} (a : Same H H1) (b : Same H1 H2) : Same H H2 := fun c o h => b c o (a c o h)
theorem Same.free {H H' : Hp} (e : Same H H') {l : Addr} (h : H' l = Option.none) : H l = Option.none := by
 cases q : H l with
 | none => rfl
 | some o =>
  rw [e l o q] at h
  cases h
theorem Same.seq {K : Fg_} {H H' : Hp} {a : Addr} {xs : List V} (e : Same H H') (h : SqL K H a xs) : SqL K H' a xs := by
 rcases h with (h | ⟨o, h⟩) | h
 ·exact .inl (.inl (e _ _ h))
 ·exact .inl (.inr ⟨o, e _ _ h⟩)
 ·exact .inr h
end L2
namespace L2
open PySem PySem.Spec PyProof.Rows
def AllIn : List (Str × Addr) -> List (Str × Addr) -> Prop
 | [], _ => True
 | (x, c) :: r, cells => cells.lookup x = some c /\ AllIn r cells
theorem AllIn.look {cells : List (Str × Addr)} : ∀ {cl : List (Str × Addr)}, AllIn cl cells -> ∀ {x : Str} {c : Addr}, cl.lookup x = some c -> cells.lookup x = some c
 | [], _, x, c, e => by simp at e
 | (y, d) :: r, h, x, c, e => by
  rw [List.lookup_cons] at e
  cases q : x == y with
  | true =>
   rw [q] at e
   have z : d = c := Option.some.inj e
   have z2 : x = y := beq_iff_eq.mp q
   subst z z2
   exact h.1
  | false =>
   rw [q] at e
   exact AllIn.look h.2 e
def closFrom (cells : List (Str × Addr)) : List (Str × NameKind) -> List (Str × Addr) -> List (Str × Addr)
 | [], cs => cs
 | (n, k) :: r, cs => closFrom cells r (match k with
  | .free => match cells.lookup n with
   | some c => (n, c) :: cs
   | Option.none => cs
  | _ => cs)
abbrev closOf (scope : Scope) (env : Env) : List (Str × Addr) := closFrom env.cells scope.names []
theorem closFrom_in (cells : List (Str × Addr)) : ∀ (names : List (Str × NameKind)) (cs : List (Str × Addr)), AllIn cs cells -> AllIn (closFrom cells names cs) cells
 | [], _, h => h
 | (n, k) :: r, cs, h => by
  unfold closFrom
  refine closFrom_in cells r _ ?_
  cases k with
  | free =>
   cases q : cells.lookup n with
   | none => exact h
   | some c => exact ⟨q, h⟩
  | _ => exact h
theorem closOf_in (scope : Scope) (env : Env) : AllIn (closOf scope env) env.cells := closFrom_in _ _ _ trivial
def CapOk (X : Cx) (sc : Scope) (cl : List (Str × Addr)) : List Str -> List (Option Nat) -> Prop
 | [], [] => True
 | _ :: N, Option.none :: r => CapOk X sc cl N r
 | x :: N, some j :: r => X.N[j]? = some x /\ (X.env.kindOf x = some .cell \/ X.env.kindOf x = some .free) /\ (sc.names.lookup x = some .cell \/ sc.names.lookup x = some .free) /\ (∃ c, cl.lookup x = some c) /\ CapOk X sc cl N r
 | _, _ => False
def capSt (σ : St) (cap : List (Option Nat)) : St := cap.map fun o => match o with
 | Option.none => Option.none
 | some j => match σ[j]? with
  | some v => v
  | Option.none => Option.none
theorem CapOk.nil {X : Cx} {sc : Scope} {cl : List (Str × Addr)} : CapOk X sc cl [] [] := trivial
theorem CapOk.own {X : Cx} {sc : Scope} {cl : List (Str × Addr)} {x : Str} {N : List Str} {r : List (Option Nat)} (h : CapOk X sc cl N r) : CapOk X sc cl (x :: N) (Option.none :: r) := h
theorem CapOk.take {X : Cx} {sc : Scope} {cl : List (Str × Addr)} {x : Str} {N : List Str} {j : Nat} {r : List (Option Nat)} (h1 : X.N[j]? = some x) (h2 : X.env.kindOf x = some .cell \/ X.env.kindOf x = some .free)
  (h3 : sc.names.lookup x = some .cell \/ sc.names.lookup x = some .free) (h4 : (cl.lookup x).isSome = true) (h : CapOk X sc cl N r) : CapOk X sc cl (x :: N) (some j :: r) := ⟨h1, h2, h3, Option.isSome_iff_exists.mp h4, h⟩
theorem CapOk.len {X : Cx} {sc : Scope} {cl : List (Str × Addr)} : ∀ {N : List Str} {cap : List (Option Nat)}, CapOk X sc cl N cap -> cap.length = N.length
 | [], [], _ => rfl
 | _ :: N, Option.none :: r, h => congrArg (· + 1) (CapOk.len (N := N) (cap := r) h)
 | _ :: N, some _ :: r, h => congrArg (· + 1) (CapOk.len (N := N) (cap := r) h.2.2.2.2)
 | [], _ :: _, h => h.elim
 | _ :: _, [], h => h.elim
theorem CapOk.get {X : Cx} {sc : Scope} {cl : List (Str × Addr)} {σ : St} : ∀ {N : List Str} {cap : List (Option Nat)} {i : Nat} {x : Str} {v : V}, CapOk X sc cl N cap -> N[i]? = some x -> (capSt σ cap)[i]? = some (some v) ->
  ∃ j : Nat, X.N[j]? = some x /\ σ[j]? = some (some v) /\ (X.env.kindOf x = some .cell \/ X.env.kindOf x = some .free) /\ (sc.names.lookup x = some .cell \/ sc.names.lookup x = some .free) /\ ∃ c, cl.lookup x = some c
 | [], [], i, x, v, _, e, _ => by simp at e
 | y :: N, Option.none :: r, 0, x, v, h, e1, e2 => by
  have z : (some (Option.none : Option V)) = some (some v) := e2
  cases z
 | y :: N, Option.none :: r, i + 1, x, v, h, e1, e2 => CapOk.get (N := N) (cap := r) (i := i) h (by simpa using e1) (by simpa [capSt] using e2)
 | y :: N, some j :: r, 0, x, v, h, e1, e2 => by
  have z : y = x := by simpa using e1
  subst z
  obtain ⟨h1, h2, h3, h4, _⟩ := h
  refine ⟨j, h1, ?_, h2, h3, h4⟩
  have z2 : some (match σ[j]? with | some v => v | Option.none => Option.none) = some (some v) := e2
  cases q : σ[j]? with
  | none => rw [q] at z2; cases z2
  | some o => rw [q] at z2; exact z2
 | y :: N, some j :: r, i + 1, x, v, h, e1, e2 => CapOk.get (N := N) (cap := r) (i := i) h.2.2.2.2 (by simpa using e1) (by simpa [capSt] using e2)
 | [], _ :: _, _, _, _, h, _, _ => h.elim
 | _ :: _, [], _, _, _, h, _, _ => h.elim
def cxC (X : Cx) (N' : List Str) (scope : Scope) (s : Shared) (H : Hp) (fp : List Addr) (xe : Value -> Shared -> Prop) : Cx :=
 { X with N := N', s₀ := s, H₀ := H, env := compEnvC scope (closOf scope X.env) s.heap.objs.size X.env, outer := X.stack, ex := fp, fn := fun _ => false, pn := [], xe := xe }
def PTs (X : Cx) (ifs : List Expr) (t : TT) : Prop :=
 ∀ (pins : List (Addr × Obj)) (s : Shared) (σ : St) (H : Hp) (Q : Bool -> Hp -> Prop), Inv X pins σ H s -> t σ H Q ->
  wpAny (model X.prog X.w) X.A (forIn ifs true fun c r => if r = true then do let ok <- isTrue c X.env (eval c X.env); pure (ForInStep.yield ok) else pure (ForInStep.yield r)) (TP X pins σ Q) X.xe s
def tNoIf : TT := fun _ H Q => Q true H
theorem pts_nil {X : Cx} : PTs X [] tNoIf := fun _ _ _ H _ I h => wpAny_tests_nil ⟨H, I, h⟩
theorem pts_one {X : Cx} {c : Expr} {t : TT} (h : PT X c t) : PTs X [c] t := fun pins s σ H Q I hw => wpAny_tests_one (h pins s σ H Q I hw)
def tComp (cap : List (Option Nat)) (wi : TI) (g : TG) (tt : TT) (te : TE) : TE := fun σ H Q => wi σ H fun J H1 => ∀ D, H1 D = Option.none ->
 ∃ W : Nat -> Nat -> List V -> St -> Hp -> Prop, (∃ m, W 0 m [] (capSt σ cap) (upd H1 D (.lst []))) /\ ∀ i m acc σ1 H2, W i m acc σ1 H2 -> H2 D = some (.lst acc) ->
  (J.stop i H2 /\ Q (.ref D) H2) \/ (J.go i H2 /\ ∀ x H3, J.yld i H2 x H3 -> g x σ1 H3 fun σ4 H4 => tt σ4 H4 fun b H5 =>
   if b = true then te σ4 H5 fun v H6 => ∃ acc', H6 D = some (.lst acc') /\ acc'.length < sizeLine /\ ∃ m', m' < m /\ W (i + 1) m' (acc' ++ [v]) σ4 (upd H6 D (.lst (acc' ++ [v])))
   else ∃ m', m' < m /\ ∃ acc', H5 D = some (.lst acc') /\ W (i + 1) m' acc' σ4 H5)
section
variable {X : Cx} {elt tg iter : Expr} {ifs : List Expr} {scope : Scope} {pos : Pos} {cap : List (Option Nat)} {N' : List Str} {wi : TI} {g : TG} {tt : TT} {te : TE}
structure CompOk (X : Cx) (iter : Expr) (scope : Scope) (N' : List Str) (cap : List (Option Nat)) : Prop where
 clos : closureFor scope X.env = pure (closOf scope X.env)
 cap : CapOk X (relabel scope X.env) (closOf scope X.env) N' cap
 kind : scope.kind = .function
 nocell : ∀ y ∈ scope.names, y.2 ≠ .cell
 names : ∀ y ∈ scope.names, y.2 = .local -> scope.names.lookup y.1 = some .local
 has : (scope.names.all fun y => y.2 != .free || ((closOf scope X.env).lookup y.1).isSome) = true
 fold : ∀ x, foldedSetIterable iter X.env x = pure x
theorem has_map {f : Str × NameKind -> Str × NameKind} (h1 : ∀ y, (f y).1 = y.1) (h2 : ∀ y, y.2 ≠ NameKind.cell -> ((f y).2 = NameKind.cell \/ (f y).2 = NameKind.free) -> y.2 = NameKind.free) {cl : List (Str × Addr)} :
  ∀ {names : List (Str × NameKind)} {x : Str}, (∀ y ∈ names, y.2 ≠ NameKind.cell) -> (names.all fun y => y.2 != NameKind.free || (cl.lookup y.1).isSome) = true -> ((names.map f).lookup x = some NameKind.cell \/ (names.map f).lookup x = some NameKind.free) -> ∃ c, cl.lookup x = some c
 | [], x, _, _, h => by rcases h with h | h <;> simp at h
 | y :: r, x, hc, ha, h => by
  rw [List.all_cons, Bool.and_eq_true] at ha
  rw [List.map_cons] at h
  have e0 : f y = (y.1, (f y).2) := by rw [<- h1 y]
  rw [e0, List.lookup_cons] at h
  cases q : x == y.1 with
  | true =>
   rw [q] at h
   have e : x = y.1 := beq_iff_eq.mp q
   have hf : y.2 = NameKind.free := h2 y (hc y List.mem_cons_self) (by
    rcases h with h | h
    ·exact .inl (Option.some.inj h)
    ·exact .inr (Option.some.inj h))
   have h3 : (cl.lookup y.1).isSome = true := by
    have := ha.1
    rw [hf] at this
    simpa using this
   rw [e]
   exact Option.isSome_iff_exists.mp h3
  | false =>
   rw [q] at h
   exact has_map h1 h2 (fun z hz => hc z (List.mem_cons_of_mem _ hz)) ha.2 h
theorem has_of {env : Env} {scope : Scope} {cl : List (Str × Addr)} {x : Str} (hc : ∀ y ∈ scope.names, y.2 ≠ NameKind.cell) (ha : (scope.names.all fun y => y.2 != NameKind.free || (cl.lookup y.1).isSome) = true)
  (h : (relabel scope env).names.lookup x = some NameKind.cell \/ (relabel scope env).names.lookup x = some NameKind.free) : ∃ c, cl.lookup x = some c := by
 refine has_map (f := fun (n, k) => if (k == NameKind.free && env.scope.kind == .function && env.kindOf n == some .cell) then (n, NameKind.cell) else (n, k)) (fun y => ?_) (fun y hy hk => ?_) hc ha h
 ·obtain ⟨n, k⟩ := y
  dsimp only
  split <;> rfl
 ·obtain ⟨n, k⟩ := y
  dsimp only at hk ⊢ hy
  by_cases hb : (k == NameKind.free && env.scope.kind == .function && env.kindOf n == some .cell) = true
  ·simp only [Bool.and_eq_true] at hb
   exact beq_iff_eq.mp hb.1.1
  ·rw [if_neg hb] at hk
   rcases hk with hk | hk
   ·exact absurd hk hy
   ·exact hk
theorem compLoop_any {P : Program} {w : World} {A : Around} {R : Result -> Shared -> Prop} {s : Shared} {it acc : Value} {env : Env} (I : Nat -> Shared -> Prop)
  (turn : ∀ n s, I n s -> wpAny (model P w) A (pyNext it) (fun r s₁ => match r with
   | none => R (.ok .next) s₁
   | some v => wpAny (model P w) A (letOwnedTupleGo tg it v) (fun _ s₁' => wpAny (model P w) A (assign tg env v) (fun _ s₂ =>
     wpAny (model P w) A (forIn ifs true fun c r => if r = true then do let ok <- isTrue c env (eval c env); pure (ForInStep.yield ok) else pure (ForInStep.yield r)) (fun ok s₃ =>
      if ok = true then wpAny (model P w) A (eval elt env) (fun x s₄ =>
       wpAny (model P w) A (call (.builtin "list.append") [acc, x]) (fun _ s₅ => ∃ m, m < n /\ I m s₅) (notedBy (model P w) A env fun e s' => R (.error e) s') s₄) (notedBy (model P w) A env fun e s' => R (.error e) s') s₃
      else ∃ m, m < n /\ I m s₃) (notedBy (model P w) A env fun e s' => R (.error e) s') s₂) (notedBy (model P w) A env fun e s' => R (.error e) s') s₁') (notedBy (model P w) A env fun e s' => R (.error e) s') s₁)
    (notedBy (model P w) A env fun e s' => R (.error e) s') s)
  (n : Nat) (h : I n s) :
  codeAny (model P w) A (.compLoop (.ListComp elt [⟨tg, iter, ifs, 0⟩] scope pos) 0 it acc env) R s := by
 refine codeAny_loop rfl I (fun n s hI => ?_) n h
 show wpAny _ A ((compTurn (.ListComp elt [⟨tg, iter, ifs, 0⟩] scope pos) 0 it acc env).onRaise (fun x => do noteFrame x env; theTreesLotGoes x)) _ _ s
 refine wpAny_noted ?_
 rw [compTurn_list]
 refine wpAny_bind (wpAny_standAt (wpAny_bind (wpAny_mono (turn n s hI) (fun r s₁ h₁ => ?_) fun _ _ h' => h')))
 cases r with
 | none => exact wpAny_pure h₁
 | some v =>
  refine wpAny_bind (wpAny_mono h₁ (fun _ s₁' h₁ => ?_) fun _ _ h' => h')
  refine wpAny_bind (wpAny_mono h₁ (fun _ s₂ h₂ => wpAny_bind (wpAny_mono h₂ (fun ok s₃ h₃ => ?_) fun _ _ h' => h')) fun _ _ h' => h')
  cases ok with
  | false => exact wpAny_pure ⟨rfl, h₃⟩
  | true =>
   exact wpAny_bind (wpAny_bind (wpAny_mono h₃ (fun x s₄ h₄ => wpAny_bind (wpAny_mono h₄ (fun _ s₅ h₅ => wpAny_pure (wpAny_pure ⟨rfl, h₅⟩)) fun _ _ h' => h')) fun _ _ h' => h'))
theorem comp_core {pins : List (Addr × Obj)} {σ : St} {H2 : Hp} {s2 : Shared} {Q : VK} {it : Addr} {fp : List Addr} {tn : Nat -> Heap -> Prop} {J : It} {R : Value -> Addr -> Result -> Shared -> Prop} {E : Value -> Shared -> Prop}
  (hc : X.calm = true) (C : CompOk X iter scope N' cap)
  (hg : ∀ s H fp xe, PG (cxC X N' scope s H fp xe) tg g) (ht : ∀ s H fp xe, PTs (cxC X N' scope s H fp xe) ifs tt) (he : ∀ s H fp xe, PE (cxC X N' scope s H fp xe) elt te)
  (I2 : Inv X pins σ H2 s2) (T : Turn X.prog X.w X.K tg J fp it tn) (st2 : tn 0 s2.heap) (f2 : ∀ b ∈ fp, FpOk X pins H2 b)
  (hR : ∀ D Cl H' s', Inv X pins σ H' s' -> (∃ m, s'.heap.Ns Cl m) -> H' Cl = Option.none -> Cl ≠ X.env.locals -> X.s₀.heap.objs.size <= Cl -> (∀ x c, X.env.cells.lookup x = some c -> c ≠ Cl) -> (∀ p ∈ X.pn ++ pins, p.1 ≠ Cl) -> Q (.ref D) H' -> R (.ref D) Cl (.ok .next) s')
  (hw : ∀ D, H2 D = Option.none -> ∃ W : Nat -> Nat -> List V -> St -> Hp -> Prop, (∃ m, W 0 m [] (capSt σ cap) (upd H2 D (.lst []))) /\ ∀ i m acc σ1 H2, W i m acc σ1 H2 -> H2 D = some (.lst acc) ->
   (J.stop i H2 /\ Q (.ref D) H2) \/ (J.go i H2 /\ ∀ x H3, J.yld i H2 x H3 -> g x σ1 H3 fun σ4 H4 => tt σ4 H4 fun b H5 =>
    if b = true then te σ4 H5 fun v H6 => ∃ acc', H6 D = some (.lst acc') /\ acc'.length < sizeLine /\ ∃ m', m' < m /\ W (i + 1) m' (acc' ++ [v]) σ4 (upd H6 D (.lst (acc' ++ [v])))
    else ∃ m', m' < m /\ ∃ acc', H5 D = some (.lst acc') /\ W (i + 1) m' acc' σ4 H5)) :
  wpAny (model X.prog X.w) X.A (newList []) (fun acc s₃ => wpAny (model X.prog X.w) X.A (newFunctionEnv scope X.env.globals (closOf scope X.env) [] X.env.qual none .none (some X.env)) (fun cenv s₄ =>
   codeAny (model X.prog X.w) X.A (.compStart (.ListComp elt [⟨tg, iter, ifs, 0⟩] scope pos) 0 (.ref it) acc { cenv with scope := relabel scope X.env }) (R acc cenv.locals) s₄) E s₃) E s2 := by
 refine wpAny_newObj_type (wpAny_newFunctionEnv C.nocell (by intro y hy; simp at hy) (fun h₁ hns₁ hsb₁ => ?_) C.kind)
 obtain ⟨W, ⟨m0, w0⟩, turn⟩ := hw s2.heap.objs.size I2.fresh
 have I3 : Inv X pins σ (upd H2 s2.heap.objs.size (.lst [])) { s2 with heap := s2.heap.push { cls := .type "list", data := .seq ([] : List Value).toArray } } := I2.lnew (t' := s2.toks) .nil (Nat.zero_le _)
 generalize hs3 : ({ s2 with heap := s2.heap.push { cls := .type "list", data := .seq ([] : List Value).toArray } } : Shared) = s3 at I3 hns₁ hsb₁ ⊢
 generalize hD : s2.heap.objs.size = D at I3 w0 turn ⊢
 have hn0 : H2 D = Option.none := by rw [<- hD]; exact I2.fresh
 have hs32 : s3.os = s2.os := by rw [<- hs3]
 have un32 : Un (frs X.stack) fp H2 (upd H2 D (.lst [])) s2.heap s3.heap := by
  rw [<- hs3, <- hD]
  exact Un.laid (fun b u q => Heap.get?_push_of_some _ q) (Nat.le_refl _) I2.fresh
 have keep4 : ∀ b o, s3.heap.get? b = some o -> h₁.get? b = some o := fun b o e => (hsb₁.2 b (Nat.ne_of_lt (Heap.lt_size e))).trans (Heap.get?_push_of_some _ e)
 have keep2 : ∀ b o, s2.heap.get? b = some o -> s3.heap.get? b = some o := fun b o e => by rw [<- hs3]; exact Heap.get?_push_of_some _ e
 have hR' : ∀ (r : Result) (s' : Shared), R (.ref D) s3.heap.objs.size r s' -> R (.ref D) s3.heap.objs.size r s' := fun _ _ h => h
 have f3 : ∀ b ∈ fp, FpOk X pins (upd H2 D (.lst [])) b := fun b hb => by
  obtain ⟨q0, q1⟩ := f2 b hb
  refine ⟨?_, q1⟩
  obtain ⟨o, e, _⟩ := T.obj _ _ st2 b hb
  rw [upd_ne (by rw [<- hD]; exact Nat.ne_of_lt (Heap.lt_size e))]
  exact q0
 let XC : Cx := cxC X N' scope s3 (upd H2 D (.lst [])) fp (notedBy (model X.prog X.w) X.A (compEnvC scope (closOf scope X.env) s3.heap.objs.size X.env) fun e s' => R (.ref D) s3.heap.objs.size (.error e) s')
 have ok : XC.Ok := by
  refine ⟨I3.ok.mod, C.kind, I3.ok.glob, I3.ok.blt, Nat.le_refl _, fun x y c e1 e2 => I3.ok.inj x y c ((closOf_in scope X.env).look e1) ((closOf_in scope X.env).look e2), fun x hx => has_of C.nocell C.has hx, fun x c hf => (nomatch hf), fun _ => I3.ok.hd hc, I3.ok.frames, .inl rfl, fun b hb => ?_, I3.bs, Nat.le_trans I3.ok.bsz I3.sz, fun b o e hb => ?_, fun b hb hf => ?_, I3.stack, I3.stkFree⟩
  ·obtain ⟨q0, q1, q2, q3, q4, q5⟩ := f3 b hb
   refine ⟨?_, fun x c e => q4 x c ((closOf_in scope X.env).look e)⟩
   obtain ⟨o, e, _⟩ := T.obj _ _ st2 b hb
   exact Nat.ne_of_lt (Heap.lt_size (keep2 _ _ e))
  ·obtain ⟨q0, q1, q2, q3, q4, q5⟩ := f3 b hb
   rcases q3 with q3 | q3
   ·exact I3.ok.noex b o e q3
   ·exact absurd (Nat.lt_of_lt_of_le (Heap.lt_size e) (Nat.le_trans I3.ok.bsz q3)) (Nat.lt_irrefl _)
  ·obtain ⟨q0, q1, q2, q3, q4, q5⟩ := f3 b hb
   rcases List.mem_cons.mp (I3.stkSub b hf) with z | z
   ·exact q1 z
   ·exact q2 z
 have I4 : Inv XC [] (capSt σ cap) (upd H2 D (.lst [])) { s3 with heap := h₁, toks := s3.toks + ([] : List (Str × Value)).length } := by
  refine ⟨ok, rfl, I3.bare, Un.kept keep4, ⟨_, hns₁, fun i x v e1 e2 e3 => ?_⟩, fun x c e => ?_, I3.hok.fresh (Nat.le_refl _), fun x c e => I3.freeC x c ((closOf_in scope X.env).look e), fun p hp => absurd (show p ∈ ([] : List (Addr × Obj)) from hp) (by simp), I3.hok.kept keep4, by rw [show (capSt σ cap).length = cap.length from by simp [capSt]]; exact C.cap.len⟩
  ·obtain ⟨j, g1, g2, g3, g4, c, g5⟩ := C.cap.get e1 e2
   obtain ⟨m, _, hl⟩ := I3.loc
   obtain ⟨u, r, l⟩ := hl j x v g1 g2 (by
    rcases g3 with z | z
    ·exact .inr (.inl z)
    ·exact .inr (.inr z))
   refine ⟨u, r, .inr ⟨g4, c, g5, ?_⟩⟩
   rcases l with ⟨k, _⟩ | ⟨_, c', e, z⟩
   ·rcases g3 with q | q
    ·rw [k] at q; cases q
    ·rw [k] at q; cases q
   ·have e' := (closOf_in scope X.env).look g5
    rw [e] at e'; cases e'
    obtain ⟨o, ho, hd⟩ := z
    exact ⟨o, keep4 _ _ ho, hd⟩
  ·obtain ⟨v, o, ho, hd⟩ := I3.cell x c ((closOf_in scope X.env).look e)
   exact ⟨v, o, keep4 _ _ ho, hd⟩
 have st4 : tn 0 h₁ := T.keep _ _ _ st2 fun b _ o e => keep4 b o (keep2 b o e)
 have fpc : ∀ {pins' : List (Addr × Obj)} {H' : Hp}, (∀ b ∈ fp, H' b = Option.none) -> (∀ p ∈ pins', p.1 ∉ fp) -> ∀ b ∈ fp, FpOk XC pins' H' b := fun {pins' H'} hn hp b hb => by
  obtain ⟨q1, q2⟩ := ok.exf b hb
  exact ⟨hn b hb, q1, ok.exfs b hb, .inl hb, q2, fun p hp' z => hp p (by simpa [XC, cxC] using hp') (by rw [z]; exact hb)⟩
 have hDf : D ∉ fp := fun hb => by
  obtain ⟨o, e, _⟩ := T.obj _ _ st2 D hb
  rw [<- hD] at e
  exact absurd (Heap.lt_size e) (Nat.lt_irrefl _)
 have out : ∀ {σ' : St} {H' : Hp} {s' : Shared}, Inv XC [] σ' H' s' -> Inv X pins σ H' s' := fun {σ' H' s'} J' =>
  I2.call' (ch := fp) (J'.os.trans hs32) (un32.trans J'.base) J'.hok J'.bare fun b hb => by
   obtain ⟨q0, q1, q2, q3, q4, q5⟩ := f2 b hb
   exact ⟨q3, q1, q4, q5⟩
 have loop : ∀ s₄ : Shared, s₄ = { s3 with heap := h₁, toks := s3.toks + ([] : List (Str × Value)).length } ->
   codeAny (model X.prog X.w) X.A (.compLoop (.ListComp elt [⟨tg, iter, ifs, 0⟩] scope pos) 0 (.ref it) (.ref D) (compEnvC scope (closOf scope X.env) s3.heap.objs.size X.env)) (R (.ref D) s3.heap.objs.size) s₄ := by
  rintro s₄ rfl
  refine compLoop_any (fun n s' => ∃ i acc σ' H', Inv XC [] σ' H' s' /\ tn i s'.heap /\ (∀ b ∈ fp, H' b = Option.none) /\ H' D = some (.lst acc) /\ W i n acc σ' H') ?_ m0
   ⟨0, [], capSt σ cap, upd H2 D (.lst []), I4, st4, fun b hb => (f3 b hb).1, upd_same, w0⟩
  rintro n s5 ⟨i, acc, σ5, H5, I5, st5, fr5, hA, w5⟩
  rcases turn i n acc σ5 H5 w5 hA with ⟨stop, q⟩ | ⟨go, step⟩
  ·refine thn (T.done XC rfl rfl rfl hc i [] s5 σ5 H5 _ I5 (fpc fr5 (by simp)) st5 stop) fun r s6 ⟨hr, I6⟩ => ?_
   subst hr
   obtain ⟨m, hn, _⟩ := I6.loc
   exact hR D s3.heap.objs.size H5 s6 (out I6) ⟨m, hn⟩ I6.free (Nat.ne_of_gt I3.lt) I3.sz (fun x c e z => by
    obtain ⟨v, o, ho, _⟩ := I3.cell x c e
    rw [z] at ho
    exact absurd (Heap.lt_size ho) (Nat.lt_irrefl _)) (fun p hp z => by
    have e := (I3.pin p hp).1
    rw [z] at e
    exact absurd (Heap.lt_size e) (Nat.lt_irrefl _)) q
  ·refine thn (T.item XC rfl rfl rfl hc i [] s5 σ5 H5 _ I5 (fpc fr5 (by simp)) st5 go) fun r s6 ⟨u, hr, h6⟩ => ?_
   subst hr
   refine thn h6 fun _ s7 ⟨x, H7, I7, r7, y7, st7, fr7⟩ => ?_
   have I7' := I7.pinned (fpc fr7 (by simp)) (T.obj _ _ st7)
   have again : ∀ {σ8 : St} {H8 : Hp} {s8 : Shared}, Inv XC ([] ++ pinsAt fp s7.heap) σ8 H8 s8 -> (∃ acc', H8 D = some (.lst acc') /\ ∃ m', m' < n /\ W (i + 1) m' acc' σ8 H8) ->
     ∃ m, m < n /\ ∃ i acc σ' H', Inv XC [] σ' H' s8 /\ tn i s8.heap /\ (∀ b ∈ fp, H' b = Option.none) /\ H' D = some (.lst acc) /\ W i m acc σ' H' := fun {σ8 H8 s8} I8 ⟨acc', hA', m', hm, w8⟩ => by
    refine ⟨m', hm, i + 1, acc', σ8, H8, I8.unpinned, T.keep _ _ _ st7 fun b hb o e => (I8.pin (b, o) (List.mem_append_right _ (List.mem_append_right _ (mem_pinsAt hb e)))).1, fun b hb => ?_, hA', w8⟩
    obtain ⟨o, e, d⟩ := T.obj _ _ st7 b hb
    exact (I8.pin (b, o) (List.mem_append_right _ (List.mem_append_right _ (mem_pinsAt hb e)))).2.1
   refine thn (hg s3 _ fp _ _ s7 σ5 H7 x u _ I7' r7 (step x H7 y7)) fun _ s8 ⟨σ8, H8, I8, q8⟩ => ?_
   refine thn (ht s3 _ fp _ _ s8 σ8 H8 _ I8 q8) fun b s9 ⟨H9, I9, q9⟩ => ?_
   cases b with
   | false =>
    rw [if_neg Bool.false_ne_true] at q9 ⊢
    obtain ⟨m', hm, acc', hA', w9⟩ := q9
    exact again I9 ⟨acc', hA', m', hm, w9⟩
   | true =>
    rw [if_pos rfl] at q9 ⊢
    refine thn (he s3 _ fp _ _ s9 σ8 H9 _ I9 q9) fun v s10 ⟨y, H10, I10, r10, acc', hA', hz, m', hm, w10⟩ => ?_
    refine thn (mt_append (X := XC) _ s10 σ8 H10 (.ref D) [y] (.ref D) [v] (fun _ Hz => Hz = upd H10 D (.lst (acc' ++ [y]))) I10 rfl (.cons r10 .nil) ⟨D, acc', y, rfl, rfl, hA', hz, rfl⟩) fun _ s11 ⟨_, H11, I11, _, e11⟩ => ?_
    subst e11
    exact again I11 ⟨acc' ++ [y], upd_same, m', hm, w10⟩
 exact codeAny_compStart_list (loop _ rfl) (T.self _ 0 _ _ _ st4 (loop _ rfl))
theorem pe_comp (hc : X.calm = true) (C : CompOk X iter scope N' cap) (hi : PI X tg iter wi)
  (hg : ∀ s H fp xe, PG (cxC X N' scope s H fp xe) tg g) (ht : ∀ s H fp xe, PTs (cxC X N' scope s H fp xe) ifs tt) (he : ∀ s H fp xe, PE (cxC X N' scope s H fp xe) elt te) :
  PE X (.ListComp elt [⟨tg, iter, ifs, 0⟩] scope pos) (tComp cap wi g tt te) := by
 intro pins s σ H Q I h
 rw [eval_ListComp]
 refine wpAny_comprehension_free (use := none) rfl C.fold C.clos C.kind C.names (thn (hi pins s σ H _ I h) fun v s1 h1 => thn h1 fun itv s2 h2 => ?_)
 obtain ⟨it, fp, tn, J, H2, e, I2, T, st2, f2, hw⟩ := h2
 subst e
 refine comp_core (R := fun acc Cl => compPost (model X.prog X.w) X.A X.xe none (EP X pins σ Q) acc Cl) hc C hg ht he I2 T st2 f2 ?_ hw
 intro D Cl H' s' I' ⟨m, hn⟩ hf h1 h2 h3 h4 q
 exact ⟨m, hn, fun h' hs' => ⟨.ref D, H', I'.turned (t' := s'.toks) (fun b o hb e => (hs'.2 b hb).trans e) hf h1 (.inr h2) h3 h4, rfl, q⟩⟩
end
end L2
namespace L2
open PySem PySem.Spec PyProof.Rows
section
variable {X : Cx} {a b c : Expr} {ta tb tc : TE} {pos : Pos}
def CMulB (i j : Int) : Prop := i.natAbs < 2 ^ 2000 /\ j.natAbs < 2 ^ 2000
theorem CMulB.ok {i j : Int} (h : CMulB i j) : IntMulOk i j :=
 IntMulOk.of_bits (Nat.le_trans (intBits_le h.1) (by decide)) (Nat.le_trans (intBits_le h.2) (by decide))
def CDivB (_ j : Int) : Prop := 0 < j /\ j.natAbs < 2 ^ 2000
theorem op_fdivB : OpR X (binaryOp .FloorDiv) (rI CDivB fun i j => .int (i / j)) := opI fun i j _ _ _ _ _ hc q => by
 have h1 : (0 : Int) < j := hc.1
 have h0 : j.natAbs ≠ 0 := by omega
 have h2 : j.natAbs.log2 < 2000 := (Nat.log2_lt h0).mpr hc.2
 exact floordiv_int (by omega) (by rw [Int.fdiv_eq_ediv_of_nonneg i (by omega)]; exact q) (.inl (PyProof.noPylong_of_log2 (by omega)))
theorem call_sumI (hc : X.calm = true) : CallR X (.builtin "sum") (fun xs H Q => ∃ (a : Addr) (ns : List Int), xs = [.ref a] /\ SqL X.K H a (ns.map V.int) /\ Q (.int ns.sum) H) := by
 intro pins s σ H xs us Q I r h
 obtain ⟨a, ns, rfl, hq, q⟩ := h
 obtain ⟨u, rfl, r1⟩ := vals1 r
 cases r1
 obtain ⟨its, rv, pl, hz⟩ := I.list hq
 have hi : IntsAre its ns := intsAre_of rv
 obtain ⟨xs, e⟩ := hi.allInts.items
 have hl := pl.isList
 rw [e] at hl
 refine sum_intListG (I.ok.hd hc) hl fun h' tk t' hk => ?_
 have e1 : its = (intItems xs).toList := by rw [<- e]
 have e2 : xs.toList.map (·.1) = ns := by rw [<- nums_intItems, <- e1, hi.numsOf]
 have es : preSum (numAt xs) xs.size = ns.sum := by rw [preSum_eq, List.take_of_length_le (by simp), e2]
 rw [es]
 exact ⟨.int ns.sum, H, I.kept hk, ⟨_, rfl⟩, q⟩
theorem bools_walk {pins : List (Addr × Obj)} {σ : St} {H : Hp} {s : Shared} {l : Addr} {bs : List Bool} (I : Inv X pins σ H s) (hq : SqL X.K H l (bs.map V.bl)) :
  ∃ its : List Value, its.length = bs.length /\ s.heap.IsList l its.toArray /\ l ≠ s.heap.objs.size /\ ∀ (i : Nat) (v : Value), its.toArray[i]? = some v -> v = .bool (bs.getD i false) := by
 obtain ⟨its, rv, pl, hz⟩ := I.list hq
 refine ⟨its, by rw [<- rv.length, List.length_map], pl.isList, ?_, fun i v e => ?_⟩
 ·obtain ⟨o, n, e, _⟩ := pl
  exact Nat.ne_of_lt (Heap.lt_size e)
 ·have e' : its[i]? = some v := by simpa using e
  have hi : i < its.length := (List.getElem?_eq_some_iff.mp e').1
  have hb : i < bs.length := by have := rv.length; rw [List.length_map] at this; omega
  obtain ⟨u, hu, ru⟩ := rv.get (i := i) (x := .bl bs[i]) (by simp [hb])
  rw [e'] at hu
  cases hu
  have : v = Value.bool bs[i] := ru
  rw [this]
  simp [List.getD, hb]
theorem range_any (bs : List Bool) : (List.range bs.length).any (fun i => bs.getD i false) = bs.any id := by
 rw [Bool.eq_iff_iff]
 simp only [List.any_eq_true, List.mem_range, id]
 constructor
 ·rintro ⟨i, hi, e⟩
  refine ⟨bs[i], List.getElem_mem hi, ?_⟩
  simpa [List.getD, hi] using e
 ·rintro ⟨x, hx, e⟩
  obtain ⟨i, hi, rfl⟩ := List.mem_iff_getElem.mp hx
  exact ⟨i, hi, by simpa [List.getD, hi] using e⟩
theorem range_all (bs : List Bool) : (List.range bs.length).all (fun i => bs.getD i false) = bs.all id := by
 rw [Bool.eq_iff_iff]
 simp only [List.all_eq_true, List.mem_range, id]
 constructor
 ·intro h x hx
  obtain ⟨i, hi, rfl⟩ := List.mem_iff_getElem.mp hx
  simpa [List.getD, hi] using h i hi
 ·intro h i hi
  have := h bs[i] (List.getElem_mem hi)
  simpa [List.getD, hi] using this
theorem call_anyB (hc : X.calm = true) : CallR X (.builtin "any") (fun xs H Q => ∃ (a : Addr) (bs : List Bool), xs = [.ref a] /\ SqL X.K H a (bs.map V.bl) /\ Q (.bl (bs.any id)) H) := by
 intro pins s σ H xs us Q I r h
 obtain ⟨a, bs, rfl, hq, q⟩ := h
 obtain ⟨u, rfl, r1⟩ := vals1 r
 cases r1
 obtain ⟨its, hlen, hl, hne, hit⟩ := bools_walk I hq
 refine call_any_walk (wpAny_pyIter_list hl ?_)
 refine ⟨s.heap.objs.size, _, _, _, _, _, fun i => bs.getD i false, rfl, Walks.list (A := X.A.in1) (I.ok.hd hc) s.heap.objs.size a hne its.toArray, ⟨⟨_, Heap.get?_push_size _ rfl, rfl, rfl⟩, hl.at fun o e => Heap.get?_push_of_some _ e⟩, fun i v s' Q' E' e hQ => ?_, fun h' tk hk => ?_⟩
 ·rw [hit i v e]
  exact wpAny_truthy_bool hQ
 ·have e : (List.range its.toArray.size).any (fun i => bs.getD i false) = bs.any id := by rw [List.size_toArray, hlen]; exact range_any bs
  rw [e]
  refine ⟨.bl (bs.any id), H, I.kept fun b o e => hk b o ?_ (Heap.get?_push_of_some _ e), rfl, q⟩
  intro z
  have z' : b = s.heap.objs.size := by simpa using z
  rw [z'] at e
  exact absurd (Heap.lt_size e) (Nat.lt_irrefl _)
theorem call_allB (hc : X.calm = true) : CallR X (.builtin "all") (fun xs H Q => ∃ (a : Addr) (bs : List Bool), xs = [.ref a] /\ SqL X.K H a (bs.map V.bl) /\ Q (.bl (bs.all id)) H) := by
 intro pins s σ H xs us Q I r h
 obtain ⟨a, bs, rfl, hq, q⟩ := h
 obtain ⟨u, rfl, r1⟩ := vals1 r
 cases r1
 obtain ⟨its, hlen, hl, hne, hit⟩ := bools_walk I hq
 refine call_all_walk (wpAny_pyIter_list hl ?_)
 refine ⟨s.heap.objs.size, _, _, _, _, _, fun i => bs.getD i false, rfl, Walks.list (A := X.A.in1) (I.ok.hd hc) s.heap.objs.size a hne its.toArray, ⟨⟨_, Heap.get?_push_size _ rfl, rfl, rfl⟩, hl.at fun o e => Heap.get?_push_of_some _ e⟩, fun i v s' Q' E' e hQ => ?_, fun h' tk hk => ?_⟩
 ·rw [hit i v e]
  exact wpAny_truthy_bool hQ
 ·have e : (List.range its.toArray.size).all (fun i => bs.getD i false) = bs.all id := by rw [List.size_toArray, hlen]; exact range_all bs
  rw [e]
  refine ⟨.bl (bs.all id), H, I.kept fun b o e => hk b o ?_ (Heap.get?_push_of_some _ e), rfl, q⟩
  intro z
  have z' : b = s.heap.objs.size := by simpa using z
  rw [z'] at e
  exact absurd (Heap.lt_size e) (Nat.lt_irrefl _)
end
end L2
namespace L2
open PySem PySem.Spec PyProof.Rows
section
variable {X : Cx} {a b c : Expr} {ta tb tc : TE} {pos : Pos}
def CMulU (i j : Int) : Prop := CMul i j \/ CMulB i j
theorem op_mulU : OpR X (binaryOp .Mult) (rI CMulU fun i j => .int (i * j)) := opI fun _ _ _ _ _ _ _ hc q => mul_int q (hc.elim (fun h => h.ok) fun h => h.ok)
theorem CMulU.l {i j : Int} (h1 : -(2 ^ 64) < i) (h2 : i < 2 ^ 64) : CMulU i j := .inl (.inl ⟨h1, h2⟩)
theorem CMulU.r {i j : Int} (h1 : -(2 ^ 64) < j) (h2 : j < 2 ^ 64) : CMulU i j := .inl (.inr ⟨h1, h2⟩)
theorem CMulU.big {i j : Int} (h1 : i.natAbs < 2 ^ 2000) (h2 : j.natAbs < 2 ^ 2000) : CMulU i j := .inr ⟨h1, h2⟩
theorem call_isinstT : CallR X (.builtin "isinstance") (fun xs H Q => ∃ x n t k, xs = [x, .ty n] /\ TyOf X.K H x t /\ PySem.W.kitOne X.K t (.type n) = some k /\ Q (.bl k) H) := by
 intro pins s σ H xs us Q I r h
 obtain ⟨x, n, t, k, rfl, ty, e, q⟩ := h
 obtain ⟨u, w', rfl, rx, rc⟩ := vals2 r
 cases rc
 exact isinst_ok I rx ty e fun tk => ⟨.bl k, H, I.tok _, rfl, q⟩
theorem call_isinstC : CallR X (.builtin "isinstance") (fun xs H Q => ∃ x C t k, xs = [x, .ref C] /\ TyOf X.K H x t /\ PySem.W.kitOne X.K t (.ref C) = some k /\ Q (.bl k) H) := by
 intro pins s σ H xs us Q I r h
 obtain ⟨x, C, t, k, rfl, ty, e, q⟩ := h
 obtain ⟨u, w', rfl, rx, rc⟩ := vals2 r
 cases rc
 exact isinst_ok I rx ty e fun tk => ⟨.bl k, H, I.tok _, rfl, q⟩
theorem pe_ty {x : Str} (T : String) (hg : Gl X x) (hm : X.mg x = none) (hv : bootBuiltins x = some (.type T)) (hn : x ≠ "__name__" := by decide) (hd : (x == ("__debug__" : Str)) = false := by decide) : PE X (.Name x pos) (tC (.ty T)) := pe_bltn hg hm hv rfl hn hd
end
section
variable {D : Ends} {σ : St} {H : Hp} {t u : TS} {te ta tb tc : TE} {tt tu : TT} {Q : VK} {QB : Bool -> Hp -> Prop} {QA : List V -> Hp -> Prop} {QG : St -> Hp -> Prop} {v x y : V} {vs : List V} {i j : Nat} {g : TG} {gs : TGs} {A : TA} {K : Fg_}
theorem ap_seq : tSeq t u D σ H = t { D with nx := u D } σ H := rfl
theorem ap_next : tNext D σ H = D.nx σ H := rfl
theorem ap_asg : tAsg te g D σ H = te σ H fun x H1 => g x σ H1 D.nx := rfl
theorem ap_name : gName i v σ H QG = QG (σ.set i (some v)) H := rfl
theorem ap_var : tVar i σ H Q = ∃ v, σ[i]? = some (some v) /\ Q v H := rfl
theorem ap_c : tC v σ H Q = Q v H := rfl
theorem ap_op {r : R2} : tOp r ta tb σ H Q = ta σ H fun x H1 => tb σ H1 fun y H2 => r x y H2 Q := rfl
theorem ap_un {r : V -> Hp -> VK -> Prop} : tUn r ta σ H Q = ta σ H fun x H1 => r x H1 Q := rfl
theorem ap_rI {C : Int -> Int -> Prop} {f : Int -> Int -> V} : rI C f x y H Q = ∃ i j, x = .int i /\ y = .int j /\ C i j /\ Q (f i j) H := rfl
theorem ap_rI0 {f : Int -> Int -> V} : rI0 f x y H Q = ∃ i j, x = .int i /\ y = .int j /\ Q (f i j) H := rfl
theorem ap_rU {f : Int -> V} : rU f x H Q = ∃ i, x = .int i /\ Q (f i) H := rfl
theorem ap_rEq : rEq x y H Q = (scal x y = true /\ Q (.bl (decide (x = y))) H) := rfl
theorem ap_rNe : rNe x y H Q = (scal x y = true /\ Q (.bl (!decide (x = y))) H) := rfl
theorem ap_ret : tRet te D σ H = te σ H D.rt := rfl
theorem ap_drop : tDrop te D σ H = te σ H fun _ H1 => D.nx σ H1 := rfl
theorem ap_if : tIfS tt t u D σ H = tt σ H fun b H1 => if b = true then t D σ H1 else u D σ H1 := rfl
theorem ap_test : tTest te σ H QB = te σ H fun x H' => ∃ k, x = .bl k /\ QB k H' := rfl
theorem ap_tB : tB te σ H QB = te σ H fun x H1 => ∃ c, x = .bl c /\ QB c H1 := rfl
theorem ap_and : tAnd tt tu σ H QB = tt σ H fun c H1 => if c = true then tu σ H1 QB else QB false H1 := rfl
theorem ap_or : tOr tt tu σ H QB = tt σ H fun c H1 => if c = true then QB true H1 else tu σ H1 QB := rfl
theorem ap_not : tNot tt σ H QB = tt σ H fun c H1 => QB (!c) H1 := rfl
theorem ap_andV : tAndV ta tb σ H Q = ta σ H fun x H1 => ∃ c, x = .bl c /\ if c = true then tb σ H1 Q else Q (.bl false) H1 := rfl
theorem ap_notV : tNotV ta σ H Q = ta σ H fun x H1 => ∃ c, x = .bl c /\ Q (.bl (!c)) H1 := rfl
theorem ap_ifE : tIf tt ta tb σ H Q = tt σ H fun c H1 => if c = true then ta σ H1 Q else tb σ H1 Q := rfl
theorem ap_call {sp : Sp} {dvs : List V} {E : XK} : tCall sp dvs E A σ H Q = A σ H fun vs H1 => sp (vs ++ dvs) H1 Q E := rfl
theorem ap_nil : tNil σ H QA = QA [] H := rfl
theorem ap_cons : tCons ta A σ H QA = ta σ H fun x H1 => A σ H1 fun xs H2 => QA (x :: xs) H2 := rfl
theorem ap_cb {r : List V -> Hp -> VK -> Prop} : tCB r A σ H Q = A σ H fun vs H1 => r vs H1 Q := rfl
theorem ap_lst : tLst A σ H Q = A σ H fun xs H1 => xs.length <= sizeLine /\ ∀ p, H1 p = none -> Q (.ref p) (upd H1 p (.lst xs)) := rfl
theorem ap_tup : tTup A σ H Q = A σ H fun xs H1 => xs.length <= sizeLine /\ ∀ p, H1 p = none -> Q (.ref p) (upd H1 p (.tup xs)) := rfl
theorem ap_chain {r r' : R2} : tChain r r' ta tb tc σ H Q = ta σ H fun x H1 => tb σ H1 fun y H2 => r x y H2 fun z H3 => ∃ k, z = .bl k /\ (if k = true then tc σ H3 fun w' H4 => r' y w' H4 Q else Q (.bl false) H3) := rfl
theorem ap_sl {r : V -> Option Int -> Option Int -> Hp -> VK -> Prop} {tl th : TO} : tSl r te tl th σ H Q = te σ H fun x H1 => tl σ H1 fun l H2 => th σ H2 fun u H3 => r x l u H3 Q := rfl
theorem ap_noPart {QO : Option Int -> Hp -> Prop} : tNoPart σ H QO = QO none H := rfl
theorem ap_part {QO : Option Int -> Hp -> Prop} : tPart te σ H QO = te σ H fun x H1 => ∃ i, x = .int i /\ QO (some i) H1 := rfl
theorem ap_gNil : gNil vs σ H QG = (vs = [] /\ QG σ H) := rfl
theorem ap_gCons {u : TGs} : gCons g u vs σ H QG = ∃ v r, vs = v :: r /\ g v σ H fun σ' H' => u r σ' H' QG := rfl
theorem ap_gTup {n : Nat} : gTup K n gs v σ H QG = ∃ a xs, v = .ref a /\ SqT K H a xs /\ xs.length = n /\ gs xs σ H QG := rfl
theorem ap_bm {T : String} {r : V -> List V -> Hp -> VK -> Prop} : tBM K T r te A σ H Q = te σ H fun x H1 => tyV K T x H1 /\ A σ H1 fun xs H2 => r x xs H2 Q := rfl
theorem ap_bm0 {T : String} {r : V -> List V -> Hp -> VK -> Prop} : tBM0 K T r te σ H Q = te σ H fun x H1 => tyV K T x H1 /\ r x [] H1 Q := rfl
theorem ap_ixL {x y : V} : rIxL K x y H Q = ∃ p xs i v, x = .ref p /\ y = .int i /\ SqL K H p xs /\ atI xs i = some v /\ Q v H := rfl
theorem ap_slL {lo hi : Option Int} : rSlL K x lo hi H Q = ∃ a xs, x = .ref a /\ SqL K H a xs /\ ∀ p, H p = none -> Q (.ref p) (upd H p (.lst (cutV xs lo hi))) := rfl
theorem scal_int (i j : Int) : scal (.int i) (.int j) = true := rfl
theorem scal_str (i j : Str) : scal (.str i) (.str j) = true := rfl
theorem scal_bl (i j : Bool) : scal (.bl i) (.bl j) = true := rfl
theorem start_eq (N : List Str) (vs : List V) : start N vs = vs.map some ++ List.replicate (N.length - vs.length) none := rfl
end
end L2
namespace L2
open PySem PySem.Spec PyProof.Rows
theorem filt_true {α : Type} (l : List α) : l.filter (fun _ => true) = l := by simp
theorem Same.upd {H H' : Hp} {a : Addr} {o : HO} (h : Same H H') (hn : H a = Option.none) : Same H (upd H' a o) := fun b u e => by
 rw [upd_ne (ne_of_none e hn)]
 exact h b u e
theorem Same.new {H : Hp} {a : Addr} {o : HO} (hn : H a = Option.none) : Same H (L2.upd H a o) := Same.upd (Same.refl H) hn
section
variable {K : Fg_} {a D : Addr} {xs : List V} {g : TG} {tt : TT} {te : TE} {σ0 : St} {H1 : Hp} {Q : VK}
theorem comp_step {xs : List V} (J : It) (Sσ : St -> Prop) (p : V -> Bool) (F : V -> V) (hD : H1 D = Option.none) (h0 : Sσ σ0) (hz : xs.length <= sizeLine)
  (hgo : ∀ (i : Nat) x H, xs[i]? = some x -> Same H1 H -> J.go i H /\ ∀ y H', J.yld i H y H' -> y = x /\ H' = H) (hstop : ∀ H, Same H1 H -> J.stop xs.length H)
  (hs : ∀ x ∈ xs, ∀ (σ : St) (H : Hp) (R1 : St -> VK) (R2 : St -> Hp -> Prop), Sσ σ -> Same H1 H -> (p x = true -> ∀ σ4 H6, Sσ σ4 -> Same H H6 -> R1 σ4 (F x) H6) -> (p x = false -> ∀ σ4 H6, Sσ σ4 -> Same H H6 -> R2 σ4 H6) ->
   g x σ H fun σ4 H4 => tt σ4 H4 fun b H5 => if b = true then te σ4 H5 (R1 σ4) else R2 σ4 H5)
  (k : ∀ H', Same H1 H' -> H' D = some (.lst ((xs.filter p).map F)) -> Q (.ref D) H') :
  ∃ W : Nat -> Nat -> List V -> St -> Hp -> Prop, (∃ m, W 0 m [] σ0 (upd H1 D (.lst []))) /\ ∀ i m acc σ1 H2, W i m acc σ1 H2 -> H2 D = some (.lst acc) ->
   (J.stop i H2 /\ Q (.ref D) H2) \/ (J.go i H2 /\ ∀ x H3, J.yld i H2 x H3 -> g x σ1 H3 fun σ4 H4 => tt σ4 H4 fun b H5 =>
    if b = true then te σ4 H5 fun v H6 => ∃ acc', H6 D = some (.lst acc') /\ acc'.length < sizeLine /\ ∃ m', m' < m /\ W (i + 1) m' (acc' ++ [v]) σ4 (upd H6 D (.lst (acc' ++ [v])))
    else ∃ m', m' < m /\ ∃ acc', H5 D = some (.lst acc') /\ W (i + 1) m' acc' σ4 H5) := by
 refine ⟨fun i m acc σ H => m = xs.length - i /\ i <= xs.length /\ Sσ σ /\ Same H1 H /\ acc = ((xs.take i).filter p).map F, ⟨xs.length, rfl, Nat.zero_le _, h0, Same.new hD, by simp⟩, ?_⟩
 rintro i m acc σ H ⟨rfl, hi, hσ, sm, rfl⟩ hA
 by_cases hlt : i < xs.length
 ·have hx : xs[i]? = some xs[i] := by simp [hlt]
  obtain ⟨go, yl⟩ := hgo i xs[i] H hx sm
  refine .inr ⟨go, fun y H' hy => ?_⟩
  obtain ⟨rfl, rfl⟩ := yl y H' hy
  have htake : xs.take (i + 1) = xs.take i ++ [xs[i]] := by rw [List.take_add_one, hx]; rfl
  have hlen : (((xs.take i).filter p).map F).length <= i := by
   rw [List.length_map]
   exact Nat.le_trans (List.length_filter_le _ _) (by rw [List.length_take]; exact Nat.min_le_left _ _)
  refine hs xs[i] (List.getElem_mem hlt) σ H' _ _ hσ sm (fun hp σ4 H6 hσ4 s6 => ?_) (fun hp σ4 H6 hσ4 s6 => ?_)
  ·refine ⟨_, s6 _ _ hA, by omega, xs.length - (i + 1), by omega, rfl, hlt, hσ4, (sm.trans s6).upd hD, ?_⟩
   rw [htake, List.filter_append, List.map_append]
   simp [hp]
  ·refine ⟨xs.length - (i + 1), by omega, _, s6 _ _ hA, rfl, hlt, hσ4, sm.trans s6, ?_⟩
   rw [htake, List.filter_append, List.map_append]
   simp [hp]
 ·have e : i = xs.length := by omega
  subst e
  refine .inl ⟨hstop H sm, k H sm ?_⟩
  rw [hA, List.take_length]
theorem comp_list (Sσ : St -> Prop) (p : V -> Bool) (F : V -> V) (hS : SqL K H1 a xs) (hD : H1 D = Option.none) (h0 : Sσ σ0) (hz : xs.length <= sizeLine)
  (hs : ∀ x ∈ xs, ∀ (σ : St) (H : Hp) (R1 : St -> VK) (R2 : St -> Hp -> Prop), Sσ σ -> Same H1 H -> (p x = true -> ∀ σ4 H6, Sσ σ4 -> Same H H6 -> R1 σ4 (F x) H6) -> (p x = false -> ∀ σ4 H6, Sσ σ4 -> Same H H6 -> R2 σ4 H6) ->
   g x σ H fun σ4 H4 => tt σ4 H4 fun b H5 => if b = true then te σ4 H5 (R1 σ4) else R2 σ4 H5)
  (k : ∀ H', Same H1 H' -> H' D = some (.lst ((xs.filter p).map F)) -> Q (.ref D) H') :
  ∃ W : Nat -> Nat -> List V -> St -> Hp -> Prop, (∃ m, W 0 m [] σ0 (upd H1 D (.lst []))) /\ ∀ i m acc σ1 H2, W i m acc σ1 H2 -> H2 D = some (.lst acc) ->
   ((Itl K a).stop i H2 /\ Q (.ref D) H2) \/ ((Itl K a).go i H2 /\ ∀ x H3, (Itl K a).yld i H2 x H3 -> g x σ1 H3 fun σ4 H4 => tt σ4 H4 fun b H5 =>
    if b = true then te σ4 H5 fun v H6 => ∃ acc', H6 D = some (.lst acc') /\ acc'.length < sizeLine /\ ∃ m', m' < m /\ W (i + 1) m' (acc' ++ [v]) σ4 (upd H6 D (.lst (acc' ++ [v])))
    else ∃ m', m' < m /\ ∃ acc', H5 D = some (.lst acc') /\ W (i + 1) m' acc' σ4 H5) :=
 comp_step (Itl K a) Sσ p F hD h0 hz (fun i x H hx sm => ⟨⟨xs, x, sm.seq hS, hx⟩, fun y H' hy => ⟨Option.some.inj ((hy.2 xs (sm.seq hS)).symm.trans hx), hy.1⟩⟩) (fun H sm => ⟨xs, sm.seq hS, Nat.le_refl _⟩) hs k
theorem comp_range {lo : Int} {n : Nat} (Sσ : St -> Prop) (p : V -> Bool) (F : V -> V) (hD : H1 D = Option.none) (h0 : Sσ σ0) (hz : n <= sizeLine)
  (hs : ∀ i : Nat, i < n -> ∀ (σ : St) (H : Hp) (R1 : St -> VK) (R2 : St -> Hp -> Prop), Sσ σ -> Same H1 H -> (p (.int (lo + i)) = true -> ∀ σ4 H6, Sσ σ4 -> Same H H6 -> R1 σ4 (F (.int (lo + i))) H6) -> (p (.int (lo + i)) = false -> ∀ σ4 H6, Sσ σ4 -> Same H H6 -> R2 σ4 H6) ->
   g (.int (lo + i)) σ H fun σ4 H4 => tt σ4 H4 fun b H5 => if b = true then te σ4 H5 (R1 σ4) else R2 σ4 H5)
  (k : ∀ H', Same H1 H' -> H' D = some (.lst ((((List.range n).map fun (i : Nat) => V.int (lo + i)).filter p).map F)) -> Q (.ref D) H') :
  ∃ W : Nat -> Nat -> List V -> St -> Hp -> Prop, (∃ m, W 0 m [] σ0 (upd H1 D (.lst []))) /\ ∀ i m acc σ1 H2, W i m acc σ1 H2 -> H2 D = some (.lst acc) ->
   ((Itr lo n).stop i H2 /\ Q (.ref D) H2) \/ ((Itr lo n).go i H2 /\ ∀ x H3, (Itr lo n).yld i H2 x H3 -> g x σ1 H3 fun σ4 H4 => tt σ4 H4 fun b H5 =>
    if b = true then te σ4 H5 fun v H6 => ∃ acc', H6 D = some (.lst acc') /\ acc'.length < sizeLine /\ ∃ m', m' < m /\ W (i + 1) m' (acc' ++ [v]) σ4 (upd H6 D (.lst (acc' ++ [v])))
    else ∃ m', m' < m /\ ∃ acc', H5 D = some (.lst acc') /\ W (i + 1) m' acc' σ4 H5) := by
 refine comp_step (xs := (List.range n).map fun (i : Nat) => V.int (lo + i)) (Itr lo n) Sσ p F hD h0 (by simpa using hz) (fun i x H hx sm => ?_) (fun H sm => ?_) (fun x hx σ H R1 R2 h1 h2 h3 h4 => ?_) k
 ·have hi : i < n := by simpa using (List.getElem?_eq_some_iff.mp hx).1
  have e : x = .int (lo + i) := by
   rw [List.getElem?_map, List.getElem?_range hi] at hx
   exact (Option.some.inj hx).symm
  exact ⟨hi, fun y H' hy => ⟨hy.2.trans e.symm, hy.1⟩⟩
 ·show n <= _
  simp
 ·obtain ⟨i, hi, rfl⟩ := List.mem_map.mp hx
  exact hs i (List.mem_range.mp hi) σ H R1 R2 h1 h2 h3 h4
end
end L2
namespace L2
open PySem PySem.Spec PyProof.Rows
inductive DV where
 | non | bl (b : Bool) | int (i : Int) | str (x : Str) | lst (xs : List DV) | tup (xs : List DV)
mutual
inductive RepD (K : Fg_) (H : Hp) : V -> DV -> Prop
 | non : RepD K H .non .non
 | bl (b : Bool) : RepD K H (.bl b) (.bl b)
 | int (i : Int) : RepD K H (.int i) (.int i)
 | str (x : Str) : RepD K H (.str x) (.str x)
 | lst {a : Addr} {vs : List V} {ds : List DV} (h : SqL K H a vs) (hs : RepsD K H vs ds) : RepD K H (.ref a) (.lst ds)
 | tup {a : Addr} {vs : List V} {ds : List DV} (h : SqT K H a vs) (hs : RepsD K H vs ds) : RepD K H (.ref a) (.tup ds)
inductive RepsD (K : Fg_) (H : Hp) : List V -> List DV -> Prop
 | nil : RepsD K H [] []
 | cons {v : V} {d : DV} {vs : List V} {ds : List DV} (h : RepD K H v d) (hs : RepsD K H vs ds) : RepsD K H (v :: vs) (d :: ds)
end
mutual
def deqD : DV -> DV -> Bool
 | .non, .non => true
 | .bl a, .bl b => a == b
 | .int a, .int b => a == b
 | .bl a, .int b => (if a then 1 else 0) == b
 | .int a, .bl b => a == (if b then 1 else 0)
 | .str a, .str b => a == b
 | .lst xs, .lst ys => deqDs xs ys
 | .tup xs, .tup ys => deqDs xs ys
 | _, _ => false
def deqDs : List DV -> List DV -> Bool
 | [], [] => true
 | x :: xs, y :: ys => deqD x y && deqDs xs ys
 | _, _ => false
end
mutual
def depD : DV -> Nat
 | .lst xs => depDs xs + 1
 | .tup xs => depDs xs + 1
 | _ => 0
def depDs : List DV -> Nat
 | [] => 0
 | x :: xs => max (depD x) (depDs xs)
end
theorem RepsD.length {K : Fg_} {H : Hp} : ∀ {vs : List V} {ds : List DV}, RepsD K H vs ds -> vs.length = ds.length
 | _, _, .nil => rfl
 | _, _, .cons _ hs => congrArg (· + 1) (RepsD.length hs)
theorem RepsD.get {K : Fg_} {H : Hp} : ∀ {vs : List V} {ds : List DV} {j : Nat} {v : V} {d : DV}, RepsD K H vs ds -> vs[j]? = some v -> ds[j]? = some d -> RepD K H v d
 | _, _, _, _, _, .nil, h, _ => by simp at h
 | _, _, 0, _, _, .cons h _, e1, e2 => by simp at e1 e2; subst e1 e2; exact h
 | _, _, j + 1, _, _, .cons _ hs, e1, e2 => RepsD.get (j := j) hs (by simpa using e1) (by simpa using e2)
theorem depDs_get : ∀ {ds : List DV} {j : Nat} {d : DV}, ds[j]? = some d -> depD d <= depDs ds
 | [], _, _, h => by simp at h
 | x :: xs, 0, d, h => by simp at h; subst h; unfold depDs; exact Nat.le_max_left _ _
 | x :: xs, j + 1, d, h => by unfold depDs; exact Nat.le_trans (depDs_get (j := j) (by simpa using h)) (Nat.le_max_right _ _)
theorem deqDs_all : ∀ (xs ys : List DV), xs.length = ys.length -> deqDs xs ys = (List.range xs.length).all fun j => deqD (xs.getD j .non) (ys.getD j .non)
 | [], [], _ => rfl
 | x :: xs, y :: ys, h => by
  unfold deqDs
  rw [deqDs_all xs ys (by simpa using h), List.length_cons, List.range_succ_eq_map, List.all_cons, List.all_map]
  rfl
 | [], _ :: _, h => by simp at h
 | _ :: _, [], h => by simp at h
theorem deqDs_len : ∀ (xs ys : List DV), xs.length ≠ ys.length -> deqDs xs ys = false
 | [], [], h => absurd rfl h
 | x :: xs, y :: ys, h => by
  unfold deqDs
  rw [deqDs_len xs ys (by simpa using h), Bool.and_false]
 | [], _ :: _, _ => by unfold deqDs; rfl
 | _ :: _, [], _ => by unfold deqDs; rfl
theorem deqD_lst (xs ys : List DV) : deqD (.lst xs) (.lst ys) = deqDs xs ys := by unfold deqD; rfl
theorem deqD_tup (xs ys : List DV) : deqD (.tup xs) (.tup ys) = deqDs xs ys := by unfold deqD; rfl
mutual
theorem deqD_refl : ∀ d : DV, deqD d d = true
 | .non => by unfold deqD; rfl
 | .bl a => by unfold deqD; simp
 | .int a => by unfold deqD; simp
 | .str a => by unfold deqD; simp
 | .lst xs => by unfold deqD; exact deqDs_refl xs
 | .tup xs => by unfold deqD; exact deqDs_refl xs
theorem deqDs_refl : ∀ ds : List DV, deqDs ds ds = true
 | [] => by unfold deqDs; rfl
 | x :: xs => by unfold deqDs; rw [deqD_refl x, deqDs_refl xs]; rfl
end
section
variable {X : Cx} {pins : List (Addr × Obj)} {σ : St} {H : Hp} {s : Shared}
theorem Inv.noboth (I : Inv X pins σ H s) {a : Addr} {xs ys : List V} (h : SqL X.K H a xs) (h' : SqT X.K H a ys) : False := by
 obtain ⟨its, r, ⟨o, n, e, c, _⟩, _⟩ := I.list h
 obtain ⟨its', r', ⟨o', e', c', _⟩, _⟩ := I.tuple h'
 rw [e] at e'; cases e'
 rw [c] at c'
 exact absurd c' (by decide)
mutual
theorem RepD.inj (I : Inv X pins σ H s) : ∀ {v : V} {d d' : DV}, RepD X.K H v d -> RepD X.K H v d' -> d = d'
 | _, _, _, .non, .non => rfl
 | _, _, _, .bl _, .bl _ => rfl
 | _, _, _, .int _, .int _ => rfl
 | _, _, _, .str _, .str _ => rfl
 | _, _, _, .lst h hs, .lst h' hs' => by
  have e := I.list_inj h h'
  subst e
  rw [RepsD.inj I hs hs']
 | _, _, _, .tup h hs, .tup h' hs' => by
  have e := I.tuple_inj h h'
  subst e
  rw [RepsD.inj I hs hs']
 | _, _, _, .lst h _, .tup h' _ => (I.noboth h h').elim
 | _, _, _, .tup h _, .lst h' _ => (I.noboth h' h).elim
theorem RepsD.inj (I : Inv X pins σ H s) : ∀ {vs : List V} {ds ds' : List DV}, RepsD X.K H vs ds -> RepsD X.K H vs ds' -> ds = ds'
 | _, _, _, .nil, .nil => rfl
 | _, _, _, .cons h hs, .cons h' hs' => by rw [RepD.inj I h h', RepsD.inj I hs hs']
end
theorem in1_units (A : Around) : A.in1.units = A.units + 1 := rfl
theorem eqAt_flatL (I : Inv X pins σ H s) {A : Around} {d1 d2 : DV} {v1 v2 : V} {u1 u2 : Value} (hd : depD d1 <= 0) (hu' : A.units < cLine) (h1 : RepD X.K H v1 d1) (h2 : RepD X.K H v2 d2) (r1 : RelV v1 u1) (r2 : RelV v2 u2) : SeqAt.EqAt A s u1 u2 (deqD d1 d2) := by
 cases h1 with
 | lst h hs => unfold depD at hd; omega
 | tup h hs => unfold depD at hd; omega
 | non =>
  cases (show u1 = Value.none from r1)
  cases h2 with
  | non => cases (show u2 = Value.none from r2); unfold deqD; exact SeqAt.EqAt.same _
  | bl b => cases (show u2 = Value.bool b from r2); unfold deqD; exact SeqAt.EqAt.none_bool b
  | int i => obtain ⟨t, e⟩ := (show ∃ t, u2 = Value.int i t from r2); subst e; unfold deqD; exact SeqAt.EqAt.none_int i t
  | str x => obtain ⟨t, e⟩ := (show ∃ t, u2 = Value.str x t from r2); subst e; unfold deqD; exact SeqAt.EqAt.none_str x t
  | lst h hs => obtain ⟨its, _, p, _⟩ := I.list h; cases r2; unfold deqD; exact SeqAt.EqAt.none_list p.isList hu'
  | tup h hs => obtain ⟨its, _, p, _⟩ := I.tuple h; cases r2; unfold deqD; exact SeqAt.EqAt.none_tuple p hu'
 | bl a =>
  cases (show u1 = Value.bool a from r1)
  cases h2 with
  | non => cases (show u2 = Value.none from r2); unfold deqD; exact SeqAt.EqAt.bool_none a
  | bl b => cases (show u2 = Value.bool b from r2); unfold deqD; exact SeqAt.EqAt.bool_bool a b
  | int i => obtain ⟨t, e⟩ := (show ∃ t, u2 = Value.int i t from r2); subst e; unfold deqD; exact SeqAt.EqAt.bool_int a i t
  | str x => obtain ⟨t, e⟩ := (show ∃ t, u2 = Value.str x t from r2); subst e; unfold deqD; exact SeqAt.EqAt.bool_str a x t
  | lst h hs => obtain ⟨its, _, p, _⟩ := I.list h; cases r2; unfold deqD; exact SeqAt.EqAt.bool_list a p.isList hu'
  | tup h hs => obtain ⟨its, _, p, _⟩ := I.tuple h; cases r2; unfold deqD; exact SeqAt.EqAt.bool_tuple a p hu'
 | int a =>
  obtain ⟨t1, e1⟩ := (show ∃ t, u1 = Value.int a t from r1); subst e1
  cases h2 with
  | non => cases (show u2 = Value.none from r2); unfold deqD; exact SeqAt.EqAt.int_none a t1
  | bl b => cases (show u2 = Value.bool b from r2); unfold deqD; exact SeqAt.EqAt.int_bool a t1 b
  | int i => obtain ⟨t, e⟩ := (show ∃ t, u2 = Value.int i t from r2); subst e; unfold deqD; exact SeqAt.EqAt.int_int a t1 i t
  | str x => obtain ⟨t, e⟩ := (show ∃ t, u2 = Value.str x t from r2); subst e; unfold deqD; exact SeqAt.EqAt.int_str a t1 x t
  | lst h hs => obtain ⟨its, _, p, _⟩ := I.list h; cases r2; unfold deqD; exact SeqAt.EqAt.int_list a t1 p.isList hu'
  | tup h hs => obtain ⟨its, _, p, _⟩ := I.tuple h; cases r2; unfold deqD; exact SeqAt.EqAt.int_tuple a t1 p hu'
 | str a =>
  obtain ⟨t1, e1⟩ := (show ∃ t, u1 = Value.str a t from r1); subst e1
  cases h2 with
  | non => cases (show u2 = Value.none from r2); unfold deqD; exact SeqAt.EqAt.str_none a t1
  | bl b => cases (show u2 = Value.bool b from r2); unfold deqD; exact SeqAt.EqAt.str_bool a t1 b
  | int i => obtain ⟨t, e⟩ := (show ∃ t, u2 = Value.int i t from r2); subst e; unfold deqD; exact SeqAt.EqAt.str_int a t1 i t
  | str x => obtain ⟨t, e⟩ := (show ∃ t, u2 = Value.str x t from r2); subst e; unfold deqD; exact SeqAt.EqAt.str_str a t1 x t
  | lst h hs => obtain ⟨its, _, p, _⟩ := I.list h; cases r2; unfold deqD; exact SeqAt.EqAt.str_list a t1 p.isList hu'
  | tup h hs => obtain ⟨its, _, p, _⟩ := I.tuple h; cases r2; unfold deqD; exact SeqAt.EqAt.str_tuple a t1 p hu'
theorem eqAt_items {A : Around} {vs1 vs2 : List V} {ds1 ds2 : List DV} {its1 its2 : List Value} (r1 : Vals vs1 its1) (r2 : Vals vs2 its2) (h1 : RepsD X.K H vs1 ds1) (h2 : RepsD X.K H vs2 ds2)
  (ih : ∀ (d1 d2 : DV) (v1 v2 : V) (u1 u2 : Value), depD d1 <= depDs ds1 -> RepD X.K H v1 d1 -> RepD X.K H v2 d2 -> RelV v1 u1 -> RelV v2 u2 -> SeqAt.EqAt A s u1 u2 (deqD d1 d2)) :
  ∀ (j : Nat) (a : j < its1.toArray.size) (b : j < its2.toArray.size), SeqAt.EqAt A s its1.toArray[j] its2.toArray[j] (deqD (ds1.getD j .non) (ds2.getD j .non)) := by
 intro j a b
 have l1 := r1.length
 have l2 := r2.length
 have m1 := h1.length
 have m2 := h2.length
 simp only [List.size_toArray] at a b
 have a1 : j < vs1.length := by omega
 have a2 : j < vs2.length := by omega
 have b1 : j < ds1.length := by omega
 have b2 : j < ds2.length := by omega
 obtain ⟨w1, e1, q1⟩ := r1.get (i := j) (x := vs1[j]) (by simp [a1])
 obtain ⟨w2, e2, q2⟩ := r2.get (i := j) (x := vs2[j]) (by simp [a2])
 have z1 : its1.toArray[j] = w1 := by simpa [a] using e1
 have z2 : its2.toArray[j] = w2 := by simpa [b] using e2
 have y1 : ds1.getD j .non = ds1[j] := by simp [List.getD, b1]
 have y2 : ds2.getD j .non = ds2[j] := by simp [List.getD, b2]
 rw [z1, z2, y1, y2]
 exact ih _ _ _ _ _ _ (depDs_get (j := j) (by simp [b1])) (h1.get (j := j) (by simp [a1]) (by simp [b1])) (h2.get (j := j) (by simp [a2]) (by simp [b2])) q1 q2
theorem eqAt_D (I : Inv X pins σ H s) : ∀ (n : Nat) (A : Around) (d1 d2 : DV) (v1 v2 : V) (u1 u2 : Value), depD d1 <= n -> A.units + n < cLine -> RepD X.K H v1 d1 -> RepD X.K H v2 d2 -> RelV v1 u1 -> RelV v2 u2 -> SeqAt.EqAt A s u1 u2 (deqD d1 d2) := by
 intro n
 induction n with
 | zero => exact fun A d1 d2 v1 v2 u1 u2 hd hu h1 h2 r1 r2 => eqAt_flatL I hd (by omega) h1 h2 r1 r2
 | succ n ih =>
  intro A d1 d2 v1 v2 u1 u2 hd hu h1 h2 r1 r2
  have hu' : A.units < cLine := by omega
  have hin : A.in1.units + n < cLine := by rw [in1_units]; omega
  cases h1 with
  | non => exact eqAt_flatL I (by unfold depD; omega) hu' .non h2 r1 r2
  | bl a => exact eqAt_flatL I (by unfold depD; omega) hu' (.bl a) h2 r1 r2
  | int a => exact eqAt_flatL I (by unfold depD; omega) hu' (.int a) h2 r1 r2
  | str a => exact eqAt_flatL I (by unfold depD; omega) hu' (.str a) h2 r1 r2
  | @lst a vs ds h hs =>
   obtain ⟨its, rv, p, _⟩ := I.list h
   cases (show u1 = Value.ref a from r1)
   have hd' : depDs ds <= n := by unfold depD at hd; omega
   cases h2 with
   | non => cases (show u2 = Value.none from r2); unfold deqD; exact SeqAt.EqAt.list_none p.isList hu'
   | bl b => cases (show u2 = Value.bool b from r2); unfold deqD; exact SeqAt.EqAt.list_bool b p.isList hu'
   | int i => obtain ⟨t, e⟩ := (show ∃ t, u2 = Value.int i t from r2); subst e; unfold deqD; exact SeqAt.EqAt.list_int i t p.isList hu'
   | str x => obtain ⟨t, e⟩ := (show ∃ t, u2 = Value.str x t from r2); subst e; unfold deqD; exact SeqAt.EqAt.list_str x t p.isList hu'
   | @lst a2 vs2 ds2 h' hs' =>
    obtain ⟨its2, rv2, p2, _⟩ := I.list h'
    cases (show u2 = Value.ref a2 from r2)
    unfold deqD
    by_cases hne : a = a2
    ·subst hne
     have e := I.list_inj h h'
     subst e
     rw [RepsD.inj I hs hs', deqDs_refl]
     exact SeqAt.EqAt.same _
    ·have l1 := rv.length
     have l2 := rv2.length
     have m1 := hs.length
     have m2 := hs'.length
     by_cases hz : ds.length = ds2.length
     ·rw [deqDs_all _ _ hz]
      have := SeqAt.EqAt.of_refs hne (SeqAt.RcAt.lists (A := A) (e := fun j => deqD (ds.getD j .non) (ds2.getD j .non)) p.isList p2.isList (by simp only [List.size_toArray]; omega) hu'
       (eqAt_items rv rv2 hs hs' fun d1 d2 v1 v2 u1 u2 hdd g1 g2 q1 q2 => ih A.in1 d1 d2 v1 v2 u1 u2 (by omega) hin g1 g2 q1 q2))
      rw [List.size_toArray, show its.length = ds.length by omega] at this
      exact this
     ·rw [deqDs_len _ _ hz]
      exact SeqAt.EqAt.of_refs hne (SeqAt.RcAt.lists_lengths p.isList p2.isList (by simp only [List.size_toArray, bne_iff_ne]; omega) hu')
   | @tup a2 vs2 ds2 h' hs' =>
    obtain ⟨its2, rv2, p2, _⟩ := I.tuple h'
    cases (show u2 = Value.ref a2 from r2)
    unfold deqD
    exact SeqAt.EqAt.list_tuple p.isList p2 hu'
  | @tup a vs ds h hs =>
   obtain ⟨its, rv, p, _⟩ := I.tuple h
   cases (show u1 = Value.ref a from r1)
   have hd' : depDs ds <= n := by unfold depD at hd; omega
   cases h2 with
   | non => cases (show u2 = Value.none from r2); unfold deqD; exact SeqAt.EqAt.tuple_none p hu'
   | bl b => cases (show u2 = Value.bool b from r2); unfold deqD; exact SeqAt.EqAt.tuple_bool b p hu'
   | int i => obtain ⟨t, e⟩ := (show ∃ t, u2 = Value.int i t from r2); subst e; unfold deqD; exact SeqAt.EqAt.tuple_int i t p hu'
   | str x => obtain ⟨t, e⟩ := (show ∃ t, u2 = Value.str x t from r2); subst e; unfold deqD; exact SeqAt.EqAt.tuple_str x t p hu'
   | @lst a2 vs2 ds2 h' hs' =>
    obtain ⟨its2, rv2, p2, _⟩ := I.list h'
    cases (show u2 = Value.ref a2 from r2)
    unfold deqD
    exact SeqAt.EqAt.tuple_list p p2.isList hu'
   | @tup a2 vs2 ds2 h' hs' =>
    obtain ⟨its2, rv2, p2, _⟩ := I.tuple h'
    cases (show u2 = Value.ref a2 from r2)
    unfold deqD
    by_cases hne : a = a2
    ·subst hne
     have e := I.tuple_inj h h'
     subst e
     rw [RepsD.inj I hs hs', deqDs_refl]
     exact SeqAt.EqAt.same _
    ·have l1 := rv.length
     have l2 := rv2.length
     have m1 := hs.length
     have m2 := hs'.length
     have := SeqAt.EqAt.of_refs hne (SeqAt.RcAt.tuples (A := A) (e := fun j => deqD (ds.getD j .non) (ds2.getD j .non)) p p2 hu'
       (eqAt_items rv rv2 hs hs' fun d1 d2 v1 v2 u1 u2 hdd g1 g2 q1 q2 => ih A.in1 d1 d2 v1 v2 u1 u2 (by omega) hin g1 g2 q1 q2))
     simp only [List.size_toArray] at this
     by_cases hz : ds.length = ds2.length
     ·rw [deqDs_all _ _ hz]
      rw [show its.length = ds.length by omega, show its2.length = ds.length by omega, Nat.min_self, beq_self_eq_true, Bool.and_true] at this
      exact this
     ·rw [deqDs_len _ _ hz]
      rw [show (its.length == its2.length) = false from beq_eq_false_iff_ne.mpr (by omega), Bool.and_false] at this
      exact this
def rNeD (K : Fg_) : R2 := fun x y H Q => ∃ d1 d2, RepD K H x d1 /\ RepD K H y d2 /\ 1 <= depD d1 /\ depD d1 <= 20 /\ Q (.bl (!deqD d1 d2)) H
theorem op_neD {k : Nat} (hr : Room k X.A) : OpR X (compareOp .NotEq) (rNeD X.K) := by
 intro pins s σ H x y v u Q I rx ry h
 obtain ⟨d1, d2, h1, h2, hd1, hd, q⟩ := h
 have hr' := hr.units
 have hu' : X.A.units < cLine := by omega
 have hin : X.A.in1.units + 20 < cLine := by rw [in1_units]; omega
 have fin : ∀ b, SeqAt.RcNeAt X.A s v u b -> b = (!deqD d1 d2) -> wpAny (model X.prog X.w) X.A (compareOp .NotEq v u) (EP X pins σ Q) X.xe s := fun b hb e => by
  subst e
  exact hb X.prog X.w X.xe _ ⟨.bl _, H, I, rfl, q⟩
 cases h1 with
 | non => unfold depD at hd1; omega
 | bl a => unfold depD at hd1; omega
 | int a => unfold depD at hd1; omega
 | str a => unfold depD at hd1; omega
 | @lst a vs ds h hs =>
  obtain ⟨its, rv, p, _⟩ := I.list h
  cases (show v = Value.ref a from rx)
  have hd' : depDs ds <= 20 := by unfold depD at hd; omega
  cases h2 with
  | non => cases (show u = Value.none from ry); exact fin _ (SeqAt.RcNeAt.list_none p.isList hu') (by unfold deqD; rfl)
  | bl b => cases (show u = Value.bool b from ry); exact fin _ (SeqAt.RcNeAt.list_bool b p.isList hu') (by unfold deqD; rfl)
  | int i => obtain ⟨t, e⟩ := (show ∃ t, u = Value.int i t from ry); subst e; exact fin _ (SeqAt.RcNeAt.list_int i t p.isList hu') (by unfold deqD; rfl)
  | str z => obtain ⟨t, e⟩ := (show ∃ t, u = Value.str z t from ry); subst e; exact fin _ (SeqAt.RcNeAt.list_str z t p.isList hu') (by unfold deqD; rfl)
  | @tup a2 vs2 ds2 h' hs' =>
   obtain ⟨its2, rv2, p2, _⟩ := I.tuple h'
   cases (show u = Value.ref a2 from ry)
   exact fin _ (SeqAt.RcNeAt.list_tuple p.isList p2 hu') (by unfold deqD; rfl)
  | @lst a2 vs2 ds2 h' hs' =>
   obtain ⟨its2, rv2, p2, _⟩ := I.list h'
   cases (show u = Value.ref a2 from ry)
   have l1 := rv.length
   have l2 := rv2.length
   have m1 := hs.length
   have m2 := hs'.length
   by_cases hz : ds.length = ds2.length
   ·refine fin _ (SeqAt.RcNeAt.lists (A := X.A) (e := fun j => deqD (ds.getD j .non) (ds2.getD j .non)) p.isList p2.isList (by simp only [List.size_toArray]; omega) hu'
     (eqAt_items rv rv2 hs hs' fun d1 d2 v1 v2 u1 u2 hdd g1 g2 q1 q2 => eqAt_D I 20 X.A.in1 d1 d2 v1 v2 u1 u2 (by omega) hin g1 g2 q1 q2)) ?_
    rw [deqD_lst, deqDs_all _ _ hz, List.size_toArray, show its.length = ds.length by omega]
   ·refine fin _ (SeqAt.RcNeAt.lists_lengths p.isList p2.isList (by simp only [List.size_toArray, bne_iff_ne]; omega) hu') ?_
    unfold deqD
    rw [deqDs_len _ _ hz]
    all_goals rfl
 | @tup a vs ds h hs =>
  obtain ⟨its, rv, p, _⟩ := I.tuple h
  cases (show v = Value.ref a from rx)
  have hd' : depDs ds <= 20 := by unfold depD at hd; omega
  cases h2 with
  | non => cases (show u = Value.none from ry); exact fin _ (SeqAt.RcNeAt.tuple_none p hu') (by unfold deqD; rfl)
  | bl b => cases (show u = Value.bool b from ry); exact fin _ (SeqAt.RcNeAt.tuple_bool b p hu') (by unfold deqD; rfl)
  | int i => obtain ⟨t, e⟩ := (show ∃ t, u = Value.int i t from ry); subst e; exact fin _ (SeqAt.RcNeAt.tuple_int i t p hu') (by unfold deqD; rfl)
  | str z => obtain ⟨t, e⟩ := (show ∃ t, u = Value.str z t from ry); subst e; exact fin _ (SeqAt.RcNeAt.tuple_str z t p hu') (by unfold deqD; rfl)
  | @lst a2 vs2 ds2 h' hs' =>
   obtain ⟨its2, rv2, p2, _⟩ := I.list h'
   cases (show u = Value.ref a2 from ry)
   exact fin _ (SeqAt.RcNeAt.tuple_list p p2.isList hu') (by unfold deqD; rfl)
  | @tup a2 vs2 ds2 h' hs' =>
   obtain ⟨its2, rv2, p2, _⟩ := I.tuple h'
   cases (show u = Value.ref a2 from ry)
   have l1 := rv.length
   have l2 := rv2.length
   have m1 := hs.length
   have m2 := hs'.length
   refine fin _ (SeqAt.RcNeAt.tuples (A := X.A) (e := fun j => deqD (ds.getD j .non) (ds2.getD j .non)) p p2 hu'
     (eqAt_items rv rv2 hs hs' fun d1 d2 v1 v2 u1 u2 hdd g1 g2 q1 q2 => eqAt_D I 20 X.A.in1 d1 d2 v1 v2 u1 u2 (by omega) hin g1 g2 q1 q2)) ?_
   rw [deqD_tup]
   simp only [List.size_toArray]
   by_cases hz : ds.length = ds2.length
   ·rw [deqDs_all _ _ hz, show its.length = ds.length by omega, show its2.length = ds.length by omega, Nat.min_self, beq_self_eq_true, Bool.and_true]
   ·rw [deqDs_len _ _ hz, show (its.length == its2.length) = false from beq_eq_false_iff_ne.mpr (by omega), Bool.and_false]
theorem repsD_ints (K : Fg_) (H : Hp) : ∀ ns : List Int, RepsD K H (ns.map V.int) (ns.map DV.int)
 | [] => .nil
 | n :: r => .cons (.int n) (repsD_ints K H r)
theorem deqDs_ints : ∀ xs ys : List Int, deqDs (xs.map DV.int) (ys.map DV.int) = decide (xs = ys)
 | [], [] => by simp [deqDs]
 | [], _ :: _ => by simp [deqDs]
 | _ :: _, [] => by simp [deqDs]
 | x :: xs, y :: ys => by
  simp only [List.map_cons, deqDs, deqD, deqDs_ints xs ys]
  by_cases h : x = y <;> by_cases h2 : xs = ys <;> simp [h, h2]
theorem depDs_ints : ∀ xs : List Int, depDs (xs.map DV.int) = 0
 | [] => by simp [depDs]
 | x :: xs => by simp [depDs, depD, depDs_ints xs]
end
end L2
namespace L2
open PySem PySem.Spec PyProof.Rows
section
variable {X : Cx} {K : Fg_} {a b o e : Expr} {ta tb to te : TE} {pos : Pos} {tg : Expr}
theorem ix_listK (hK : X.K = K := by rfl) : IxR X (rIxL K) := hK ▸ ix_list
theorem ix_tupK (hK : X.K = K := by rfl) : IxR X (rIxT K) := hK ▸ ix_tup
theorem sl_listK (hK : X.K = K := by rfl) : SlR X (rSlL K) := hK ▸ sl_list
theorem op_inK (hK : X.K = K := by rfl) : OpR X (compareOp .In) (rIn K false) := hK ▸ op_in_seq
theorem op_notInK (hK : X.K = K := by rfl) : OpR X (compareOp .NotIn) (rIn K true) := hK ▸ op_notIn_seq
theorem op_neDK {k : Nat} (hr : Room k X.A) (hK : X.K = K := by rfl) : OpR X (compareOp .NotEq) (rNeD K) := hK ▸ op_neD hr
def rLen (K : Fg_) : List V -> Hp -> VK -> Prop := fun xs H Q => ∃ p ys, xs = [.ref p] /\ (SqL K H p ys \/ SqT K H p ys) /\ Q (.int ys.length) H
theorem call_lenK (hK : X.K = K := by rfl) : CallR X (.builtin "len") (rLen K) := hK ▸ call_len_seq
def rSum (K : Fg_) : List V -> Hp -> VK -> Prop := fun xs H Q => ∃ (a : Addr) (ns : List Int), xs = [.ref a] /\ SqL K H a (ns.map V.int) /\ Q (.int ns.sum) H
theorem call_sumK (hc : X.calm = true) (hK : X.K = K := by rfl) : CallR X (.builtin "sum") (rSum K) := hK ▸ call_sumI hc
def rAny (K : Fg_) : List V -> Hp -> VK -> Prop := fun xs H Q => ∃ (a : Addr) (bs : List Bool), xs = [.ref a] /\ SqL K H a (bs.map V.bl) /\ Q (.bl (bs.any id)) H
theorem call_anyK (hc : X.calm = true) (hK : X.K = K := by rfl) : CallR X (.builtin "any") (rAny K) := hK ▸ call_anyB hc
def rAll (K : Fg_) : List V -> Hp -> VK -> Prop := fun xs H Q => ∃ (a : Addr) (bs : List Bool), xs = [.ref a] /\ SqL K H a (bs.map V.bl) /\ Q (.bl (bs.all id)) H
theorem call_allK (hc : X.calm = true) (hK : X.K = K := by rfl) : CallR X (.builtin "all") (rAll K) := hK ▸ call_allB hc
def rListOf (K : Fg_) : List V -> Hp -> VK -> Prop := fun xs H Q => ∃ p ys, xs = [.ref p] /\ (SqL K H p ys \/ SqT K H p ys) /\ ∀ l, H l = none -> Q (.ref l) (upd H l (.lst ys))
theorem call_listK (hK : X.K = K := by rfl) : CallR X (.type "list") (rListOf K) := hK ▸ call_list_of
def rIsT (K : Fg_) : List V -> Hp -> VK -> Prop := fun xs H Q => ∃ x n t k, xs = [x, .ty n] /\ TyOf K H x t /\ PySem.W.kitOne K t (.type n) = some k /\ Q (.bl k) H
theorem call_isTK (hK : X.K = K := by rfl) : CallR X (.builtin "isinstance") (rIsT K) := hK ▸ call_isinstT
def rIsC (K : Fg_) : List V -> Hp -> VK -> Prop := fun xs H Q => ∃ x C t k, xs = [x, .ref C] /\ TyOf K H x t /\ PySem.W.kitOne K t (.ref C) = some k /\ Q (.bl k) H
theorem call_isCK (hK : X.K = K := by rfl) : CallR X (.builtin "isinstance") (rIsC K) := hK ▸ call_isinstC
def rMax : List V -> Hp -> VK -> Prop := fun xs H Q => ∃ i j, xs = [.int i, .int j] /\ Q (.int (if j > i then j else i)) H
theorem call_maxK (hc : X.calm = true) : CallR X (.builtin "max") rMax := call_max2 hc
def rMin : List V -> Hp -> VK -> Prop := fun xs H Q => ∃ i j, xs = [.int i, .int j] /\ Q (.int (if j < i then j else i)) H
theorem call_minK (hc : X.calm = true) : CallR X (.builtin "min") rMin := call_min2 hc
theorem pi_listK (hl : PE X o to) (hK : X.K = K := by rfl) : PI X tg o (iList K to) := hK ▸ pi_list hl
theorem pi_tupK (hl : PE X o to) (hK : X.K = K := by rfl) : PI X tg o (iTup K to) := hK ▸ pi_tup hl
theorem pg_tupK {es : List Expr} {k : Nat} {t : TGs} {n : Nat} (hc : X.calm = true) (h : PGs X es t) (hn : (assignEach es X.env).length = n := by rfl) (hst : (assignEach es X.env).findIdx? (·.1) = none := by rfl) (hK : X.K = K := by rfl) : PG X (.Tuple es k pos) (gTup K n t) := hK ▸ pg_tup hc h hn hst
theorem pe_fldK {f : Str} (he : PE X e ta) (hb : attributeBase e f X.env (eval e X.env) = eval e X.env) (hK : X.K = K := by rfl) : PE X (.Attribute e f pos) (tFld K ta f) := hK ▸ pe_fld he hb
theorem pe_bmK {T : String} {name : Str} {id : String} {r : V -> List V -> Hp -> VK -> Prop} {es : List Expr} {t : TA} {apos cpos : Pos} (pa : PlainAttrs T) (slot : Slot T name id) (hty : typeOf (.builtin id) = pure (.type "method_descriptor")) (hm : MtR X id r) (ho : PE X o to) (ha : PA X (e :: es) t)
  (hbase : attributeBase o name X.env (eval o X.env) = eval o X.env := by rfl)
  (hfew : ((backTo cpos (starEach (e :: es) X.env)).all (fun x => !x.1) && (backToKw cpos (keywordEach [] X.env)).all (fun x => x.1.isSome)
   && decide ((e :: es).length + ([] : List Keyword).length + (if ([] : List Keyword).isEmpty then 0 else 1) < 30)) = true := by rfl)
  (hline : (apos.endLine == cpos.line) = true := by rfl) (hs : starEach (e :: es) X.env = (false, eval e X.env) :: starEach es X.env := by rfl) (hplain : (backTo cpos (starEach es X.env)).any (·.1) = false := by rfl) (hK : X.K = K := by rfl) :
  PE X (.Call (.Attribute o name apos) (e :: es) [] cpos) (tBM K T r to t) := hK ▸ pe_bm pa slot hty hm ho ha hbase hfew hline hs hplain
theorem pe_bm0K {T : String} {name : Str} {id : String} {r : V -> List V -> Hp -> VK -> Prop} {apos cpos : Pos} (pa : PlainAttrs T) (slot : Slot T name id) (hty : typeOf (.builtin id) = pure (.type "method_descriptor")) (hm : MtR X id r) (ho : PE X o to)
  (hbase : attributeBase o name X.env (eval o X.env) = eval o X.env := by rfl) (hline : (apos.endLine == cpos.line) = true := by rfl) (hK : X.K = K := by rfl) : PE X (.Call (.Attribute o name apos) [] [] cpos) (tBM0 K T r to) := hK ▸ pe_bm0 pa slot hty hm ho hbase hline
end
section
variable {K : Fg_} {H : Hp} {Q : VK} {p : Addr} {x y : V}
theorem ap_noIf {σ : St} {QB : Bool -> Hp -> Prop} : tNoIf σ H QB = QB true H := rfl
theorem ap_rLen : rLen K [.ref p] H Q = ∃ ys, (SqL K H p ys \/ SqT K H p ys) /\ Q (.int (ys.length : Int)) H := by simp [rLen]
theorem ap_rSum : rSum K [.ref p] H Q = ∃ ns : List Int, SqL K H p (ns.map V.int) /\ Q (.int ns.sum) H := by simp [rSum]
theorem ap_rAny : rAny K [.ref p] H Q = ∃ bs : List Bool, SqL K H p (bs.map V.bl) /\ Q (.bl (bs.any id)) H := by simp [rAny]
theorem ap_rAll : rAll K [.ref p] H Q = ∃ bs : List Bool, SqL K H p (bs.map V.bl) /\ Q (.bl (bs.all id)) H := by simp [rAll]
theorem ap_rListOf : rListOf K [.ref p] H Q = ∃ ys, (SqL K H p ys \/ SqT K H p ys) /\ ∀ l, H l = none -> Q (.ref l) (upd H l (.lst ys)) := by simp [rListOf]
theorem ap_rIsT {n : String} : rIsT K [x, .ty n] H Q = ∃ t k, TyOf K H x t /\ PySem.W.kitOne K t (.type n) = some k /\ Q (.bl k) H := propext ⟨fun ⟨x', n', t, k, e, h⟩ => by
  injection e with e1 e2
  injection e2 with e2 _
  injection e2 with e2
  subst e1 e2
  exact ⟨t, k, h⟩, fun ⟨t, k, h⟩ => ⟨x, n, t, k, rfl, h⟩⟩
theorem ap_append : rAppend (.ref p) [y] H Q = ∃ xs, H p = some (.lst xs) /\ xs.length < sizeLine /\ Q .non (upd H p (.lst (xs ++ [y]))) := by simp [rAppend]
theorem ap_rCat {l b : Addr} : rCat (.ref l) (.ref b) H Q = ∃ xs zs, H l = some (.lst xs) /\ H b = some (.lst zs) /\ xs.length + zs.length <= sizeLine /\ ∀ p, H p = none -> Q (.ref p) (upd H p (.lst (xs ++ zs))) := by simp [rCat]
theorem ap_rMax {i j : Int} : rMax [.int i, .int j] H Q = Q (.int (if j > i then j else i)) H := propext ⟨fun ⟨i', j', e, h⟩ => by cases e; exact h, fun h => ⟨i, j, rfl, h⟩⟩
theorem ap_rMin {i j : Int} : rMin [.int i, .int j] H Q = Q (.int (if j < i then j else i)) H := propext ⟨fun ⟨i', j', e, h⟩ => by cases e; exact h, fun h => ⟨i, j, rfl, h⟩⟩
end
end L2
namespace L2
open PySem PySem.Spec PyProof.Rows
section
variable {K : Fg_} {a : Addr} {xs : List V} {g : TG} {tb : TS} {D : Ends} {σ : St} {H : Hp} {wi : TI} {cap : List (Option Nat)} {tt : TT} {te tl : TE} {Q : VK} {ta : TA} {R : It -> Hp -> Prop}
def ForP (J : It) (g : TG) (tb : TS) (D : Ends) (σ : St) (H1 : Hp) : Prop := ∃ W : Nat -> Nat -> St -> Hp -> Prop, (∃ m, W 0 m σ H1) /\ ∀ i m σ H, W i m σ H ->
 (J.stop i H /\ D.nx σ H) \/ (J.go i H /\ ∃ N : St -> Hp -> Prop, (∀ σ' H', N σ' H' -> ∃ m', m' < m /\ W (i + 1) m' σ' H') /\ ∀ x H', J.yld i H x H' -> g x σ H' fun σ2 H2 => tb { D with nx := N, ct := N, bk := D.nx } σ2 H2)
theorem ap_for : tFor wi g tb D σ H = wi σ H fun J H1 => ForP J g tb D σ H1 := rfl
theorem ForP.list (Pv : Nat -> St -> Hp -> Prop) (h0 : Pv 0 σ H) (hl : ∀ i σ H, i <= xs.length -> Pv i σ H -> SqL K H a xs)
  (hs : ∀ i x σ H, xs[i]? = some x -> Pv i σ H -> g x σ H fun σ2 H2 => tb { D with nx := Pv (i + 1), ct := Pv (i + 1), bk := D.nx } σ2 H2) (hd : ∀ σ H, Pv xs.length σ H -> D.nx σ H) : ForP (Itl K a) g tb D σ H := for_list Pv h0 hl hs hd
theorem ForP.range {lo : Int} {n : Nat} (Pv : Nat -> St -> Hp -> Prop) (h0 : Pv 0 σ H)
  (hs : ∀ i σ H, i < n -> Pv i σ H -> g (.int (lo + i)) σ H fun σ2 H2 => tb { D with nx := Pv (i + 1), ct := Pv (i + 1), bk := D.nx } σ2 H2) (hd : ∀ σ H, Pv n σ H -> D.nx σ H) : ForP (Itr lo n) g tb D σ H := for_range Pv h0 hs hd
theorem ap_iList : iList K tl σ H R = tl σ H fun x H1 => ∃ a, x = .ref a /\ (∃ xs, SqL K H1 a xs) /\ R (Itl K a) H1 := rfl
theorem ap_iTup : iTup K tl σ H R = tl σ H fun x H1 => ∃ a, x = .ref a /\ (∃ xs, SqT K H1 a xs) /\ R (Itt K a) H1 := rfl
theorem ap_iRng1 : iRng1 ta σ H R = ta σ H fun vs H1 => ∃ j : Int, vs = [.int j] /\ -(2 ^ 62) <= j /\ j < 2 ^ 62 /\ R (Itr 0 j.toNat) H1 := rfl
def CompP (cap : List (Option Nat)) (J : It) (g : TG) (tt : TT) (te : TE) (σ : St) (H1 : Hp) (Q : VK) : Prop := ∀ D, H1 D = Option.none ->
 ∃ W : Nat -> Nat -> List V -> St -> Hp -> Prop, (∃ m, W 0 m [] (capSt σ cap) (upd H1 D (.lst []))) /\ ∀ i m acc σ1 H2, W i m acc σ1 H2 -> H2 D = some (.lst acc) ->
  (J.stop i H2 /\ Q (.ref D) H2) \/ (J.go i H2 /\ ∀ x H3, J.yld i H2 x H3 -> g x σ1 H3 fun σ4 H4 => tt σ4 H4 fun b H5 =>
   if b = true then te σ4 H5 fun v H6 => ∃ acc', H6 D = some (.lst acc') /\ acc'.length < sizeLine /\ ∃ m', m' < m /\ W (i + 1) m' (acc' ++ [v]) σ4 (upd H6 D (.lst (acc' ++ [v])))
   else ∃ m', m' < m /\ ∃ acc', H5 D = some (.lst acc') /\ W (i + 1) m' acc' σ4 H5)
theorem ap_comp : tComp cap wi g tt te σ H Q = wi σ H fun J H1 => CompP cap J g tt te σ H1 Q := rfl
theorem CompP.list (Sσ : St -> Prop) (p : V -> Bool) (F : V -> V) (hS : SqL K H a xs) (h0 : Sσ (capSt σ cap)) (hz : xs.length <= sizeLine)
  (hs : ∀ x ∈ xs, ∀ (σ : St) (H5 : Hp) (R1 : St -> VK) (R2 : St -> Hp -> Prop), Sσ σ -> Same H H5 -> (p x = true -> ∀ σ4 H6, Sσ σ4 -> Same H5 H6 -> R1 σ4 (F x) H6) -> (p x = false -> ∀ σ4 H6, Sσ σ4 -> Same H5 H6 -> R2 σ4 H6) ->
   g x σ H5 fun σ4 H4 => tt σ4 H4 fun b H5 => if b = true then te σ4 H5 (R1 σ4) else R2 σ4 H5)
  (k : ∀ D H', H D = Option.none -> Same H H' -> H' D = some (.lst ((xs.filter p).map F)) -> Q (.ref D) H') : CompP cap (Itl K a) g tt te σ H Q :=
 fun D hD => comp_list Sσ p F hS hD h0 hz hs fun H' s e => k D H' hD s e
theorem CompP.range {lo : Int} {n : Nat} (Sσ : St -> Prop) (p : V -> Bool) (F : V -> V) (h0 : Sσ (capSt σ cap)) (hz : n <= sizeLine)
  (hs : ∀ i : Nat, i < n -> ∀ (σ : St) (H5 : Hp) (R1 : St -> VK) (R2 : St -> Hp -> Prop), Sσ σ -> Same H H5 -> (p (.int (lo + i)) = true -> ∀ σ4 H6, Sσ σ4 -> Same H5 H6 -> R1 σ4 (F (.int (lo + i))) H6) -> (p (.int (lo + i)) = false -> ∀ σ4 H6, Sσ σ4 -> Same H5 H6 -> R2 σ4 H6) ->
   g (.int (lo + i)) σ H5 fun σ4 H4 => tt σ4 H4 fun b H5 => if b = true then te σ4 H5 (R1 σ4) else R2 σ4 H5)
  (k : ∀ D H', H D = Option.none -> Same H H' -> H' D = some (.lst ((((List.range n).map fun (i : Nat) => V.int (lo + i)).filter p).map F)) -> Q (.ref D) H') : CompP cap (Itr lo n) g tt te σ H Q :=
 fun D hD => comp_range Sσ p F hD h0 hz hs fun H' s e => k D H' hD s e
end
end L2
namespace L2
open PySem PySem.Spec PyProof.Rows
structure LeE (D D' : Ends) : Prop where
 nx : ∀ σ H, D.nx σ H -> D'.nx σ H
 rt : ∀ v H, D.rt v H -> D'.rt v H
 bk : ∀ σ H, D.bk σ H -> D'.bk σ H
 ct : ∀ σ H, D.ct σ H -> D'.ct σ H
end L2
namespace L2
open PySem PySem.Spec PyProof.Rows
section
variable {X : Cx} {pins : List (Addr × Obj)} {σ : St} {H : Hp} {s : Shared} {h' : Heap}
theorem Inv.turnedN {t' : Nat} {fp : List Addr} (I : Inv X pins σ H s) (hf : ∀ b ∈ fp, FpOk X pins H b) (k : ∀ b o, b ∉ fp -> s.heap.get? b = some o -> h'.get? b = some o) : Inv X pins σ H { s with heap := h', toks := t' } := by
 have nit : ∀ b u, H b = some u -> b ∉ fp := fun b u e z => by rw [(hf b z).1] at e; cases e
 refine I.step (g' := s.gens) (d' := s.drawn) (ch := fp) (fun b hb => ⟨(hf b hb).2.2.2.1, (hf b hb).2.1, (hf b hb).2.2.2.2.1, (hf b hb).2.2.2.2.2⟩) (fun b o _ _ hc e _ => k b o hc e) (fun b o _ _ hc e _ => ⟨o.slots, k b o hc e⟩) (fun _ _ _ _ n => n)
  (fun b o hc e => ⟨o, k b o hc e⟩) (fun _ _ e => e) (fun _ _ _ e => e) (fun b ps e => ⟨#[], by rw [e]; simp⟩) (fun m hm => ?_) (fun b u e => ?_) I.bare
 ·obtain ⟨o, es, ep, ho, r⟩ := hm
  exact ⟨o, es, ep, k _ o (fun z => (hf _ z).2.1 rfl) ho, r⟩
 ·refine (I.hok b u e).stay (fun c v hc q => k c v ?_ q) (fun _ q => q) fun _ _ q => q
  rcases hc with z | z
  ·rw [z]; exact nit b u e
  ·exact nit c _ z
theorem Inv.turnedT {t' : Nat} {fp : List Addr} {T : Addr} {o : HO} (I : Inv X pins σ H s) (hf : ∀ b ∈ fp, FpOk X pins H b) (hT : s.heap.objs.size <= T) (k : ∀ b o, b ∉ fp -> s.heap.get? b = some o -> h'.get? b = some o)
  (new : ObjOk X.prog X.w (upd H T o) h' T o) : Inv X pins σ (upd H T o) { s with heap := h', toks := t' } := by
 have nit : ∀ b u, H b = some u -> b ∉ fp := fun b u e z => by rw [(hf b z).1] at e; cases e
 have hn : H T = none := I.hok.fresh hT
 refine I.step (g' := s.gens) (d' := s.drawn) (ch := fp) (fun b hb => ⟨(hf b hb).2.2.2.1, (hf b hb).2.1, (hf b hb).2.2.2.2.1, (hf b hb).2.2.2.2.2⟩) (fun b o _ _ hc e _ => k b o hc e) (fun b o _ _ hc e _ => ⟨o.slots, k b o hc e⟩)
  (fun b o _ e n => by rw [upd_ne (Nat.ne_of_lt (Nat.lt_of_lt_of_le (Heap.lt_size e) hT))]; exact n)
  (fun b o hc e => ⟨o, k b o hc e⟩) (fun b xs e => by rw [upd_ne (ne_of_none e hn)]; exact e) (fun b o xs e => by rw [upd_ne (ne_of_none e hn)]; exact e) (fun b ps e => ⟨#[], by rw [upd_ne (ne_of_none e hn), e]; simp⟩) (fun m hm => ?_) (fun b u e => ?_) I.bare
 ·obtain ⟨o, es, ep, ho, r⟩ := hm
  exact ⟨o, es, ep, k _ o (fun z => (hf _ z).2.1 rfl) ho, r⟩
 ·by_cases hb : b = T
  ·subst hb; rw [upd_same] at e; cases e; exact new
  ·rw [upd_ne hb] at e
   refine (I.hok b u e).stay (fun c v hc q => k c v ?_ q) (fun c q => by rw [upd_ne (ne_of_none q hn)]; exact q) fun c xs q => by rw [upd_ne (ne_of_none q hn)]; exact q
   rcases hc with z | z
   ·rw [z]; exact nit b u e
   ·exact nit c _ z
end
theorem ne_cls {h : Heap} {a b : Addr} {oa ob : Obj} {ca cb : Value} (ha : h.get? a = some oa) (hb : h.get? b = some ob) (ea : oa.cls = ca) (eb : ob.cls = cb) (hc : ca ≠ cb) : a ≠ b := by
 intro e; subst e; rw [ha] at hb; cases hb; exact hc (ea.symm.trans eb)
def Itz (K : Fg_) (a b : Addr) : It :=
 ⟨fun i H => ∃ xs ys x y, SqL K H a xs /\ SqL K H b ys /\ xs[i]? = some x /\ ys[i]? = some y,
   fun i H v H' => ∃ p x y, H p = none /\ v = .ref p /\ H' = upd H p (.tup [x, y]) /\ (∀ xs, SqL K H a xs -> xs[i]? = some x) /\ ∀ ys, SqL K H b ys -> ys[i]? = some y,
   fun i H => ∃ xs ys, SqL K H a xs /\ SqL K H b ys /\ (xs.length <= i \/ ys.length <= i)⟩
theorem zipApart_of {h : Heap} {z TI TO i1 i2 a b : Addr} {f0 u v : Value} {xs ys : Array Value} {j1 j2 : Nat} (hTT : TI ≠ TO) (h12 : i1 ≠ i2) (hz : IsZip h z TI TO f0) (hTI : IsPair h TI (.ref i1) (.ref i2)) (hTO : IsPair h TO u v)
  (h1 : h.IsListIter i1 a j1) (h2 : h.IsListIter i2 b j2) (p1 : h.IsList a xs) (p2 : h.IsList b ys) : ZipApart z TI TO i1 i2 a b := by
 obtain ⟨o1, e1, c1, _⟩ := h1
 obtain ⟨o2, e2, c2, _⟩ := h2
 obtain ⟨l1, f1, d1, _⟩ := p1
 obtain ⟨l2, f2, d2, _⟩ := p2
 exact ⟨ne_cls hTI hz rfl rfl (by simp), ne_cls hTO hz rfl rfl (by simp), ne_cls e1 hz c1 rfl (by simp), ne_cls e2 hz c2 rfl (by simp), hTT, ne_cls hTI e1 rfl c1 (by simp), ne_cls hTI e2 rfl c2 (by simp), ne_cls hTO e1 rfl c1 (by simp), ne_cls hTO e2 rfl c2 (by simp), h12,
  ne_cls f1 hz d1 rfl (by simp), ne_cls f1 hTO d1 rfl (by simp), ne_cls f1 e1 d1 c1 (by simp), ne_cls f1 e2 d1 c2 (by simp), ne_cls f2 hz d2 rfl (by simp), ne_cls f2 hTO d2 rfl (by simp), ne_cls f2 e1 d2 c1 (by simp), ne_cls f2 e2 d2 c2 (by simp)⟩
theorem turn_zip {P : Program} {w : World} {K : Fg_} {elts : List Expr} {x1 : Nat} {pos : Pos} (a b z TI TO i1 i2 : Addr) (hTT : TI ≠ TO) (h12 : i1 ≠ i2) :
  Turn P w K (.Tuple elts x1 pos) (Itz K a b) [z, TI, TO, i1, i2] z (fun i h => IsZip h z TI TO .none /\ IsPair h TI (.ref i1) (.ref i2) /\ (∃ u v, IsPair h TO u v) /\ h.IsListIter i1 a i /\ h.IsListIter i2 b i) where
 mem := by simp
 obj := fun i h st c hb => by
  obtain ⟨hz, hTI, ⟨u, v, hTO⟩, ⟨o1, e1, c1, d1⟩, ⟨o2, e2, c2, d2⟩⟩ := st
  simp only [List.mem_cons, List.not_mem_nil, or_false] at hb
  rcases hb with rfl | rfl | rfl | rfl | rfl
  ·exact ⟨_, hz, fun v z => by cases z⟩
  ·exact ⟨_, hTI, fun v z => by cases z⟩
  ·exact ⟨_, hTO, fun v z => by cases z⟩
  ·exact ⟨_, e1, fun v z => by rw [d1] at z; cases z⟩
  ·exact ⟨_, e2, fun v z => by rw [d2] at z; cases z⟩
 keep := fun i h h' st k => by
  obtain ⟨hz, hTI, ⟨u, v, hTO⟩, h1, h2⟩ := st
  exact ⟨k _ (by simp) _ hz, k _ (by simp) _ hTI, ⟨u, v, k _ (by simp) _ hTO⟩, h1.at fun o e => k _ (by simp) o e, h2.at fun o e => k _ (by simp) o e⟩
 item := by
  intro X hP hw hK hc i pins s σ H E I hf st hg
  subst hP hw hK
  obtain ⟨xs, ys, x, y, hq1, hq2, hx, hy⟩ := hg
  obtain ⟨its1, rv1, p1, _⟩ := I.list hq1
  obtain ⟨its2, rv2, p2, _⟩ := I.list hq2
  obtain ⟨u1, hu1, ru1⟩ := rv1.get hx
  obtain ⟨u2, hu2, ru2⟩ := rv2.get hy
  obtain ⟨hz, hTI, ⟨ua, ub, hTO⟩, h1, h2⟩ := st
  have D := zipApart_of hTT h12 hz hTI hTO h1 h2 p1.isList p2.isList
  refine wpAny_pyNext_zip_item D hz hTI hTO h1 h2 p1.isList p2.isList (x := u1) (y := u2) (by simpa using hu1) (by simpa using hu2) fun h' a1 a2 a3 a4 a5 a6 a7 => ?_
  refine ⟨_, rfl, wpAny_letOwnedTupleGo_zip (s := { s with heap := h' }) a1 fun h'' b1 b2 => ?_⟩
  have nz : s.heap.objs.size ≠ z := Nat.ne_of_gt (Heap.lt_size hz)
  have k : ∀ c o, c ∉ [z, TI, TO, i1, i2] -> s.heap.get? c = some o -> h''.get? c = some o := fun c o hc e => by
   simp only [List.mem_cons, List.not_mem_nil, or_false, not_or] at hc
   exact (b2.2 c hc.1).trans (a7 c o hc.1 hc.2.2.1 hc.2.2.2.1 hc.2.2.2.2 e)
  have hTup : h''.get? s.heap.objs.size = some { cls := .type "tuple", data := .seq #[u1, u2] } := (b2.2 _ nz).trans a5
  refine ⟨.ref s.heap.objs.size, upd H s.heap.objs.size (.tup [x, y]), I.turnedT (t' := s.toks) hf (Nat.le_refl _) k ⟨by rw [sizeLine_eq]; simp, [u1, u2], .cons ru1 (.cons ru2 .nil), _, hTup, rfl, _, rfl⟩, rfl,
   ⟨_, x, y, I.hok.fresh (Nat.le_refl _), rfl, rfl, fun xs' q => by rw [I.list_inj q hq1]; exact hx, fun ys' q => by rw [I.list_inj q hq2]; exact hy⟩, ?_, fun c hb => ?_⟩
  ·exact ⟨b1, (b2.2 _ D.TIz).trans (a7 _ _ D.TIz D.TITO D.TIi1 D.TIi2 hTI), ⟨_, _, (b2.2 _ D.TOz).trans a2⟩, a3.at fun o e => (b2.2 _ D.i1z).trans e, a4.at fun o e => (b2.2 _ D.i2z).trans e⟩
  ·obtain ⟨o, e⟩ : ∃ o, s.heap.get? c = some o := by
    simp only [List.mem_cons, List.not_mem_nil, or_false] at hb
    rcases hb with rfl | rfl | rfl | rfl | rfl
    ·exact ⟨_, hz⟩
    ·exact ⟨_, hTI⟩
    ·exact ⟨_, hTO⟩
    ·obtain ⟨o, e, _⟩ := h1; exact ⟨o, e⟩
    ·obtain ⟨o, e, _⟩ := h2; exact ⟨o, e⟩
   rw [upd_ne (Nat.ne_of_lt (Heap.lt_size e))]
   exact (hf c hb).1
 done := by
  intro X hP hw hK hc i pins s σ H E I hf st hg
  subst hP hw hK
  obtain ⟨xs, ys, hq1, hq2, hx⟩ := hg
  obtain ⟨its1, rv1, p1, _⟩ := I.list hq1
  obtain ⟨its2, rv2, p2, _⟩ := I.list hq2
  obtain ⟨hz, hTI, ⟨ua, ub, hTO⟩, h1, h2⟩ := st
  have D := zipApart_of hTT h12 hz hTI hTO h1 h2 p1.isList p2.isList
  have l1 := rv1.length
  have l2 := rv2.length
  refine wpAny_pyNext_zip_end (I.ok.hd hc) D hz hTI hTO h1 h2 p1.isList p2.isList (hx.elim (fun h => .inl (by simp; omega)) fun h => .inr (by simp; omega)) fun h' k => ⟨rfl, I.turnedN (t' := s.toks) hf fun c o hc e => ?_⟩
  simp only [List.mem_cons, List.not_mem_nil, or_false, not_or] at hc
  exact k c o hc.1 hc.2.2.1 hc.2.2.2.1 hc.2.2.2.2 e
 self := fun _ _ _ _ _ st h => wpAny_pyIter_zip st.1 h
section
variable {X : Cx} {K : Fg_} {ta : TA} {elts : List Expr} {x1 : Nat} {tpos : Pos}
def iZip (K : Fg_) (ta : TA) : TI := fun σ H R => ta σ H fun vs H1 => ∃ a b, vs = [.ref a, .ref b] /\ (∃ xs, SqL K H1 a xs) /\ (∃ ys, SqL K H1 b ys) /\ R (Itz K a b) H1
theorem pi_zip {a b : Expr} {p pos : Pos} (hg : Gl X "zip") (hm : X.mg "zip" = none) (ha : PA X [a, b] ta) (hs : starEach [a, b] X.env = [(false, eval a X.env), (false, eval b X.env)] := by rfl) (hs2 : starEach [b] X.env = [(false, eval b X.env)] := by rfl) (hK : X.K = K := by rfl) :
  PI X (.Tuple elts x1 tpos) (.Call (.Name "zip" p) [a, b] [] pos) (iZip K ta) := by
 subst hK
 intro pins s σ H R I h
 refine Call_ (ld_blt I hg hm (by decide +kernel) (PyProof.Rows.callWith_type1 (T := "zip") (thn (ha pos pins s σ H _ I h) fun us s1 ⟨vs, H1, I1, r1, q1⟩ => ?_) (by rw [hs, hs2]) (by rw [hs2]; rfl)))
 obtain ⟨l1, l2, e, ⟨xs, hx⟩, ⟨ys, hy⟩, q⟩ := q1
 subst e
 obtain ⟨u, v, rfl, ru, rv⟩ := vals2 r1
 cases ru
 cases rv
 obtain ⟨its1, _, p1, _⟩ := I1.list hx
 obtain ⟨its2, _, p2, _⟩ := I1.list hy
 refine call_zip_2 p1.isList p2.isList fun h' g1 g2 g3 g4 g5 g6 k => ?_
 have I2 : Inv X pins σ H1 { s1 with heap := h' } := I1.kept (t' := s1.toks) k
 refine wpAny_pyIter_zip (s := { s1 with heap := h' }) g1 ⟨_, [s1.heap.objs.size + 4, s1.heap.objs.size + 2, s1.heap.objs.size + 3, s1.heap.objs.size, s1.heap.objs.size + 1], _, _, H1, rfl, I2, turn_zip l1 l2 _ _ _ _ _ (show ((s1.heap.objs.size : Nat) + 2 ≠ s1.heap.objs.size + 3) by omega) (show ((s1.heap.objs.size : Nat) ≠ s1.heap.objs.size + 1) by omega), ⟨g1, g2, ⟨_, _, g3⟩, g4, g5⟩, fun c hc => ?_, q⟩
 have hc' : s1.heap.objs.size <= c := by
  simp only [List.mem_cons, List.not_mem_nil, or_false] at hc
  have hc2 : ∃ k : Nat, c = s1.heap.objs.size + k := by
   rcases hc with rfl | rfl | rfl | rfl | rfl
   ·exact ⟨4, rfl⟩
   ·exact ⟨2, rfl⟩
   ·exact ⟨3, rfl⟩
   ·exact ⟨0, rfl⟩
   ·exact ⟨1, rfl⟩
  obtain ⟨k, rfl⟩ := hc2
  exact Nat.le_add_right _ k
 exact I1.fpOk hc' (I1.hok.fresh hc')
variable {σ : St} {H : Hp} {R : It -> Hp -> Prop} {g : TG} {tb : TS} {D : Ends} {a b : Addr} {xs ys : List V}
theorem ap_iZip : iZip K ta σ H R = ta σ H fun vs H1 => ∃ a b, vs = [.ref a, .ref b] /\ (∃ xs, SqL K H1 a xs) /\ (∃ ys, SqL K H1 b ys) /\ R (Itz K a b) H1 := rfl
theorem ForP.zip (Pv : Nat -> St -> Hp -> Prop) (hlen : xs.length = ys.length) (h0 : Pv 0 σ H) (hl : ∀ i σ H, i <= xs.length -> Pv i σ H -> SqL K H a xs /\ SqL K H b ys)
  (hs : ∀ i x y σ H p, xs[i]? = some x -> ys[i]? = some y -> Pv i σ H -> H p = none -> g (.ref p) σ (upd H p (.tup [x, y])) fun σ2 H2 => tb { D with nx := Pv (i + 1), ct := Pv (i + 1), bk := D.nx } σ2 H2) (hd : ∀ σ H, Pv xs.length σ H -> D.nx σ H) : ForP (Itz K a b) g tb D σ H := by
 refine ⟨fun i m σ H => m = xs.length - i /\ i <= xs.length /\ Pv i σ H, ⟨xs.length, by simp, Nat.zero_le _, h0⟩, ?_⟩
 rintro i m σ H ⟨rfl, hi, p⟩
 obtain ⟨q1, q2⟩ := hl i σ H hi p
 by_cases hlt : i < xs.length
 ·refine .inr ⟨⟨xs, ys, xs[i], ys[i], q1, q2, by simp [hlt], by simp [hlen ▸ hlt]⟩, Pv (i + 1), fun σ' H' p' => ⟨xs.length - (i + 1), by omega, rfl, hlt, p'⟩, fun v H' y => ?_⟩
  obtain ⟨pp, x, y, hp, rfl, rfl, e1, e2⟩ := y
  exact hs i x y σ _ pp (e1 xs q1) (e2 ys q2) p hp
 ·have e : i = xs.length := by omega
  subst e
  exact .inl ⟨⟨xs, ys, q1, q2, .inl (Nat.le_refl _)⟩, hd σ H p⟩
end
end L2
namespace L2
open PySem PySem.Spec PyProof.Rows
def DK (h h' : Heap) : Prop := ∀ b o, h.get? b = some o -> ∃ o', h'.get? b = some o' /\ o'.dict = o.dict
theorem DK.trans {h h1 h2 : Heap} (a : DK h h1) (b : DK h1 h2) : DK h h2 := fun c o e => by
 obtain ⟨o1, e1, d1⟩ := a c o e
 obtain ⟨o2, e2, d2⟩ := b c o1 e1
 exact ⟨o2, e2, d2.trans d1⟩
structure KD {α : Type} (t : Sem α) : Prop where
 out : ∀ (M : Model) (Γ : PySem.Ctx) (P : α -> Pos -> Shared -> Prop) (E : Value -> Pos -> Shared -> Prop) (p : Pos) (s : Shared), Sem.wp M Γ t P E p s -> Sem.wp M Γ t (fun a p' s' => P a p' s' /\ DK s.heap s'.heap) E p s
end L2
namespace L2
open PySem PySem.Spec PyProof.Rows
structure XCls (K : Fg_) (C : Addr) : Prop where
 ex : PySem.W.excIn K C [.type "ValueError", .type "Exception", .type "BaseException", .type "object"] "ValueError.__new__" = true
end L2
namespace L2
open PySem PySem.Spec PyProof.Rows
section
variable {prog : Program} {w : World} {A : Around} {E : Value -> Shared -> Prop} {h : Heap} {g : Array GenState} {d : Drawn} {t : Nat} {os : OsState} {a : Addr} {o : Obj}
 {nm q : Str} {C N : Addr} {bs bm : List Value} {hdct : Bool} {sn : List Str} {sub : List Value} {ab : Bool} {col : Option Bool} {dd : Option Addr} {k0 k1 k2 k3 k5 : Option Value} {newId : String} {K : Fg_}
structure XAsk (K : Fg_) (C : Addr) : Prop where
 cl : PySem.W.findIn K (.ref C) "__class__" = some (some (.builtin "object.__class__"))
 ga : PySem.W.findIn K (.ref C) "__getattribute__" = some (some (.builtin "BaseException.__getattribute__"))
 gh : PySem.W.findIn K (.ref C) "__getattr__" = some none
end
end L2
namespace L2
open PySem PySem.Spec PyProof.Rows
abbrev TX := St -> Hp -> VK -> XK -> Prop
end L2
namespace L2
open PySem PySem.Spec PyProof.Rows
section
variable {κ : Type} [DecidableEq κ]
def valV (kvs : List (κ × V)) (k : κ) : Option V := (kvs.find? fun kv => decide (kv.1 = k)).map (·.2)
def putK (kvs : List (κ × V)) (k : κ) (v : V) : List (κ × V) :=
 if (kvs.any fun kv => decide (kv.1 = k)) = true then kvs.map (fun kv => if kv.1 = k then (kv.1, v) else kv) else kvs ++ [(k, v)]
theorem valV_pos {p : κ × V} {r : List (κ × V)} {k : κ} (e : p.1 = k) : valV (p :: r) k = some p.2 := by simp [valV, List.find?_cons, e]
theorem valV_neg {p : κ × V} {r : List (κ × V)} {k : κ} (e : ¬ p.1 = k) : valV (p :: r) k = valV r k := by simp [valV, List.find?_cons, e]
theorem valV_any (k : κ) : ∀ kvs : List (κ × V), (kvs.any fun kv => decide (kv.1 = k)) = (valV kvs k).isSome
 | [] => rfl
 | p :: r => by
  rw [List.any_cons]
  by_cases e : p.1 = k
  ·simp only [valV_pos e, decide_eq_true e, Bool.true_or, Option.isSome_some]
  ·rw [valV_neg e, decide_eq_false e, Bool.false_or]; exact valV_any k r
theorem valV_map (k j : κ) (y : V) : ∀ kvs : List (κ × V), valV (kvs.map fun kv => if kv.1 = k then (kv.1, y) else kv) j = (valV kvs j).map fun x => if j = k then y else x
 | [] => rfl
 | p :: r => by
  have ih := valV_map k j y r
  rw [List.map_cons]
  by_cases h : p.1 = k
  ·rw [if_pos h]
   by_cases e : p.1 = j
   ·rw [valV_pos (p := (p.1, y)) e, valV_pos e, Option.map_some, if_pos (e.symm.trans h)]
   ·rw [valV_neg (p := (p.1, y)) e, valV_neg e, ih]
  ·rw [if_neg h]
   by_cases e : p.1 = j
   ·rw [valV_pos (p := p) e, valV_pos e, Option.map_some, if_neg (fun z => h (e.trans z))]
   ·rw [valV_neg (p := p) e, valV_neg e, ih]
theorem valV_snoc (k j : κ) (y : V) : ∀ kvs : List (κ × V), valV kvs k = none -> valV (kvs ++ [(k, y)]) j = if j = k then some y else valV kvs j
 | [], _ => by
  by_cases e : k = j
  ·rw [if_pos e.symm]; exact valV_pos (p := (k, y)) e
  ·rw [if_neg (fun z => e z.symm)]; exact valV_neg (p := (k, y)) e
 | p :: r, hn => by
  rw [List.cons_append]
  have hk : ¬ p.1 = k := fun z => by rw [valV_pos z] at hn; cases hn
  rw [valV_neg hk] at hn
  have ih := valV_snoc k j y r hn
  by_cases e : p.1 = j
  ·rw [valV_pos e, valV_pos e, if_neg (fun z => hk (e.trans z))]
  ·rw [valV_neg e, valV_neg e, ih]
theorem valV_put (kvs : List (κ × V)) (k j : κ) (y : V) : valV (putK kvs k y) j = if j = k then some y else valV kvs j := by
 unfold putK
 by_cases a : (kvs.any fun kv => decide (kv.1 = k)) = true
 ·rw [if_pos a, valV_map]
  rw [valV_any] at a
  by_cases e : j = k
  ·obtain ⟨x, hx⟩ := Option.isSome_iff_exists.mp a
   rw [if_pos e, e, hx, Option.map_some, if_pos rfl]
  ·rw [if_neg e]
   cases valV kvs j with
   | none => rfl
   | some x => rw [Option.map_some, if_neg e]
 ·rw [if_neg a]
  refine valV_snoc k j y kvs ?_
  rw [valV_any] at a
  cases q : valV kvs k with
  | none => rfl
  | some x => rw [q] at a; exact (a rfl).elim
theorem length_putK (kvs : List (κ × V)) (k : κ) (v : V) : (putK kvs k v).length <= kvs.length + 1 := by
 unfold putK
 split
 ·rw [List.length_map]; omega
 ·rw [List.length_append, List.length_cons, List.length_nil]; omega
theorem putK_new {kvs : List (κ × V)} {k : κ} (v : V) (h : valV kvs k = none) : putK kvs k v = kvs ++ [(k, v)] := by
 unfold putK
 rw [valV_any, h]
 exact if_neg (by decide)
theorem RelO.isSome_eq {o : Option V} {u : Option Value} (r : RelO o u) : o.isSome = u.isSome := by
 cases o with
 | none => cases u with
  | none => rfl
  | some _ => exact (show False from r).elim
 | some _ => cases u with
  | none => exact (show False from r).elim
  | some _ => rfl
theorem RelO.getD {o : Option V} {u : Option Value} {d : V} {d' : Value} (r : RelO o u) (rd : RelV d d') : RelV (o.getD d) (u.getD d') := by
 cases o with
 | none => cases u with
  | none => exact rd
  | some _ => exact (show False from r).elim
 | some _ => cases u with
  | none => exact (show False from r).elim
  | some _ => exact r
theorem KV.val {kvs : List (κ × V)} {vs : List (κ × Value)} (r : KV kvs vs) (k : κ) : RelO (valV kvs k) (valueAt vs k) := by
 unfold KV at r
 induction r with
 | nil => exact True.intro
 | @cons p q ps qs h t ih =>
  obtain ⟨h1, h2⟩ := h
  by_cases e : p.1 = k
  ·have e' : q.1 = k := h1.symm.trans e
   have b : valueAt (q :: qs) k = some q.2 := by simp [valueAt, List.find?_cons, e']
   rw [valV_pos e, b]; exact h2
  ·have e' : ¬ q.1 = k := fun z => e (h1.trans z)
   have b : valueAt (q :: qs) k = valueAt qs k := by simp [valueAt, List.find?_cons, e']
   rw [valV_neg e, b]; exact ih
theorem KV.any {kvs : List (κ × V)} {vs : List (κ × Value)} (r : KV kvs vs) (k : κ) : (kvs.any fun kv => decide (kv.1 = k)) = vs.any fun kv => decide (kv.1 = k) := by
 unfold KV at r
 induction r with
 | nil => rfl
 | cons h t ih => rw [List.any_cons, List.any_cons, ih, h.1]
theorem KV.repl {kvs : List (κ × V)} {vs : List (κ × Value)} (r : KV kvs vs) (k : κ) {y : V} {u : Value} (ry : RelV y u) :
  KV (kvs.map fun kv => if kv.1 = k then (kv.1, y) else kv) (vs.map fun kv => if kv.1 = k then (kv.1, u) else kv) := by
 unfold KV at r ⊢
 induction r with
 | nil => exact .nil
 | @cons p q ps qs h t ih =>
  rw [List.map_cons, List.map_cons]
  refine .cons ?_ ih
  obtain ⟨h1, h2⟩ := h
  by_cases e : p.1 = k
  ·rw [if_pos e, if_pos (h1.symm.trans e)]; exact ⟨h1, ry⟩
  ·rw [if_neg e, if_neg (fun z => e (h1.trans z))]; exact ⟨h1, h2⟩
theorem KV.put {kvs : List (κ × V)} {vs : List (κ × Value)} (r : KV kvs vs) (k : κ) {y : V} {u : Value} (ry : RelV y u) : KV (putK kvs k y) (stored vs k u) := by
 unfold putK stored
 rw [r.any k]
 by_cases e : (vs.any fun kv => decide (kv.1 = k)) = true
 ·rw [if_pos e, if_pos e]; exact r.repl k ry
 ·rw [if_neg e, if_neg e]; exact Paired.snoc r ⟨rfl, ry⟩
theorem KV.length {kvs : List (κ × V)} {vs : List (κ × Value)} (r : KV kvs vs) : kvs.length = vs.length := Paired.length r
end
theorem kV_is {P : Program} {w : World} {k : Key} {u : Value} (r : RelV (kV k) u) : (mixKind P w).is k u = true := by
 cases k with
 | inl i => obtain ⟨t, e⟩ := (show ∃ t, u = Value.int i t from r); subst e; exact mixKind_int P w i t
 | inr x => obtain ⟨t, e⟩ := (show ∃ t, u = Value.str x t from r); subst e; exact mixKind_str P w x t
theorem items_are {P : Program} {w : World} : ∀ {ks : List Key} {us : List Value}, Vals (ks.map kV) us -> ItemsAre (mixKind P w) ks us
 | [], _, r => by rw [List.map_nil] at r; cases r; exact .nil
 | k :: ks, _, r => by
  rw [List.map_cons] at r
  cases r with
  | cons h t => exact .cons (kV_is h) (items_are t)
abbrev KT (H : Hp) : List (List Key × V) -> List (List Key × Addr × Value) -> Prop := Paired fun p q => p.1 = q.1 /\ H q.2.1 = some (.tup (p.1.map kV)) /\ RelV p.2 q.2.2
theorem KT.val {H : Hp} {kvs : List (List Key × V)} {xs : List (List Key × Addr × Value)} (r : KT H kvs xs) (k : List Key) : RelO (valV kvs k) ((atKey xs k).map (·.2)) := by
 induction r with
 | nil => exact True.intro
 | @cons p q ps qs h t ih =>
  obtain ⟨h1, _, h2⟩ := h
  by_cases e : p.1 = k
  ·have e' : q.1 = k := h1.symm.trans e
   have b : atKey (q :: qs) k = some q.2 := by simp [atKey, List.find?_cons, e']
   rw [valV_pos e, b]; exact h2
  ·have e' : ¬ q.1 = k := fun z => e (h1.trans z)
   have b : atKey (q :: qs) k = atKey qs k := by simp [atKey, List.find?_cons, e']
   rw [valV_neg e, b]; exact ih
theorem KT.repl {H : Hp} {kvs : List (List Key × V)} {xs : List (List Key × Addr × Value)} (r : KT H kvs xs) (k : List Key) {y : V} {u : Value} (ry : RelV y u) :
  KT H (kvs.map fun kv => if kv.1 = k then (kv.1, y) else kv) (xs.map (putAt k u)) := by
 induction r with
 | nil => exact .nil
 | @cons p q ps qs h t ih =>
  rw [List.map_cons, List.map_cons]
  refine .cons ?_ ih
  obtain ⟨h1, h2, h3⟩ := h
  unfold putAt
  by_cases e : p.1 = k
  ·rw [if_pos e, if_pos (h1.symm.trans e)]; exact ⟨h1, h2, ry⟩
  ·rw [if_neg e, if_neg (fun z => e (h1.trans z))]; exact ⟨h1, h2, h3⟩
theorem KT.put {H : Hp} {kvs : List (List Key × V)} {xs : List (List Key × Addr × Value)} (r : KT H kvs xs) (k : List Key) {b : Addr} {y : V} {u : Value} (hb : H b = some (.tup (k.map kV))) (ry : RelV y u) :
  KT H (putK kvs k y) (storedH xs k b u) := by
 have e : (kvs.any fun kv => decide (kv.1 = k)) = (atKey xs k).isSome := by
  rw [valV_any, (r.val k).isSome_eq, Option.isSome_map]
 unfold putK storedH
 rw [e]
 by_cases q : (atKey xs k).isSome = true
 ·rw [if_pos q, if_pos q]; exact r.repl k ry
 ·rw [if_neg q, if_neg q]; exact Paired.snoc r ⟨rfl, hb, ry⟩
theorem KT.keeps {H H' : Hp} {kvs : List (List Key × V)} {xs : List (List Key × Addr × Value)} (r : KT H kvs xs) (ht : ∀ b ys, H b = some (.tup ys) -> H' b = some (.tup ys)) : KT H' kvs xs :=
 Paired.mapP r fun _ _ z => ⟨z.1, ht _ _ z.2.1, z.2.2⟩
section
variable {P : Program} {w : World} {H : Hp} {h : Heap} {a : Addr}
theorem rd_of {u : HO} (ok : HOk P w H h) (e : Rd H a u) : ObjOk P w H h a u := e.ok ok
theorem dk_rd {kvs : List (Key × V)} (ok : HOk P w H h) (e : Rd H a (.dK kvs)) : kvs.length <= sizeLine /\ (a == sysModules) = false /\ ∃ vs, KV kvs vs /\ h.DictOf (mixKind P w) a vs :=
 show ObjOk P w H h a (.dK kvs) from rd_of ok e
theorem dk_of {kvs : List (Key × V)} (ok : HOk P w H h) (e : H a = some (.dK kvs)) : kvs.length <= sizeLine /\ (a == sysModules) = false /\ ∃ vs, KV kvs vs /\ h.DictOf (mixKind P w) a vs := dk_rd ok (.inl e)
theorem key_of {ks : List Key} (ok : HOk P w H h) (e : H a = some (.tup (ks.map kV))) : (tupleKind (mixKind P w)).is h ks a := by
 obtain ⟨_, its, r, o, h1, h2, n, h3⟩ := (show ObjOk P w H h a (.tup (ks.map kV)) from ok a _ e)
 exact ⟨o, its.toArray, n, h1, h2, h3, by simpa using items_are r⟩
theorem dt_rd {kvs : List (List Key × V)} (ok : HOk P w H h) (e : Rd H a (.dT kvs)) : kvs.length <= sizeLine /\ (a == sysModules) = false /\
  ∃ xs, KT H kvs xs /\ h.DictOfH (tupleKind (mixKind P w)) a xs := by
 obtain ⟨z, y, xs, r, o, es, ep, h1, h2, h3, h4, h5⟩ := (show ObjOk P w H h a (.dT kvs) from rd_of ok e)
 refine ⟨z, y, xs, r, o, es, ep, h1, h2, h3, h4, fun x hx => ?_, h5⟩
 have all : ∀ {l : List (List Key × V)} {m : List (List Key × Addr × Value)}, KT H l m -> ∀ x ∈ m, (tupleKind (mixKind P w)).is h x.1 x.2.1 := by
  intro l m q
  induction q with
  | nil => intro x hx; exact nomatch hx
  | @cons p q ps qs hq t ih =>
   intro x hx
   rcases List.mem_cons.mp hx with e | hx
   ·subst e
    exact key_of ok (by rw [<- hq.1]; exact hq.2.1)
   ·exact ih x hx
 exact all r x hx
theorem dt_of {kvs : List (List Key × V)} (ok : HOk P w H h) (e : H a = some (.dT kvs)) : kvs.length <= sizeLine /\ (a == sysModules) = false /\
  ∃ xs, KT H kvs xs /\ h.DictOfH (tupleKind (mixKind P w)) a xs := dt_rd ok (.inl e)
end
def DGet (H : Hp) (a : Addr) (y : V) (r : Option V) : Prop :=
 (∃ kvs k, Rd H a (.dK kvs) /\ y = kV k /\ r = valV kvs k) \/ ∃ kvs k b, Rd H a (.dT kvs) /\ y = .ref b /\ H b = some (.tup (k.map kV)) /\ r = valV kvs k
def DPut (H : Hp) (a : Addr) (y v : V) (H' : Hp) : Prop :=
 (∃ kvs k, H a = some (.dK kvs) /\ y = kV k /\ kvs.length < sizeLine /\ H' = upd H a (.dK (putK kvs k v))) \/
 ∃ kvs k b, H a = some (.dT kvs) /\ y = .ref b /\ H b = some (.tup (k.map kV)) /\ kvs.length < sizeLine /\ H' = upd H a (.dT (putK kvs k v))
theorem DGet.k {H : Hp} {a : Addr} {kvs : List (Key × V)} {k : Key} (e : H a = some (.dK kvs)) : DGet H a (kV k) (valV kvs k) := .inl ⟨kvs, k, .inl e, rfl, rfl⟩
theorem DPut.k {H : Hp} {a : Addr} {kvs : List (Key × V)} {k : Key} {v : V} (e : H a = some (.dK kvs)) (hl : kvs.length < sizeLine) : DPut H a (kV k) v (upd H a (.dK (putK kvs k v))) := .inl ⟨kvs, k, e, rfl, hl, rfl⟩
section
variable {X : Cx} {pins : List (Addr × Obj)} {σ : St} {H : Hp} {s : Shared} {a : Addr} {y v : V} {u r : Value} {o : Option V} {A : Around} {E : Value -> Shared -> Prop}
theorem Inv.big (I : Inv X pins σ H s) : sysModules < s.heap.objs.size := by
 have h : mainGlobals < s.heap.objs.size := (I.mod.glob.keeps I.bk).lt
 exact Nat.lt_trans (by decide) h
theorem d_write {h' : Heap} {t' : Nat} {ob : HO} (I : Inv X pins σ H s) (mu : Mut (H a)) (hs : Heap.SameBut a s.heap h') (he : ∃ q, h'.get? a = some q) (new : ObjOk X.prog X.w (upd H a ob) h' a ob) :
  Inv X pins σ (upd H a ob) { s with heap := h', toks := t' } :=
 I.write (x := a) (e := a) mu (.inl rfl) (fun b q hb z => (hs.2 b hb).trans z) he new
theorem dk_new {P : Program} {w : World} {H' : Hp} {h' : Heap} {kvs : List (Key × V)} {vs : List (Key × Value)} (z : kvs.length <= sizeLine) (hd : (a == sysModules) = false) (rel : KV kvs vs) (dd : h'.DictOf (mixKind P w) a vs) :
  ObjOk P w H' h' a (.dK kvs) := ⟨z, hd, vs, rel, dd⟩
theorem d_setItem {H' : Hp} {Q : Unit -> Shared -> Prop} (hu : A.units + 1 < cLine) (I : Inv X pins σ H s) (g : DPut H a y v H') (ry : RelV y u) (rv : RelV v r) (h : ∀ s', Inv X pins σ H' s' -> Q () s') :
  wpAny (model X.prog X.w) A (setItem (.ref a) u r) Q E s := by
 rcases g with ⟨kvs, k, e, ey, l, eH⟩ | ⟨kvs, k, b, e, ey, eb, l, eH⟩
 ·subst ey eH
  obtain ⟨z, hd, vs, rel, dd⟩ := dk_of I.hok e
  have hz : vs.length <= sizeLine := by rw [<- rel.length]; exact z
  have hl : (putK kvs k v).length <= sizeLine := by have := length_putK kvs k v; omega
  refine wpAny_setItem_pairs (hsz := hz) (kV_is ry) dd fun h' dd' hs => h _ ?_
  have he : ∃ q, h'.get? a = some q := let ⟨q, _, _, hq, _⟩ := dd'; ⟨q, hq⟩
  exact d_write I (by rw [e]; exact True.intro) hs he (dk_new hl hd (rel.put k rv) dd')
 ·subst ey eH
  cases (show u = Value.ref b from ry)
  obtain ⟨z, hd, xs, rel, dd⟩ := dt_of I.hok e
  have hz : xs.length <= sizeLine := by rw [<- Paired.length rel]; exact z
  have hl : (putK kvs k v).length <= sizeLine := by have := length_putK kvs k v; omega
  refine wpAny_setItem_heap (hsz := hz) (tupleKind_room_in1 hu) (key_of I.hok eb) dd fun h' dd' hs => h _ ?_
  obtain ⟨q, es, ep, hq, h2, h3, h4, _, h5⟩ := dd'
  refine d_write I (by rw [e]; exact True.intro) hs ⟨q, hq⟩ ⟨hl, hd, _, (rel.put k eb rv).keeps fun c ys ec => ?_, q, es, ep, hq, h2, h3, h4, h5⟩
  rw [upd_ne (ne_of ec e (fun z => nomatch z))]
  exact ec
end
def sDPut (td ty tv : TE) : TS := fun D σ H => tv σ H fun v H1 => td σ H1 fun x H2 => ty σ H2 fun y H3 => ∃ a H4, x = .ref a /\ DPut H3 a y v H4 /\ D.nx σ H4
section
variable {X : Cx} {o i e value : Expr} {pos pos' tpos : Pos} {td ty tv : TE}
theorem ps_dput (hu : X.A.units + 1 < cLine) (ho : PE X o td) (hi : PE X i ty) (hv : PE X value tv) (hs : swapsWith value (some (.Subscript o i pos')) pos.line X.env = pure false) :
  PS X (.Assign [.Subscript o i pos'] value pos) (sDPut td ty tv) := by
 intro pins s σ H D I h
 refine wpAny_Assign_Subscript (thn (hv pins s σ H _ I h) fun r s1 ⟨v, H1, I1, rv, q1⟩ => thn (ho pins s1 σ H1 _ I1 q1) fun u s2 ⟨x, H2, I2, rx, q2⟩ => thn (hi pins s2 σ H2 _ I2 q2) fun iv s3 ⟨y, H3, I3, ry, a, H4, ex, g, q3⟩ => ?_) hs
 subst ex
 obtain rfl : u = Value.ref a := rx
 exact d_setItem hu I3 g ry rv fun s4 I4 => ⟨σ, H4, I4, q3⟩
end
theorem dk_empty {P : Program} {w : World} {H : Hp} (h : Heap) (hb : sysModules < h.objs.size) : ObjOk P w H (h.push { cls := .type "dict", data := .dict #[] }) h.objs.size (.dK []) :=
 ⟨Nat.zero_le _, beq_eq_false_iff_ne.mpr (Ne.symm (Nat.ne_of_lt hb)), [], .nil, Heap.DictOf.new h⟩
def tDNewK : TE := fun _ H Q => ∀ p, H p = none -> Q (.ref p) (upd H p (.dK []))
section
variable {X : Cx} {pos : Pos}
theorem pe_dnewK : PE X (.Dict [] [] pos) tDNewK := fun pins s σ H Q I h =>
 wpAny_Dict_empty ⟨.ref s.heap.objs.size, _, I.laid (a := s.heap.objs.size) (o := .dK []) (t' := s.toks) (fun _ _ q => Heap.get?_push_of_some _ q) (Nat.le_refl _) (dk_empty s.heap I.big), rfl, h _ (I.hok.fresh (Nat.le_refl _))⟩
end
def tPairs : List (TE × TE) -> St -> Hp -> (List (V × V) -> Hp -> Prop) -> Prop
 | [], _, H, Q => Q [] H
 | (tk, tv) :: r, σ, H, Q => tk σ H fun x H1 => tv σ H1 fun y H2 => tPairs r σ H2 fun ps H3 => Q ((x, y) :: ps) H3
abbrev VV : List (V × V) -> List (Value × Value) -> Prop := Paired fun p q => RelV p.1 q.1 /\ RelV p.2 q.2
def PPs (X : Cx) (pos : Pos) (keys : List (Option Expr)) (values : List Expr) (trs : List (TE × TE)) : Prop :=
 ∀ (pins : List (Addr × Obj)) (s : Shared) (σ : St) (H : Hp) (Q : List (V × V) -> Hp -> Prop), Inv X pins σ H s -> tPairs trs σ H Q ->
  wpAny (model X.prog X.w) X.A (evalPairs (pairTrees keys values X.env pos)) (fun vs s' => ∃ ps H', Inv X pins σ H' s' /\ VV ps vs /\ Q ps H') X.xe s
theorem pps_nil {X : Cx} {pos : Pos} : PPs X pos [] [] [] := fun pins s σ H Q I h => pairTrees_nil_walk ⟨[], H, I, .nil, h⟩
theorem pps_cons {X : Cx} {pos : Pos} {k v : Expr} {ks : List (Option Expr)} {vs : List Expr} {tk tv : TE} {trs : List (TE × TE)} (hk : PE X k tk) (hv : PE X v tv) (hr : PPs X pos ks vs trs) :
  PPs X pos (some k :: ks) (v :: vs) ((tk, tv) :: trs) := fun pins s σ H Q I h =>
 pairTrees_cons_walk (thn (hk pins s σ H _ I h) fun u s1 ⟨x, H1, I1, rx, q1⟩ => thn (hv pins s1 σ H1 _ I1 q1) fun w2 s2 ⟨y, H2, I2, ry, q2⟩ =>
  thn (hr pins s2 σ H2 _ I2 q2) fun ws s3 ⟨ps, H3, I3, rel, q3⟩ => ⟨(x, y) :: ps, H3, I3, .cons ⟨rx, ry⟩ rel, q3⟩)
def mergeK (kvs more : List (Key × V)) : List (Key × V) := more.foldl (fun acc kv => putK acc kv.1 kv.2) kvs
theorem KV.merge : ∀ {more : List (Key × V)} {rs : List (Key × Value)} {kvs : List (Key × V)} {vs : List (Key × Value)}, KV more rs -> KV kvs vs -> KV (mergeK kvs more) (merged vs rs) := by
 intro more rs kvs vs r
 unfold KV at r
 induction r generalizing kvs vs with
 | nil => intro q; exact q
 | @cons p q ps qs h t ih =>
  intro r0
  have e : KV (putK kvs p.1 p.2) (stored vs q.1 q.2) := by
   have := r0.put p.1 h.2
   rw [<- h.1]; exact this
  exact ih e
theorem length_mergeK : ∀ (more kvs : List (Key × V)), (mergeK kvs more).length <= kvs.length + more.length
 | [], kvs => by show kvs.length <= kvs.length + 0; omega
 | p :: r, kvs => by
  have h1 := length_mergeK r (putK kvs p.1 p.2)
  have h2 := length_putK kvs p.1 p.2
  show (mergeK (putK kvs p.1 p.2) r).length <= _
  rw [List.length_cons]; omega
theorem carries_of {P : Program} {w : World} : ∀ {kvs : List (Key × V)} {ws : List (Value × Value)}, VV (kvs.map fun kv => (kV kv.1, kv.2)) ws -> ∃ rs, Carries (mixKind P w) ws rs /\ KV kvs rs
 | [], _, r => by rw [List.map_nil] at r; cases r; exact ⟨[], True.intro, .nil⟩
 | p :: kvs, _, r => by
  rw [List.map_cons] at r
  cases r with
  | @cons a b as bs h t =>
   obtain ⟨rs, c, q⟩ := carries_of (P := P) (w := w) t
   obtain ⟨b1, b2⟩ := b
   exact ⟨(p.1, b2) :: rs, ⟨kV_is h.1, rfl, c⟩, .cons ⟨rfl, h.2⟩ q⟩
def tDisp (trs : List (TE × TE)) : TE := fun σ H Q => ∀ p, H p = none -> tPairs trs σ (upd H p (.dK [])) fun ps H2 => H2 p = some (.dK []) /\ ∃ kvs : List (Key × V), ps = kvs.map (fun kv => (kV kv.1, kv.2)) /\ kvs.length <= 15 /\ Q (.ref p) (upd H2 p (.dK (mergeK [] kvs)))
theorem pe_disp {X : Cx} {pos : Pos} {keys : List (Option Expr)} {values : List Expr} {trs : List (TE × TE)} (h : PPs X pos keys values trs) (hall : keys.all (·.isSome) = true) (hl : keys.length = values.length) (h0 : keys ≠ [])
  (h15 : keys.length <= 15) : PE X (.Dict keys values pos) (tDisp trs) := by
 intro pins s σ H Q I q
 have hn := I.hok.fresh (Nat.le_refl s.heap.objs.size)
 have I1 := I.laid (a := s.heap.objs.size) (o := .dK []) (h' := s.heap.push { cls := .type "dict", data := .dict #[] }) (t' := s.toks) (fun _ _ q => Heap.get?_push_of_some _ q) (Nat.le_refl _) (dk_empty s.heap I.big)
 refine wpAny_Dict_walk (knd := mixKind X.prog X.w) hall hl h0 h15 (thn (h pins _ σ _ _ I1 (q _ hn)) fun ws s2 ⟨ps, H2, I2, rel, e, kvs, ep, lk, q2⟩ => ?_)
 subst ep
 obtain ⟨rs, c, rk⟩ := carries_of (P := X.prog) (w := X.w) rel
 obtain ⟨z, hd, vs0, r0, dd⟩ := dk_of I2.hok e
 cases r0
 refine ⟨rs, c, dd, fun h' dd' hs => ⟨.ref s.heap.objs.size, _, ?_, rfl, q2⟩⟩
 have hz : (mergeK [] kvs).length <= sizeLine := by
  have h1 := length_mergeK kvs []
  rw [List.length_nil] at h1
  rw [sizeLine_eq]; omega
 have he : ∃ q, h'.get? s.heap.objs.size = some q := let ⟨q, _, _, hq, _⟩ := dd'; ⟨q, hq⟩
 exact d_write I2 (by rw [e]; exact True.intro) hs he (dk_new hz hd (rk.merge .nil) dd')
structure M1 (X : Cx) (o : Expr) (m : Str) (apos : Pos) (e : Expr) (cpos : Pos) : Prop where
 base : attributeBase o m X.env (eval o X.env) = eval o X.env
 few : ((backTo cpos (starEach [e] X.env)).all (fun x => !x.1) && (backToKw cpos (keywordEach [] X.env)).all (fun x => x.1.isSome)
  && decide (([e] : List Expr).length + ([] : List Keyword).length + (if ([] : List Keyword).isEmpty then 0 else 1) < 30)) = true
 line : (apos.endLine == cpos.line) = true
 trees : backTo cpos (starEach [e] X.env) = [(false, eval e X.env)]
structure M2 (X : Cx) (o : Expr) (m : Str) (apos : Pos) (e f : Expr) (cpos : Pos) : Prop where
 base : attributeBase o m X.env (eval o X.env) = eval o X.env
 few : ((backTo cpos (starEach [e, f] X.env)).all (fun x => !x.1) && (backToKw cpos (keywordEach [] X.env)).all (fun x => x.1.isSome)
  && decide (([e, f] : List Expr).length + ([] : List Keyword).length + (if ([] : List Keyword).isEmpty then 0 else 1) < 30)) = true
 line : (apos.endLine == cpos.line) = true
 trees : backTo cpos (starEach [e, f] X.env) = [(false, eval e X.env), (false, eval f X.env)]
def IsD (H : Hp) (a : Addr) : Prop := (∃ kvs, Rd H a (.dK kvs)) \/ ∃ kvs, Rd H a (.dT kvs)
theorem isD_at {X : Cx} {pins : List (Addr × Obj)} {σ : St} {H : Hp} {s : Shared} {a : Addr} (I : Inv X pins σ H s) (d : IsD H a) :
  s.TypeIs (.ref a) "dict" /\ (∀ b, Value.ref a = .ref b -> ∃ ob, s.heap.get? b = some ob /\ ob.dict = none) /\ (a == sysModules) = false := by
 rcases d with ⟨kvs, e⟩ | ⟨kvs, e⟩
 ·obtain ⟨_, hd, vs, _, dd⟩ := dk_rd I.hok e
  refine ⟨dd.typeIs, fun b q => ?_, hd⟩
  cases q
  obtain ⟨ob, _, _, h1, h2, _⟩ := dd
  exact ⟨ob, h1, h2.2.1⟩
 ·obtain ⟨_, hd, xs, _, dd⟩ := dt_rd I.hok e
  refine ⟨dd.typeIs, fun b q => ?_, hd⟩
  cases q
  obtain ⟨ob, _, _, h1, h2, _⟩ := dd
  exact ⟨ob, h1, h2.2.1⟩
section
variable {X : Cx} {pins : List (Addr × Obj)} {σ : St} {H : Hp} {s : Shared} {a : Addr} {y d : V} {u r : Value} {o : Option V} {A : Around} {E : Value -> Shared -> Prop}
theorem d_get2 {Q : Value -> Shared -> Prop} (hu : A.units + 1 < cLine) (I : Inv X pins σ H s) (g : DGet H a y o) (ry : RelV y u) (rd : RelV d r) (h : ∀ w' s', Inv X pins σ H s' -> RelV (o.getD d) w' -> Q w' s') :
  wpAny (model X.prog X.w) A (call (.builtin "dict.get") [.ref a, u, r]) Q E s := by
 rcases g with ⟨kvs, k, e, ey, l⟩ | ⟨kvs, k, b, e, ey, eb, l⟩
 ·subst ey
  obtain ⟨z, hd, vs, rel, dd⟩ := dk_rd I.hok e
  refine call_meetsIn PySem.F.slot_dict_get dd.typeIs PySem.F.entry_dict_get (PySem.F.args_dict_get_3 _ _ _) (meets_dict_get_default (mixKind X.prog X.w) a (kV_is ry) hd r) ⟨_, dd.mapOf, h _ _ (I.tok _) ?_⟩
  rw [l]
  exact (rel.val k).getD rd
 ·subst ey
  cases (show u = Value.ref b from ry)
  obtain ⟨z, hd, xs, rel, dd⟩ := dt_rd I.hok e
  refine call_meetsIn PySem.F.slot_dict_get dd.typeIs PySem.F.entry_dict_get (PySem.F.args_dict_get_3 _ _ _) (meetsH_dict_get_default (tupleKind (mixKind X.prog X.w)) a b hd r) ⟨tupleKind_room_in1 hu, k, xs, key_of I.hok eb, dd, h _ _ (I.tok _) ?_⟩
  rw [l]
  exact (rel.val k).getD rd
end
def tDGet2 (td ty tx : TE) : TE := fun σ H Q => td σ H fun x H1 => ∃ a, x = .ref a /\ IsD H1 a /\ ty σ H1 fun y H2 => tx σ H2 fun z H3 => ∃ o, DGet H3 a y o /\ Q (o.getD z) H3
section
variable {X : Cx} {o e f : Expr} {apos cpos : Pos} {td ty tx : TE}
theorem pe_dget2 (hu : X.A.units + 1 < cLine) (ho : PE X o td) (he : PE X e ty) (hf : PE X f tx) (m : M2 X o "get" apos e f cpos) : PE X (.Call (.Attribute o "get" apos) [e, f] [] cpos) (tDGet2 td ty tx) := by
 intro pins s σ H Q I h
 refine wpAny_Call_method m.base m.few m.line PySem.F.plainAttrs_dict PySem.F.slot_dict_get PySem.F.type_dict_get (thn (ho pins s σ H _ I h) fun u s1 ⟨x, H1, I1, rx, a, ex, d, q1⟩ => ?_)
 subst ex
 obtain rfl : u = Value.ref a := rx
 obtain ⟨t1, t2, _⟩ := isD_at I1 d
 refine ⟨t1, t2, ?_⟩
 rw [m.trees]
 refine Calls.callWith_builtin rfl (Calls.evalArgs_plain (Calls.spliced_cons (thn (he pins s1 σ H1 _ I1 q1) fun iv s2 ⟨y, H2, I2, ry, q2⟩ =>
  Calls.spliced_cons (thn (hf pins s2 σ H2 _ I2 q2) fun fv s3 ⟨z, H3, I3, rz, ov, g, q3⟩ => Calls.spliced_nil ?_))))
 exact d_get2 hu I3 g ry rz fun w' s4 I4 rw' => ⟨_, H3, I4, rw', q3⟩
end
section
variable {X : Cx} {pins : List (Addr × Obj)} {σ : St} {H : Hp} {s : Shared} {a : Addr} {kvs : List (Key × V)} {A : Around} {E : Value -> Shared -> Prop}
theorem d_copyOf {Q : Value -> Shared -> Prop} (I : Inv X pins σ H s) (e : Rd H a (.dK kvs)) (h : ∀ p s', H p = none -> Inv X pins σ (upd H p (.dK kvs)) s' -> Q (.ref p) s') : wpAny (model X.prog X.w) A (call (.type "dict") [.ref a]) Q E s := by
 obtain ⟨z, hd, vs, rel, dd⟩ := dk_rd I.hok e
 refine kt_call_dict hd dd (by rw [<- rel.length]; exact z) fun h' dd' hs => ?_
 refine h _ _ (I.hok.fresh (Nat.le_refl _)) (I.laid (a := s.heap.objs.size) (o := .dK kvs) (t' := s.toks) (fun b q hq => ?_) (Nat.le_refl _) (dk_new z (beq_eq_false_iff_ne.mpr (Ne.symm (Nat.ne_of_lt I.big))) rel dd'))
 exact (hs.2 b (Nat.ne_of_lt (Heap.lt_size hq))).trans (Heap.get?_push_of_some _ hq)
end
end L2
namespace L2
open PySem PySem.Spec PyProof.Rows
section
variable {κ : Type} [DecidableEq κ]
theorem valV_not {kvs : List (κ × V)} {k : κ} (h : valV kvs k = none) : ¬ k ∈ kvs.map (·.1) := by
 intro m
 obtain ⟨p, hp, e⟩ := List.mem_map.mp m
 have q : (kvs.any fun kv => decide (kv.1 = k)) = true := List.any_eq_true.mpr ⟨p, hp, decide_eq_true e⟩
 rw [valV_any, h] at q
 exact absurd q (by simp)
theorem nd_snoc : ∀ {l : List κ} {k : κ}, l.Nodup -> ¬ k ∈ l -> (l ++ [k]).Nodup
 | [], k, _, _ => by simp
 | a :: r, k, h, hk => by
  obtain ⟨h1, h2⟩ := List.nodup_cons.mp h
  show (a :: (r ++ [k])).Nodup
  refine List.nodup_cons.mpr ⟨fun m => ?_, nd_snoc h2 fun m => hk (List.mem_cons.mpr (Or.inr m))⟩
  rcases List.mem_append.mp m with q | q
  ·exact h1 q
  ·exact hk (List.mem_cons.mpr (Or.inl (List.mem_singleton.mp q).symm))
theorem nd_putK {kvs : List (κ × V)} {k : κ} (v : V) (hn : (kvs.map (·.1)).Nodup) (h : valV kvs k = none) : ((putK kvs k v).map (·.1)).Nodup := by
 rw [putK_new v h, List.map_append]
 exact nd_snoc hn (valV_not h)
end
end L2
namespace L2
open PySem PySem.Spec PyProof.Rows
structure FunD (K : Fg_) (x qual : Str) (st : Stmt) (f : Addr) (fd : FuncData) (dvs : List V) : Prop where
 ex : ∃ (oc : Value) (od : Option Addr) (Td : Addr) (kV doc pm : Value) (an : Option Addr) (cdv ct : Value) (osl : Array (Option Value)) (ot : Obj) (its : List Value) (nt : Nat),
  fd = PySem.W.fnOf x qual (defArgs st) (defBody st) (defScope st) (.ref Td) kV doc pm an cdv ct /\ K.lookup f = some ⟨oc, od, .func fd, osl⟩ /\ PySem.W.codeIn K cdv qual = true /\ K.lookup Td = some ot /\ ot.data = .seq its.toArray nt /\ Vals dvs its
 kp : PySem.W.keepIn K (.ref f) = true
section
variable {P : Program} {w : World} {K : Fg_} {mg : Str -> Option Value} {base : Heap}
theorem FunD.ok {x qual : Str} {st : Stmt} {f : Addr} {fd : FuncData} {N ps : List Str} {k : Nat} {sp : Sp} {dvs : List V} (F : FunD K x qual st f fd dvs) (S : FnScope N ps (defScope st)) (len : ∀ vs H Q E, sp vs H Q E -> vs.length = ps.length)
  (hbody : ∀ (cdv : Value) (A : Around) (outer : List Env) (s : Shared) (H : Hp) (vs : List V) (Q : VK) (E : XK), Room k (A.deeper (envOfC qual (defScope st) s.heap.objs.size f cdv)) -> sp vs H Q E ->
   ∃ t, PSs (cxOf CX0 P w K mg base N qual (defScope st) f cdv A outer s H E).nox (defBody st) t /\ t { nx := fun _ H' => Q .non H', rt := Q } (start N vs) H) : FnOk P w K mg base CX0 (k + 1) f fd ps sp := by
 obtain ⟨oc, od, Td, kV, doc, pm, an, cdv, ct, osl, ot, its, nt, rfl, lk, hcd, _⟩ := F.ex
 refine fn_of lk hcd S len fun A outer s H vs Q E hr hsp => ?_
 obtain ⟨t, h, q⟩ := hbody cdv A outer s H vs Q E hr hsp
 exact ⟨t, h.nox, q⟩
theorem FunD.binds {x qual : Str} {st : Stmt} {f : Addr} {fd : FuncData} {ps : List Str} {dvs : List V} (F : FunD K x qual st f fd dvs) (n : Nat)
  (h : ∀ (Td : Addr) (kV doc pm : Value) (an : Option Addr) (cdv ct : Value) (its us : List Value), its.length = dvs.length -> (us ++ its.drop n).length = ps.length ->
   ∃ k, bindArgs (PySem.W.fnOf x qual (defArgs st) (defBody st) (defScope st) (.ref Td) kV doc pm an cdv ct) ⟨us, []⟩ = (seqItems? (.ref Td) >>= k) /\ k (some its.toArray) = pure (ps.zip (us ++ its.drop n))) : ∃ ds, Binds K fd ps ds /\ Vals (dvs.drop n) ds := by
 obtain ⟨oc, od, Td, kV, doc, pm, an, cdv, ct, osl, ot, its, nt, rfl, lk, hcd, lt, hdt, hv⟩ := F.ex
 refine ⟨its.drop n, fun s us X hl => ?_, hv.drop n⟩
 obtain ⟨k, e1, e2⟩ := h Td kV doc pm an cdv ct its us hv.length.symm hl
 exact PySem.W.binds_K X rfl lt hdt e1 e2
theorem funD_mk {x qual : Str} {st : Stmt} {f Td : Addr} {oc : Value} {od an : Option Addr} {osl : Array (Option Value)} {kV doc pm cdv ct : Value} {dvs : List V} {ot : Obj} {its : List Value} {nt : Nat} (l : K.lookup f = some ⟨oc, od, .func (PySem.W.fnOf x qual (defArgs st) (defBody st) (defScope st) (.ref Td) kV doc pm an cdv ct), osl⟩)
  (c : PySem.W.codeIn K cdv qual = true) (k : PySem.W.keepIn K (.ref f) = true) (lt : K.lookup Td = some ot) (hd : ot.data = .seq its.toArray nt) (hv : Vals dvs its) : FunD K x qual st f (PySem.W.fnOf x qual (defArgs st) (defBody st) (defScope st) (.ref Td) kV doc pm an cdv ct) dvs :=
 ⟨⟨oc, od, Td, kV, doc, pm, an, cdv, ct, osl, ot, its, nt, rfl, l, c, lt, hd, hv⟩, k⟩
end
structure ClsFn (K : Fg_) (C : Addr) (m : Str) (f : Addr) : Prop where
 ga : PySem.W.specialIn K (.ref C) "__getattribute__" = some (some (.builtin "type.__getattribute__"))
 rd : PySem.W.readsIn K C (.type "type") = true
 fi : PySem.W.findCls K (.ref C) (.type "type") m = some (.val (.ref f))
section
variable {X : Cx} {CX : CXT} {k : Nat} {f C : Addr} {fd : FuncData} {ps ks : List Str} {sp : Sp} {dvs : List V} {ds : List Value} {E : XK} {x m : Str} {p pos apos : Pos} {e o : Expr} {es : List Expr} {ta : TE} {t tk : TA} {kws : List Keyword}
theorem pe_clsCall {pl : Sem Bool} (Z : ClsFn X.K C m f) (F : FnOk X.prog X.w X.K X.mg X.base CX k f fd ps sp) (hr : Room k X.A) (hg : Gl X x) (hm : X.mg x = some (.ref C)) (hk : PySem.W.keepIn X.K (.ref f) = true) (hb : Binds X.K fd ps ds) (hd : Vals dvs ds) (hx : Passes CX X E)
  (ha : PA X (e :: es) t) (hdb : (x == ("__debug__" : Str)) = false := by decide) (he : starEach (e :: es) X.env = (false, eval e X.env) :: starEach es X.env := by rfl) (hpl : (backTo pos (starEach es X.env)).any (·.1) = false := by rfl)
  (ht : eval (.Call (.Attribute (.Name x p) m apos) (e :: es) [] pos) X.env = (do
   let ov <- eval (.Name x p) X.env
   standAt apos.atName
   let (f, first) <- holding [ov] (getMethod ov m pl)
   callWith pos f first (backTo pos (starEach (e :: es) X.env)) (backToKw pos (keywordEach [] X.env))) := by rfl) :
  PE X (.Call (.Attribute (.Name x p) m apos) (e :: es) [] pos) (tCall sp dvs E t) := by
 intro pins s σ H Q I h
 refine PySem.W.methodCall_KW (pl := pl) (ld_glob I hg hm ?_ hdb) ht
 refine PySem.W.method_cls I.kIn Z.ga (PySem.W.cls_value I.kIn Z.rd Z.fi rfl ?_)
 have I' : Inv X pins σ H { s with toks := s.toks + 1 } := I.tok _
 refine PySem.W.callWith_K (first := []) (h₀ := X.base) I.ok.mod.kin hk (thn (ha pos pins _ σ H _ I' h) fun us s1 ⟨vs, H1, I1, r, q⟩ => ⟨I1.kIn, ?_⟩) he hpl
 exact run_fn F hr hb hd hx I1 r q
inductive MTab (X : Cx) (CX : CXT) (m : Str) : List (Addr × Sp) -> Prop
 | nil : MTab X CX m []
 | cons {C f : Addr} {fd : FuncData} {ps : List Str} {sp : Sp} {k : Nat} {r : List (Addr × Sp)} (c : Cls X.K C) (hm : Meth X.K C m f) (F : FnOk X.prog X.w X.K X.mg X.base CX k f fd ps sp) (hr : Room k X.A) (hb : Binds X.K fd ps []) (t : MTab X CX m r) : MTab X CX m ((C, sp) :: r)
theorem MTab.get {tab : List (Addr × Sp)} (T : MTab X CX m tab) {C : Addr} {sp : Sp} (h : (C, sp) ∈ tab) : ∃ f fd ps k, Cls X.K C /\ Meth X.K C m f /\ FnOk X.prog X.w X.K X.mg X.base CX k f fd ps sp /\ Room k X.A /\ Binds X.K fd ps [] := by
 induction T with
 | nil => cases h
 | cons c hm F hr hb t ih =>
  rcases List.mem_cons.mp h with z | z
  ·cases z
   exact ⟨_, _, _, _, c, hm, F, hr, hb⟩
  ·exact ih z
def tMethD (tab : List (Addr × Sp)) (m : Str) (E : XK) (ta : TE) (t : TA) : TE := fun σ H Q => ta σ H fun x H1 => ∃ a C dx fs sp, x = .ref a /\ H1 a = some (.ins C dx fs) /\ (C, sp) ∈ tab /\ fs.lookup m = none /\ t σ H1 fun vs H2 => sp (x :: vs) H2 Q E
theorem pe_methD {pl : Sem Bool} {tab : List (Addr × Sp)} (he : PE X o ta) (T : MTab X CX m tab) (hx : Passes CX X E) (ha : PA X (e :: es) t)
  (hst : starEach (e :: es) X.env = (false, eval e X.env) :: starEach es X.env := by rfl) (hpl : (backTo pos (starEach es X.env)).any (·.1) = false := by rfl)
  (ht : eval (.Call (.Attribute o m apos) (e :: es) [] pos) X.env = (do
   let ov <- eval o X.env
   standAt apos.atName
   let (f, first) <- holding [ov] (getMethod ov m pl)
   callWith pos f first (backTo pos (starEach (e :: es) X.env)) (backToKw pos (keywordEach [] X.env))) := by rfl) :
  PE X (.Call (.Attribute o m apos) (e :: es) [] pos) (tMethD tab m E ta t) := by
 intro pins s σ H Q I h
 refine PySem.W.methodCall_KW (pl := pl) (thn (he pins s σ H _ I h) fun u s1 ⟨y, H1, I1, rx, a, C, dx, fs, sp, ex, ea, hmem, l, q⟩ => ?_) ht
 subst ex
 obtain rfl : u = Value.ref a := rx
 obtain ⟨f, fd, ps, k, c, hm, F, hr, hb⟩ := T.get hmem
 refine getmeth_ok I1 ea c hm l ?_
 refine PySem.W.callWith_K (first := [.ref a]) (h₀ := X.base) I.ok.mod.kin hm.kp (thn (ha pos pins s1 σ H1 _ I1 q) fun us s2 ⟨vs, H2, I2, r, q2⟩ => ⟨I2.kIn, ?_⟩) hst hpl
 exact run_fn (us := .ref a :: us) (vs := .ref a :: vs) (dvs := []) (ds := []) F hr hb .nil hx I2 (.cons rfl r) (by rw [List.append_nil]; exact q2)
theorem pe_methD0 {pl : Sem Bool} {tab : List (Addr × Sp)} (he : PE X o ta) (T : MTab X CX m tab) (hx : Passes CX X E)
  (ht : eval (.Call (.Attribute o m apos) [] [] pos) X.env = (do
   let ov <- eval o X.env
   standAt apos.atName
   let (f, first) <- holding [ov] (getMethod ov m pl)
   callWith pos f first (backTo pos (starEach [] X.env)) (backToKw pos (keywordEach [] X.env))) := by rfl) :
  PE X (.Call (.Attribute o m apos) [] [] pos) (tMethD tab m E ta tNil) := by
 intro pins s σ H Q I h
 refine PySem.W.methodCall_KW (pl := pl) (thn (he pins s σ H _ I h) fun u s1 ⟨y, H1, I1, rx, a, C, dx, fs, sp, ex, ea, hmem, l, q⟩ => ?_) ht
 subst ex
 obtain rfl : u = Value.ref a := rx
 obtain ⟨f, fd, ps, k, c, hm, F, hr, hb⟩ := T.get hmem
 refine getmeth_ok I1 ea c hm l ?_
 exact PySem.W.callWith_K0 (first := [.ref a]) I1.kIn hm.kp (run_fn (us := [.ref a]) (vs := [.ref a]) (dvs := []) (ds := []) F hr hb .nil hx I1 (.cons rfl .nil) q)
variable {g : List Value -> List Value -> List Value} {gV : List V -> List V -> List V}
end
theorem putF_new (f : Str) (v : V) : ∀ {fs : List (Str × V)}, (fs.map (·.1)).contains f = false -> putF f v fs = fs ++ [(f, v)]
 | [], _ => rfl
 | (g, x) :: r, h => by
  rw [List.map_cons, List.contains_cons] at h
  have h1 : ¬ g = f := fun e => by rw [e] at h; simp at h
  have h2 : (r.map (·.1)).contains f = false := (Bool.or_eq_false_iff.mp h).2
  show (if g = f then (g, v) :: r else (g, x) :: putF f v r) = _
  rw [if_neg h1, putF_new f v h2]
  rfl
structure InsTy (K : Fg_) (C : Addr) : Prop where
 cl : Cls K C
 ha : PySem.W.findIn K (.ref C) "__class__" = some (some (.builtin "object.__class__"))
 hn : PySem.W.specialIn K (.builtin "object.__class__") "__get__" = some (some (.builtin "getset_descriptor.__get__"))
 htk : PySem.W.takesIn K (.builtin "object.__class__") = some true
 hm : PySem.W.mroIn K C (.type "object") = some true
theorem InsTy.of {K : Fg_} {C a dx : Addr} {H : Hp} {fs : List (Str × V)} (z : InsTy K C) (h : H a = some (.ins C dx fs)) : TyOf K H (.ref a) (.ref C) := .ins h z.cl z.ha z.hn z.htk z.hm
end L2
namespace L2
open PySem PySem.Spec PyProof.Rows
def signs (x : Str) : List V := x.cps.toList.map fun c => V.str ⟨#[c]⟩
def Itst (x : Str) : It := ⟨fun i _ => i < x.cps.size, fun i H v H' => H' = H /\ (signs x)[i]? = some v, fun i _ => x.cps.size <= i⟩
theorem turn_str {P : Program} {w : World} {K : Fg_} {tg : Expr} {ty : String} (hty : ty = "str_ascii_iterator" \/ ty = "str_iterator") (it : Addr) (x : Str) (t : Tok) : Turn P w K tg (Itst x) [it] it (fun i h => h.IsStrIter it ty x t i) where
 mem := by simp
 obj := fun i h st b hb => by
  have e : b = it := by simpa using hb
  subst e
  obtain ⟨o, e, c, d⟩ := st
  exact ⟨o, e, fun v z => by rw [d] at z; cases z⟩
 keep := fun i h h' st k => by
  obtain ⟨o, e, r⟩ := st
  exact ⟨o, k it (by simp) o e, r⟩
 item := by
  intro X hP hw hK hc i pins s σ H E I hf st hg
  subst hP hw hK
  have hi : i < x.cps.size := hg
  have hx : x.cps[i]? = some x.cps[i] := Array.getElem?_eq_getElem hi
  have hs : (signs x)[i]? = some (.str ⟨#[x.cps[i]]⟩) := by
   unfold signs
   rw [List.getElem?_map, Array.getElem?_toList, hx]
   rfl
  rcases hty with rfl | rfl
  ·refine wpAny_pyNext_ascii_item st hx fun h' st' sb => ?_
   obtain ⟨o, e, c, d⟩ := id st'
   exact ⟨_, rfl, go_of (s := { s with heap := h', toks := s.toks + 1 }) e c d (by decide) ⟨.str ⟨#[x.cps[i]]⟩, H, I.turnedN hf fun b o hb q => (sb.2 b (by simpa using hb)).trans q, ⟨_, rfl⟩, ⟨rfl, hs⟩, st', fun b hb => (hf b hb).1⟩⟩
  ·refine wpAny_pyNext_wide_item st hx fun h' st' sb => ?_
   obtain ⟨o, e, c, d⟩ := id st'
   exact ⟨_, rfl, go_of (s := { s with heap := h', toks := s.toks + 1 }) e c d (by decide) ⟨.str ⟨#[x.cps[i]]⟩, H, I.turnedN hf fun b o hb q => (sb.2 b (by simpa using hb)).trans q, ⟨_, rfl⟩, ⟨rfl, hs⟩, st', fun b hb => (hf b hb).1⟩⟩
 done := by
  intro X hP hw hK hc i pins s σ H E I hf st hg
  subst hP hw hK
  have hx : x.cps[i]? = none := Array.getElem?_eq_none hg
  rcases hty with rfl | rfl
  ·exact wpAny_pyNext_ascii_end (I.ok.hd hc) st hx fun h' eb => ⟨rfl, I.turnedN (t' := s.toks) hf fun b o hb q => eb b o (by simpa using hb) q⟩
  ·exact wpAny_pyNext_wide_end (I.ok.hd hc) st hx fun h' eb => ⟨rfl, I.turnedN (t' := s.toks) hf fun b o hb q => eb b o (by simpa using hb) q⟩
 self := fun _ _ _ _ _ st h => by
  rcases hty with rfl | rfl
  ·exact wpAny_pyIter_striter_ascii st h
  ·exact wpAny_pyIter_striter_wide st h
section
variable {X : Cx} {K : Fg_} {tg : Expr}
def iStr (tl : TE) : TI := fun σ H R => tl σ H fun x H1 => ∃ z, x = .str z /\ R (Itst z) H1
theorem pi_str {l : Expr} {tl : TE} (hl : PE X l tl) : PI X tg l (iStr tl) := by
 intro pins s σ H R I h
 refine thn (hl pins s σ H _ I h) fun v s1 ⟨x, H1, I1, r1, q1⟩ => ?_
 obtain ⟨z, e, q⟩ := q1
 subst e
 obtain ⟨t, rfl⟩ := r1
 have fin : ∀ (ty : String) (hty : ty = "str_ascii_iterator" \/ ty = "str_iterator"), PIE X pins σ tg R (.ref s1.heap.objs.size) { s1 with heap := s1.heap.push { cls := .type ty, data := .fields #[.str z t, .int 0 0] } } := fun ty hty => by
  refine ⟨s1.heap.objs.size, [s1.heap.objs.size], _, _, H1, rfl, I1.kept (t' := s1.toks) fun b o e => Heap.get?_push_of_some _ e, turn_str hty _ z t, ⟨_, Heap.get?_push_size _ rfl, rfl, rfl⟩, fun b hb => ?_, q⟩
  have e : b = s1.heap.objs.size := by simpa using hb
  subst e
  exact I1.fpOk (Nat.le_refl _) (I1.hok.fresh (Nat.le_refl _))
 cases ha : z.cps.all (· < 128)
 ·exact wpAny_pyIter_wide ha (fin _ (.inr rfl))
 ·exact wpAny_pyIter_ascii ha (fin _ (.inl rfl))
variable {σ : St} {H : Hp} {R : It -> Hp -> Prop} {tl : TE} {cap : List (Option Nat)} {g : TG} {tt : TT} {te : TE} {Q : VK} {x : Str}
theorem ap_iStr : iStr tl σ H R = tl σ H fun x H1 => ∃ z, x = .str z /\ R (Itst z) H1 := rfl
theorem CompP.str (Sσ : St -> Prop) (p : V -> Bool) (F : V -> V) (h0 : Sσ (capSt σ cap)) (hz : x.cps.size <= sizeLine)
  (hs : ∀ y ∈ signs x, ∀ (σ : St) (H5 : Hp) (R1 : St -> VK) (R2 : St -> Hp -> Prop), Sσ σ -> Same H H5 -> (p y = true -> ∀ σ4 H6, Sσ σ4 -> Same H5 H6 -> R1 σ4 (F y) H6) -> (p y = false -> ∀ σ4 H6, Sσ σ4 -> Same H5 H6 -> R2 σ4 H6) ->
   g y σ H5 fun σ4 H4 => tt σ4 H4 fun b H5 => if b = true then te σ4 H5 (R1 σ4) else R2 σ4 H5)
  (k : ∀ D H', H D = Option.none -> Same H H' -> H' D = some (.lst (((signs x).filter p).map F)) -> Q (.ref D) H') : CompP cap (Itst x) g tt te σ H Q := fun D hD => by
 have hl : (signs x).length = x.cps.size := by simp [signs]
 refine comp_step (xs := signs x) (Itst x) Sσ p F hD h0 (by omega) (fun i y H' hy sm => ?_) (fun H' sm => ?_) hs fun H' s e => k D H' hD s e
 ·have hi : i < (signs x).length := (List.getElem?_eq_some_iff.mp hy).1
  exact ⟨by show i < x.cps.size; omega, fun z H2 hz => ⟨Option.some.inj (hz.2.symm.trans hy), hz.1⟩⟩
 ·show x.cps.size <= _
  omega
def rLeS : R2 := fun x y H Q => ∃ i j, x = .str i /\ y = .str j /\ Q (.bl (!decide (j.cps.toList < i.cps.toList))) H
theorem op_le_str : OpR X (compareOp .LtE) rLeS := by
 intro pins s σ H x y v u Q I rx ry h
 obtain ⟨i, j, rfl, rfl, q⟩ := h
 obtain ⟨t, rfl⟩ := rx
 obtain ⟨t', rfl⟩ := ry
 exact PySem.P.le_str ⟨.bl _, H, I, rfl, q⟩
def rDictOf : List V -> Hp -> VK -> Prop := fun xs H Q => ∃ a kvs, xs = [.ref a] /\ Rd H a (.dK kvs) /\ ∀ p, H p = none -> Q (.ref p) (upd H p (.dK kvs))
theorem call_dictOf : CallR X (.type "dict") rDictOf := by
 intro pins s σ H xs us Q I r h
 obtain ⟨a, kvs, rfl, e, q⟩ := h
 obtain ⟨u, rfl, ru⟩ := vals1 r
 cases ru
 exact d_copyOf I e fun p s' hp I' => ⟨.ref p, _, I', rfl, q p hp⟩
theorem ps_fldK {o value : Expr} {f : Str} {ta tv : TE} {pos pos' : Pos} (ha : PE X o ta) (hv : PE X value tv) (hs : swapsWith value (some (.Attribute o f pos')) pos.line X.env = pure false) (hK : X.K = K := by rfl) : PS X (.Assign [.Attribute o f pos'] value pos) (sFld K ta tv f) := hK ▸ ps_fld ha hv hs
variable {ta tv ty td tx : TE} {f : Str} {D : Ends} {C : Addr} {tab : List (Addr × Sp)} {m : Str} {E : XK} {t tk : TA} {sp : Sp} {dvs : List V} {gV : List V -> List V -> List V}
theorem ap_fldK : tFld K ta f σ H Q = ta σ H fun x H1 => ∃ a C dx fs v, x = .ref a /\ H1 a = some (.ins C dx fs) /\ Cls K C /\ NoAttr K C f /\ fs.lookup f = some v /\ Q v H1 := rfl
theorem ap_sFld : sFld K ta tv f D σ H = tv σ H fun y H1 => ta σ H1 fun x H2 => ∃ a C dx fs, x = .ref a /\ H2 a = some (.ins C dx fs) /\ Cls K C /\ NoAttr K C f /\ fs.length < 1000 /\ D.nx σ (upd H2 a (.ins C dx (putF f y fs))) := rfl
theorem ap_methD : tMethD tab m E ta t σ H Q = ta σ H fun x H1 => ∃ a C dx fs sp, x = .ref a /\ H1 a = some (.ins C dx fs) /\ (C, sp) ∈ tab /\ fs.lookup m = none /\ t σ H1 fun vs H2 => sp (x :: vs) H2 Q E := rfl
theorem ap_make : tMake C sp dvs E t σ H Q = t σ H fun vs H1 => ∀ x dx, H1 x = none -> H1 dx = none -> dx ≠ x -> sp (.ref x :: (vs ++ dvs)) (upd (upd H1 dx (.own x)) x (.ins C dx [])) (fun v H2 => v = .non /\ Q (.ref x) H2) E := rfl
theorem ap_dget2 : tDGet2 td ty tx σ H Q = td σ H fun x H1 => ∃ a, x = .ref a /\ IsD H1 a /\ ty σ H1 fun y H2 => tx σ H2 fun z H3 => ∃ o, DGet H3 a y o /\ Q (o.getD z) H3 := rfl
theorem ap_dput : sDPut td ty tv D σ H = tv σ H fun v H1 => td σ H1 fun x H2 => ty σ H2 fun y H3 => ∃ a H4, x = .ref a /\ DPut H3 a y v H4 /\ D.nx σ H4 := rfl
theorem ap_dnewK : tDNewK σ H Q = ∀ p, H p = none -> Q (.ref p) (upd H p (.dK [])) := rfl
theorem ap_dictOf {p : Addr} : rDictOf [.ref p] H Q = ∃ kvs, Rd H p (.dK kvs) /\ ∀ q, H q = none -> Q (.ref q) (upd H q (.dK kvs)) := by simp [rDictOf]
theorem ap_leS {i j : Str} : rLeS (.str i) (.str j) H Q = Q (.bl (!decide (j.cps.toList < i.cps.toList))) H := propext ⟨fun ⟨i', j', e1, e2, q⟩ => by cases e1; cases e2; exact q, fun q => ⟨i, j, rfl, rfl, q⟩⟩
theorem ap_rIsC {y : V} : rIsC K [y, .ref C] H Q = ∃ t k, TyOf K H y t /\ PySem.W.kitOne K t (.ref C) = some k /\ Q (.bl k) H := propext ⟨fun ⟨x', C', t, k, e, r⟩ => by cases e; exact ⟨t, k, r⟩, fun ⟨t, k, r⟩ => ⟨y, C, t, k, rfl, r⟩⟩
theorem ap_ixT {x y : V} : rIxT K x y H Q = ∃ p xs i v, x = .ref p /\ y = .int i /\ SqT K H p xs /\ atI xs i = some v /\ Q v H := rfl
theorem ap_ixS {x y : V} : rIxS x y H Q = ∃ z i c, x = .str z /\ y = .int i /\ z.length <= sizeLine /\ atI z.cps.toList i = some c /\ Q (.str ⟨#[c]⟩) H := rfl
theorem ap_rIn {neg : Bool} {x y : V} : rIn K neg x y H Q = ∃ p xs, y = .ref p /\ (SqL K H p xs \/ SqT K H p xs) /\ flatV x = true /\ xs.all flatV = true /\ Q (.bl (if neg then !inV x xs else inV x xs)) H := rfl
theorem ap_lenS {z : Str} : (fun (xs : List V) (H : Hp) (Q : VK) => ∃ z, xs = [V.str z] /\ z.length <= sizeLine /\ Q (.int z.length) H) [.str z] H Q = (z.length <= sizeLine /\ Q (.int z.length) H) := propext ⟨fun ⟨z', e, r⟩ => by cases e; exact r, fun r => ⟨z, rfl, r⟩⟩
end
end L2
namespace L2
open PySem PySem.W PySem.Spec PyProof.Rows
section
variable {α β : Type} {lt : Nat -> Nat -> Bool} {n : Nat}
def Kok (lt : Nat -> Nat -> Bool) (n : Nat) (R : α -> Prop) : KasT α -> Prop
 | .ret a => R a
 | .ask i j k => i < n /\ j < n /\ Kok lt n R (k (lt i j))
theorem Kok.bind {R : α -> Prop} {S : β -> Prop} {f : α -> KasT β} : ∀ {t : KasT α}, Kok lt n R t -> (∀ a, R a -> Kok lt n S (f a)) -> Kok lt n S (t.bind f)
 | .ret a, h, k => k a h
 | .ask i j q, h, k => ⟨h.1, h.2.1, Kok.bind (t := q (lt i j)) h.2.2 k⟩
theorem Kok.wp {R : α -> Prop} {cmp : Nat -> Nat -> (Bool -> Shared -> Prop) -> Shared -> Prop} {s : Shared} {Q : α -> Shared -> Prop} (hc : ∀ i j (C : Bool -> Shared -> Prop), i < n -> j < n -> C (lt i j) s -> cmp i j C s) :
  ∀ {t : KasT α}, Kok lt n R t -> (∀ a, R a -> Q a s) -> t.kasWp cmp Q s
 | .ret a, h, k => k a h
 | .ask i j q, h, k => hc i j _ h.1 h.2.1 (Kok.wp hc (t := q (lt i j)) h.2.2 k)
def Prm (n : Nat) (p : Array Nat) : Prop := p.toList.Perm (List.range n)
theorem Prm.ltn {p : Array Nat} (h : Prm n p) (hn : 0 < n) (i : Nat) : p.getD i 0 < n := by
 by_cases hi : i < p.size
 ·have hm : p.getD i 0 ∈ p.toList := by simp [Array.getD, hi]
  exact List.mem_range.mp (h.mem_iff.mp hm)
 ·simp [Array.getD, hi, hn]
theorem Prm.rev {p : Array Nat} (h : Prm n p) (i j : Nat) : Prm n (kas_rev p i j) := (Array.perm_iff_toList_perm.mp (mirror_perm p i j _)).trans h
theorem Prm.bub {p : Array Nat} (h : Prm n p) (k d : Nat) : Prm n (bubble p k d) := (Array.perm_iff_toList_perm.mp (bubble_perm p k d)).trans h
theorem kok_asc {p : Array Nat} (h : Prm n p) (hn : 0 < n) : ∀ f m, Kok lt n (fun _ => True) (kas_asc p f m)
 | 0, _ => trivial
 | f + 1, m => ⟨Prm.ltn h hn _, Prm.ltn h hn _, by
  dsimp only
  by_cases hc : lt (p.getD m 0) (p.getD (m - 1) 0) = true
  ·rw [if_pos hc]; trivial
  ·rw [if_neg hc]; exact kok_asc h hn f (m + 1)⟩
theorem kok_desc (hn : 0 < n) : ∀ f {p : Array Nat} m q, Prm n p -> Kok lt n (fun r : Array Nat × Nat × Nat => Prm n r.1) (kas_desc f p m q)
 | 0, _, _, _, h => h
 | f + 1, p, m, q, h => ⟨Prm.ltn h hn _, Prm.ltn h hn _, by
  dsimp only
  by_cases hc : lt (p.getD m 0) (p.getD (m - 1) 0) = true
  ·rw [if_pos hc]
   by_cases hq : q > 0
   ·rw [if_pos hq]; exact kok_desc hn f _ _ (h.rev _ _)
   ·rw [if_neg hq]; exact kok_desc hn f _ _ h
  ·rw [if_neg hc]
   refine ⟨Prm.ltn h hn _, Prm.ltn h hn _, ?_⟩
   dsimp only
   by_cases hd : lt (p.getD (m - 1) 0) (p.getD m 0) = true
   ·rw [if_pos hd]; exact h
   ·rw [if_neg hd]; exact kok_desc hn f _ _ h⟩
theorem kok_tail {p : Array Nat} (h : Prm n p) (hn : 0 < n) (m r : Nat) : Kok lt n (fun r : Nat × Array Nat => Prm n r.2) (kas_tail3 m r p) :=
 Kok.bind (kok_asc (h.rev _ _) hn _ _) fun _ _ => h.rev 0 m
theorem kok_part {p : Array Nat} (h : Prm n p) (hn : 0 < n) (m r : Nat) : Kok lt n (fun r : Nat × Array Nat => Prm n r.2) (kas_descPart m r p) :=
 Kok.bind (kok_desc hn _ _ _ h) fun a ha => by
  by_cases hq : a.2.2 > 0
  ·rw [if_pos hq]; exact kok_tail (ha.rev _ _) hn _ _
  ·rw [if_neg hq]; exact kok_tail ha hn _ _
theorem kok_count {p : Array Nat} (h : Prm n p) (hn : 0 < n) (r : Nat) : Kok lt n (fun r : Nat × Array Nat => Prm n r.2) (kas_count r p) :=
 Kok.bind (kok_asc h hn _ _) fun m _ => by
  by_cases h1 : (m == r) = true
  ·rw [if_pos h1]; exact h
  ·rw [if_neg h1]
   by_cases h2 : m > 1
   ·rw [if_pos h2]
    refine ⟨Prm.ltn h hn _, Prm.ltn h hn _, ?_⟩
    dsimp only
    by_cases h3 : lt (p.getD 0 0) (p.getD (m - 1) 0) = true
    ·rw [if_pos h3]; exact h
    ·rw [if_neg h3]; exact kok_part (h.rev _ _) hn _ _
   ·rw [if_neg h2]; exact kok_part h hn _ _
theorem kok_place {p : Array Nat} (h : Prm n p) (hn : 0 < n) (k : Nat) : ∀ f l r, Kok lt n (fun _ => True) (kas_place p k f l r)
 | 0, _, _ => trivial
 | f + 1, l, r => by
  show Kok lt n _ (if l >= r then _ else _)
  by_cases h1 : l >= r
  ·rw [if_pos h1]; trivial
  ·rw [if_neg h1]
   refine ⟨Prm.ltn h hn _, Prm.ltn h hn _, ?_⟩
   dsimp only
   by_cases h3 : lt (p.getD k 0) (p.getD ((l + r) / 2) 0) = true
   ·rw [if_pos h3]; exact kok_place h hn k f _ _
   ·rw [if_neg h3]; exact kok_place h hn k f _ _
theorem kok_bin (hn : 0 < n) : ∀ f {p : Array Nat} k, Prm n p -> Kok lt n (Prm n) (kas_bin f p k)
 | 0, _, _, h => h
 | f + 1, p, k, h => Kok.bind (kok_place h hn k k 0 k) fun l _ => kok_bin hn f _ (h.bub _ _)
theorem kok_sort (hn : 0 < n) : Kok lt n (Prm n) (kas_sort n) :=
 Kok.bind (kok_count (p := (List.range n).toArray) (by unfold Prm; simp) hn n) fun a ha => by
  by_cases h1 : a.1 < n
  ·rw [if_pos h1]; exact kok_bin hn _ _ ha
  ·rw [if_neg h1]; exact ha
end
section
variable {key : Nat -> Int} {n : Nat}
def Up (key : Nat -> Int) (p : Array Nat) (m : Nat) : Prop := ∀ a b, a < b -> b < m -> key (p.getD a 0) < key (p.getD b 0)
def Dn (key : Nat -> Int) (p : Array Nat) (m : Nat) : Prop := ∀ a b, a < b -> b < m -> key (p.getD b 0) < key (p.getD a 0)
theorem getD_opt (p : Array Nat) (k : Nat) : p.getD k 0 = (p[k]?).getD 0 := by
 by_cases h : k < p.size
 ·simp [Array.getD, h]
 ·simp [Array.getD, h]
theorem Prm.size {p : Array Nat} (h : Prm n p) : p.size = n := by
 have := h.length_eq
 simpa using this
theorem Prm.unlike {p : Array Nat} (h : Prm n p) (hk : ∀ i j, i < n -> j < n -> key i = key j -> i = j) {a b : Nat} (ha : a < n) (hb : b < n) (hne : a ≠ b) : key (p.getD a 0) ≠ key (p.getD b 0) := fun e => by
 have hs := h.size
 have hn : 0 < n := by omega
 have e1 := hk _ _ (h.ltn hn a) (h.ltn hn b) e
 have hnd : p.toList.Nodup := h.nodup_iff.mpr List.nodup_range
 have e2 : p.toList[a]'(by simpa [hs] using ha) = p.toList[b]'(by simpa [hs] using hb) := by
  have q1 : p.getD a 0 = p[a]'(by omega) := by simp [Array.getD, hs, ha]
  have q2 : p.getD b 0 = p[b]'(by omega) := by simp [Array.getD, hs, hb]
  rw [q1, q2] at e1
  simpa using e1
 exact hne ((List.getElem_inj hnd).mp e2)
theorem rev_get {p : Array Nat} {i j : Nat} (hj : j <= p.size) (k : Nat) : (kas_rev p i j).getD k 0 = if i <= k /\ k < j then p.getD (i + j - 1 - k) 0 else p.getD k 0 := by
 unfold kas_rev
 rw [getD_opt, getElem?_mirror_all hj]
 by_cases c : i <= k /\ k < j
 ·rw [if_pos c, if_pos c, getD_opt]
 ·rw [if_neg c, if_neg c, getD_opt]
theorem bub_get {p : Array Nat} {k l : Nat} (hk : k < p.size) (hl : l <= k) (a : Nat) : (bubble p k (k - l)).getD a 0 = if a = l then p.getD k 0 else if l < a /\ a <= k then p.getD (a - 1) 0 else p.getD a 0 := by
 rw [getD_opt, getElem?_bubble hk (k - l) (by omega), show k - (k - l) = l by omega]
 by_cases c1 : a = l
 ·rw [if_pos c1, if_pos c1, getD_opt]
 ·rw [if_neg c1, if_neg c1]
  by_cases c2 : l < a /\ a <= k
  ·rw [if_pos c2, if_pos c2, getD_opt]
  ·rw [if_neg c2, if_neg c2, getD_opt]
theorem Kok.mono {α : Type} {lt : Nat -> Nat -> Bool} {R S : α -> Prop} (h : ∀ a, R a -> S a) : ∀ {t : KasT α}, Kok lt n R t -> Kok lt n S t
 | .ret a, q => h a q
 | .ask i j k, q => ⟨q.1, q.2.1, Kok.mono h q.2.2⟩
theorem Up.snoc {p : Array Nat} {m : Nat} (h : Up key p m) (h1 : 1 <= m) (hl : key (p.getD (m - 1) 0) < key (p.getD m 0)) : Up key p (m + 1) := fun a b hab hb => by
 by_cases e : b = m
 ·subst e
  by_cases e2 : a = b - 1
  ·subst e2; exact hl
  ·exact Int.lt_trans (h a (b - 1) (by omega) (by omega)) hl
 ·exact h a b hab (by omega)
theorem Dn.snoc {p : Array Nat} {m : Nat} (h : Dn key p m) (h1 : 1 <= m) (hl : key (p.getD m 0) < key (p.getD (m - 1) 0)) : Dn key p (m + 1) := fun a b hab hb => by
 by_cases e : b = m
 ·subst e
  by_cases e2 : a = b - 1
  ·subst e2; exact hl
  ·exact Int.lt_trans hl (h a (b - 1) (by omega) (by omega))
 ·exact h a b hab (by omega)
theorem o_asc (hk : ∀ i j, i < n -> j < n -> key i = key j -> i = j) {p : Array Nat} (h : Prm n p) : ∀ f m, 1 <= m -> m + f <= n -> Up key p m ->
  Kok (fun i j => decide (key i < key j)) n (fun r => m <= r /\ r <= m + f /\ Up key p r /\ (r < m + f -> key (p.getD r 0) < key (p.getD (r - 1) 0))) (kas_asc p f m)
 | 0, m, h1, h2, hu => ⟨Nat.le_refl _, Nat.le_refl _, hu, fun z => absurd z (by omega)⟩
 | f + 1, m, h1, h2, hu => ⟨Prm.ltn h (by omega) _, Prm.ltn h (by omega) _, by
  dsimp only
  by_cases hc : key (p.getD m 0) < key (p.getD (m - 1) 0)
  ·rw [if_pos (by simpa using hc)]
   exact ⟨Nat.le_refl _, by omega, hu, fun _ => hc⟩
  ·rw [if_neg (by simpa using hc)]
   have hne := h.unlike hk (show m - 1 < n by omega) (show m < n by omega) (by omega)
   refine Kok.mono (fun r hr => ?_) (o_asc hk h f (m + 1) (by omega) (by omega) (hu.snoc h1 (by omega)))
   exact ⟨by omega, by omega, hr.2.2.1, fun z => hr.2.2.2 (by omega)⟩⟩
theorem o_desc (hk : ∀ i j, i < n -> j < n -> key i = key j -> i = j) {p : Array Nat} (h : Prm n p) : ∀ f m, 1 <= m -> m + f <= n -> Dn key p m ->
  Kok (fun i j => decide (key i < key j)) n (fun r : Array Nat × Nat × Nat => r.1 = p /\ r.2.2 = 0 /\ m <= r.2.1 /\ r.2.1 <= m + f /\ Dn key p r.2.1) (kas_desc f p m 0)
 | 0, m, h1, h2, hu => ⟨rfl, rfl, Nat.le_refl _, Nat.le_refl _, hu⟩
 | f + 1, m, h1, h2, hu => ⟨Prm.ltn h (by omega) _, Prm.ltn h (by omega) _, by
  dsimp only
  by_cases hc : key (p.getD m 0) < key (p.getD (m - 1) 0)
  ·rw [if_pos (by simpa using hc), if_neg (by omega)]
   refine Kok.mono (fun r hr => ?_) (o_desc hk h f (m + 1) (by omega) (by omega) (hu.snoc h1 hc))
   exact ⟨hr.1, hr.2.1, by omega, by omega, hr.2.2.2.2⟩
  ·rw [if_neg (by simpa using hc)]
   have hne := h.unlike hk (show m - 1 < n by omega) (show m < n by omega) (by omega)
   refine ⟨Prm.ltn h (by omega) _, Prm.ltn h (by omega) _, ?_⟩
   dsimp only
   rw [if_pos (decide_eq_true (by omega))]
   exact ⟨rfl, rfl, Nat.le_refl _, by show m <= _; omega, hu⟩⟩
theorem o_tail (hk : ∀ i j, i < n -> j < n -> key i = key j -> i = j) {p : Array Nat} (h : Prm n p) {m : Nat} (h1 : 1 <= m) (h2 : m <= n) (hd : Dn key p m) :
  Kok (fun i j => decide (key i < key j)) n (fun r : Nat × Array Nat => Prm n r.2 /\ 1 <= r.1 /\ r.1 <= n /\ Up key r.2 r.1) (kas_tail3 m n p) := by
 have hs := h.size
 have hu : Up key (kas_rev p 0 m) m := fun a b hab hb => by
  rw [rev_get (by omega), rev_get (by omega), if_pos (by omega), if_pos (by omega)]
  exact hd _ _ (by omega) (by omega)
 refine Kok.bind (o_asc hk (h.rev 0 m) (n - m) m h1 (by omega) hu) fun r hr => ?_
 exact ⟨h.rev 0 m, by show 1 <= r; omega, by show r <= n; omega, hr.2.2.1⟩
theorem o_part (hk : ∀ i j, i < n -> j < n -> key i = key j -> i = j) {p : Array Nat} (h : Prm n p) {m : Nat} (h2 : m + 1 <= n) (hd : Dn key p (m + 1)) :
  Kok (fun i j => decide (key i < key j)) n (fun r : Nat × Array Nat => Prm n r.2 /\ 1 <= r.1 /\ r.1 <= n /\ Up key r.2 r.1) (kas_descPart m n p) := by
 refine Kok.bind (o_desc hk h (n - (m + 1)) (m + 1) (by omega) (by omega) hd) fun r hr => ?_
 obtain ⟨r1, r2, r3⟩ := r
 obtain ⟨e1, e2, e3, e4, e5⟩ := hr
 dsimp only at e1 e2 e3 e4 e5 ⊢
 subst e1 e2
 rw [if_neg (by omega)]
 exact o_tail hk h (by omega) (by omega) e5
theorem o_count (hk : ∀ i j, i < n -> j < n -> key i = key j -> i = j) {p : Array Nat} (h : Prm n p) (hn : 1 <= n) :
  Kok (fun i j => decide (key i < key j)) n (fun r : Nat × Array Nat => Prm n r.2 /\ 1 <= r.1 /\ r.1 <= n /\ Up key r.2 r.1) (kas_count n p) := by
 refine Kok.bind (o_asc hk h (n - 1) 1 (by omega) (by omega) fun a b h1 h2 => absurd h1 (by omega)) fun m hm => ?_
 obtain ⟨m1, m2, m3, m4⟩ := hm
 by_cases h1 : (m == n) = true
 ·rw [if_pos h1]
  exact ⟨h, m1, by show m <= n; omega, m3⟩
 ·rw [if_neg h1]
  have h1 : m ≠ n := by simpa using h1
  by_cases h2 : m > 1
  ·rw [if_pos h2]
   refine ⟨Prm.ltn h (by omega) _, Prm.ltn h (by omega) _, ?_⟩
   dsimp only
   have := m3 0 (m - 1) (by omega) (by omega)
   rw [if_pos (by simpa using this)]
   exact ⟨h, m1, by show m <= n; omega, m3⟩
  ·rw [if_neg h2]
   have e : m = 1 := by omega
   subst e
   exact o_part hk h (by omega) fun a b hab hb => by
    have : a = 0 := by omega
    have : b = 1 := by omega
    subst a b
    exact m4 (by omega)
theorem o_place {p : Array Nat} (h : Prm n p) {k : Nat} (hkn : k < n) (hu : Up key p k) : ∀ f l r, l <= r -> r <= k -> r - l <= f -> (∀ a, a < l -> key (p.getD a 0) <= key (p.getD k 0)) -> (∀ a, r <= a -> a < k -> key (p.getD k 0) < key (p.getD a 0)) ->
  Kok (fun i j => decide (key i < key j)) n (fun l' => l' <= k /\ (∀ a, a < l' -> key (p.getD a 0) <= key (p.getD k 0)) /\ (∀ a, l' <= a -> a < k -> key (p.getD k 0) < key (p.getD a 0))) (kas_place p k f l r)
 | 0, l, r, h1, h2, h3, ha, hb => ⟨by omega, ha, fun a q1 q2 => hb a (by omega) q2⟩
 | f + 1, l, r, h1, h2, h3, ha, hb => by
  show Kok _ n _ (if l >= r then _ else _)
  by_cases hc : l >= r
  ·rw [if_pos hc]
   exact ⟨by omega, ha, fun a q1 q2 => hb a (by omega) q2⟩
  ·rw [if_neg hc]
   refine ⟨Prm.ltn h (by omega) _, Prm.ltn h (by omega) _, ?_⟩
   dsimp only
   by_cases hd : key (p.getD k 0) < key (p.getD ((l + r) / 2) 0)
   ·rw [if_pos (by simpa using hd)]
    refine o_place h hkn hu f _ _ (by omega) (by omega) (by omega) ha fun a q1 q2 => ?_
    by_cases e : a = (l + r) / 2
    ·rw [e]; exact hd
    ·exact Int.lt_trans hd (hu _ _ (by omega) q2)
   ·rw [if_neg (by simpa using hd)]
    refine o_place h hkn hu f _ _ (by omega) (by omega) (by omega) (fun a q1 => ?_) hb
    by_cases e : a = (l + r) / 2
    ·rw [e]; omega
    ·have := hu a ((l + r) / 2) (by omega) (by omega)
     omega
theorem o_bin (hk : ∀ i j, i < n -> j < n -> key i = key j -> i = j) : ∀ f {p : Array Nat} k, Prm n p -> k + f = n -> Up key p k -> Kok (fun i j => decide (key i < key j)) n (fun p' => Prm n p' /\ Up key p' n) (kas_bin f p k)
 | 0, p, k, h, e, hu => ⟨h, by rwa [<- e]⟩
 | f + 1, p, k, h, e, hu => by
  refine Kok.bind (o_place h (by omega) hu k 0 k (by omega) (by omega) (by omega) (fun a q => absurd q (by omega)) (fun a q1 q2 => absurd q2 (by omega))) fun l hl => ?_
  obtain ⟨l1, l2, l3⟩ := hl
  have hs := h.size
  refine o_bin hk f (k + 1) (h.bub _ _) (by omega) fun a b hab hb => ?_
  have hlt : ∀ x, x < l -> key (p.getD x 0) < key (p.getD k 0) := fun x hx => by
   have := l2 x hx
   have := h.unlike hk (show x < n by omega) (show k < n by omega) (by omega)
   omega
  rw [bub_get (by omega) l1, bub_get (by omega) l1]
  by_cases c1 : a = l
  ·rw [if_pos c1, if_neg (by omega), if_pos (by omega)]
   exact l3 _ (by omega) (by omega)
  ·rw [if_neg c1]
   by_cases c2 : b = l
   ·rw [if_neg (by omega), if_pos c2]
    exact hlt _ (by omega)
   ·rw [if_neg c2]
    by_cases c3 : l < a
    ·rw [if_pos (by omega), if_pos (by omega)]
     exact hu _ _ (by omega) (by omega)
    ·rw [if_neg (by omega)]
     by_cases c4 : l < b
     ·rw [if_pos (by omega)]
      by_cases c5 : b - 1 = a
      ·omega
      ·exact hu _ _ (by omega) (by omega)
     ·rw [if_neg (by omega)]
      exact hu _ _ hab (by omega)
theorem o_sort (hk : ∀ i j, i < n -> j < n -> key i = key j -> i = j) (hn : 1 <= n) : Kok (fun i j => decide (key i < key j)) n (fun p => Prm n p /\ Up key p n) (kas_sort n) :=
 Kok.bind (o_count hk (p := (List.range n).toArray) (by unfold Prm; simp) hn) fun a ha => by
  obtain ⟨a1, a2, a3, a4⟩ := ha
  by_cases h1 : a.1 < n
  ·rw [if_pos h1, show max a.1 1 = a.1 by omega]
   exact o_bin hk _ _ a1 (by omega) a4
  ·rw [if_neg h1]
   have e : a.1 = n := by omega
   exact ⟨a1, by rwa [e] at a4⟩
end
section
variable {n : Nat} {lt : Nat -> Nat -> Bool}
theorem count_lt {p q : Nat -> Bool} : ∀ {l : List Nat} {i : Nat}, i ∈ l -> (∀ x ∈ l, p x = true -> q x = true) -> p i = false -> q i = true -> l.countP p < l.countP q
 | [], _, h, _, _, _ => by cases h
 | a :: l, i, h, hpq, hp, hq => by
  rw [List.countP_cons, List.countP_cons]
  have hm : l.countP p <= l.countP q := List.countP_mono_left fun x hx => hpq x (List.mem_cons_of_mem _ hx)
  rcases List.mem_cons.mp h with rfl | h
  ·rw [hp, hq]
   simp
   omega
  ·have ih := count_lt h (fun x hx => hpq x (List.mem_cons_of_mem _ hx)) hp hq
   have := hpq a List.mem_cons_self
   cases hpa : p a with
   | true => rw [this hpa]; simp; exact ih
   | false => simp; split <;> omega
theorem Kok.congr {α : Type} {lt' : Nat -> Nat -> Bool} {R : α -> Prop} (h : ∀ i j, i < n -> j < n -> lt i j = lt' i j) : ∀ {t : KasT α}, Kok lt n R t -> Kok lt' n R t
 | .ret a, q => q
 | .ask i j k, q => ⟨q.1, q.2.1, h i j q.1 q.2.1 ▸ Kok.congr h q.2.2⟩
theorem o_sortL (irr : ∀ i, i < n -> lt i i = false) (tr : ∀ i j k, i < n -> j < n -> k < n -> lt i j = true -> lt j k = true -> lt i k = true) (tot : ∀ i j, i < n -> j < n -> i ≠ j -> lt i j = true \/ lt j i = true) (hn : 1 <= n) :
  Kok lt n (fun p => Prm n p /\ ∀ a b, a < b -> b < n -> lt (p.getD a 0) (p.getD b 0) = true) (kas_sort n) := by
 obtain ⟨key, hkey⟩ : ∃ key : Nat -> Int, ∀ i, key i = (((List.range n).countP fun x => lt x i : Nat) : Int) := ⟨_, fun _ => rfl⟩
 have up : ∀ i j, i < n -> j < n -> lt i j = true -> key i < key j := fun i j hi hj h => by
  rw [hkey, hkey]
  have := count_lt (p := fun x => lt x i) (q := fun x => lt x j) (l := List.range n) (i := i) (List.mem_range.mpr hi) (fun x hx hxi => tr x i j (List.mem_range.mp hx) hi hj hxi h) (irr i hi) h
  omega
 have eq : ∀ i j, i < n -> j < n -> lt i j = decide (key i < key j) := fun i j hi hj => by
  cases h : lt i j with
  | true => exact (decide_eq_true (up i j hi hj h)).symm
  | false =>
   refine (decide_eq_false fun z => ?_).symm
   by_cases e : i = j
   ·rw [e] at z; omega
   ·rcases tot i j hi hj e with t | t
    ·rw [h] at t; cases t
    ·have := up j i hj hi t
     omega
 have hk : ∀ i j, i < n -> j < n -> key i = key j -> i = j := fun i j hi hj e => by
  by_cases h : i = j
  ·exact h
  ·rcases tot i j hi hj h with t | t
   ·have := up i j hi hj t; omega
   ·have := up j i hj hi t; omega
 refine Kok.congr (lt := fun i j => decide (key i < key j)) (fun i j hi hj => (eq i j hi hj).symm) (Kok.mono (fun p hp => ⟨hp.1, fun a b hab hb => ?_⟩) (o_sort hk hn))
 rw [eq _ _ (hp.1.ltn (by omega) _) (hp.1.ltn (by omega) _)]
 exact decide_eq_true (hp.2 a b hab hb)
end
def lexB : List Int -> List Int -> Bool -> Bool
 | x :: xs, y :: ys, f => if x = y then lexB xs ys f else decide (x < y)
 | [], _, f => f
 | _ :: _, [], f => f
theorem lex_irr : ∀ a : List Int, lexB a a false = false
 | [] => rfl
 | x :: a => by rw [lexB, if_pos rfl, lex_irr a]
theorem lex_tr : ∀ {a b c : List Int}, a.length = b.length -> b.length = c.length -> lexB a b false = true -> lexB b c false = true -> lexB a c false = true
 | [], _, _, _, _, h, _ => by simp [lexB] at h
 | x :: a, [], _, h, _, _, _ => by simp at h
 | x :: a, y :: b, [], _, h, _, _ => by simp at h
 | x :: a, y :: b, z :: c, h1, h2, h, h' => by
  rw [lexB] at h h' ⊢
  by_cases e1 : x = y
  ·subst e1
   rw [if_pos rfl] at h
   by_cases e2 : x = z
   ·subst e2
    rw [if_pos rfl] at h' ⊢
    exact lex_tr (by simpa using h1) (by simpa using h2) h h'
   ·rw [if_neg e2] at h' ⊢
    exact h'
  ·rw [if_neg e1] at h
   have h := of_decide_eq_true h
   by_cases e2 : y = z
   ·subst e2
    rw [if_neg e1]
    exact decide_eq_true h
   ·rw [if_neg e2] at h'
    have h' := of_decide_eq_true h'
    rw [if_neg (by omega)]
    exact decide_eq_true (by omega)
theorem lex_tot : ∀ {a b : List Int}, a.length = b.length -> a ≠ b -> lexB a b false = true \/ lexB b a false = true
 | [], [], _, h => (h rfl).elim
 | [], y :: b, h, _ => by simp at h
 | x :: a, [], h, _ => by simp at h
 | x :: a, y :: b, h, hne => by
  rw [lexB, lexB]
  by_cases e : x = y
  ·subst e
   rw [if_pos rfl, if_pos rfl]
   exact lex_tot (by simpa using h) fun z => hne (by rw [z])
  ·rw [if_neg e, if_neg (Ne.symm e)]
   rcases Int.lt_or_gt_of_ne e with q | q
   ·exact .inl (decide_eq_true q)
   ·exact .inr (decide_eq_true q)
section
variable {P : Program} {w : World} {A : Around} {E : Value -> Shared -> Prop} {s : Shared}
theorem lex_ints {b f : Bool} {Q : Bool -> Shared -> Prop} : ∀ {ms ns : List Int} {xs ys : List Value}, Vals (ms.map V.int) xs -> Vals (ns.map V.int) ys -> ∀ i, Q (lexB ms ns f) s -> KatLex P w A b f Q (xs.zip ys) i s
 | [], _, _, _, r, _, i, h => by
  cases r
  exact h
 | m :: ms, [], _, _, r, r', i, h => by
  cases r'
  rw [List.zip_nil_right]
  exact h
 | m :: ms, n :: ns, _, _, r, r', i, h => by
  rw [List.map_cons] at r r'
  cases r with
  | cons a1 a2 =>
  cases r' with
  | cons b1 b2 =>
  obtain ⟨t, rfl⟩ := a1
  obtain ⟨t', rfl⟩ := b1
  rw [List.zip_cons_cons]
  refine kat_cons (wpAny_eqBool_int ?_)
  by_cases e : m = n
  ·rw [show (m == n) = true by simp [e]]
   refine kat_yes (lex_ints a2 b2 (i + 1) ?_)
   rwa [lexB, if_pos e] at h
  ·rw [show (m == n) = false by simp [e]]
   refine kat_no ?_
   rw [lexB, if_neg e] at h
   cases hf : (b && i == 0) with
   | true => exact oneLt_int h
   | false => exact kat_one _ _ (lt_int h)
theorem tups_of {h : Heap} : ∀ {us : List Value}, (∀ v ∈ us, ∃ b o xs m i t, v = .ref b /\ h.get? b = some o /\ o.cls = .type "tuple" /\ o.data = .seq xs m /\ xs[0]? = some (Value.int i t)) ->
  ∃ fs, KatTups h us fs /\ fs.length = us.length /\ ∀ f ∈ fs, ∃ i t, f = Value.int i t
 | [], _ => ⟨[], trivial, rfl, fun _ h => by cases h⟩
 | v :: us, hv => by
  obtain ⟨b, o, xs, m, i, t, rfl, h1, h2, h3, h4⟩ := hv v (.head _)
  obtain ⟨fs, k1, k2, k3⟩ := tups_of (us := us) fun v hm => hv v (.tail _ hm)
  exact ⟨_ :: fs, KatTups.cons h1 h2 h3 h4 k1, by rw [List.length_cons, List.length_cons, k2], fun f hf => (List.mem_cons.mp hf).elim (fun e => ⟨i, t, e⟩) (k3 f)⟩
theorem sort_tups {G : Array Nat -> Prop} {a : Addr} {us : List Value} {n : Nat} {R : PySem.Fin -> Shared -> Prop} (fs : Nat -> List Int) (hob : s.heap.get? a = some (seqObj "list" us.toArray n)) (hlen : us.length < 64)
  (hT : ∀ i, i < us.length -> fs i ≠ [] /\ ∃ b o xs m, us.getD i Value.none = .ref b /\ b ≠ a /\ s.heap.get? b = some o /\ o.cls = .type "tuple" /\ o.data = .seq xs m /\ Vals ((fs i).map V.int) xs.toList)
  (hG : 0 < us.length -> Kok (fun i j => lexB (fs i) (fs j) (decide ((fs i).length < (fs j).length))) us.length G (kas_sort us.length)) (hG0 : us.length < 2 -> G (List.range us.length).toArray) (hGP : ∀ p, G p -> Prm us.length p)
  (fin : ∀ p : Array Nat, G p -> R (.done (.ret .none)) { s with heap := sortedHeap s.heap a us (List.toArray (p.toList.map fun i => us.getD i Value.none)) }) :
  wpAny (model P w) A (Builtin.«list.sort» ⟨[.ref a], []⟩) R E s := by
 have hal : a < s.heap.objs.size := Heap.lt_size hob
 have hus : us.toArray.size = us.length := by simp
 rw [list_sort_plain]
 refine wpAny_bind (listItems_at hob rfl ?_); refine wpAny_bind (listUpdate_at hob rfl ?_ (by rw [hus, sizeLine_eq]; omega) (Nat.zero_le _))
 obtain ⟨e1, hob1⟩ : ∃ e1, (s.heap.update a (Obj.mapSeq fun _ => #[])).get? a = some (seqObj "list" #[] e1) := ⟨_, get?_update_seq hob (fun _ => #[])⟩
 refine wpAny_bind (seqEpoch_at hob1 rfl ?_); refine wpAny_bind (wpAny_newTuple ?_ (by show us.length <= _; rw [sizeLine_eq]; omega)); refine wpAny_bind (wpAny_newList ?_ (Nat.zero_le _)); refine wpAny_holding ?_
 have keep : ∀ b o, b ≠ a -> s.heap.get? b = some o -> (((s.heap.update a (Obj.mapSeq fun _ => #[])).push (seqObj "tuple" us.toArray 0)).push (seqObj "list" #[] 0)).get? b = some o := fun b o hb e =>
  Heap.get?_push_of_some _ (Heap.get?_push_of_some _ ((Heap.get?_update_ne _ _ _ _ hb).trans e))
 have hob6 : (((s.heap.update a (Obj.mapSeq fun _ => #[])).push (seqObj "tuple" us.toArray 0)).push (seqObj "list" #[] 0)).get? a = some (seqObj "list" #[] e1) := Heap.get?_push_of_some _ (Heap.get?_push_of_some _ hob1)
 show wpAny (model P w) A _ R E { s with heap := ((s.heap.update a (Obj.mapSeq fun _ => #[])).push (seqObj "tuple" us.toArray 0)).push (seqObj "list" #[] 0) }
 dsimp only
 by_cases h2 : us.toArray.size < 2
 ·rw [if_pos h2, if_pos h2]
  refine wpAny_bind (wpAny_pure ?_); rw [StateT.run_pure]; refine wpAny_bind (wpAny_pure ?_); dsimp only
  have har := kat_snds (ks := us) (vs := us) rfl (st := SortSt.mk' general' (us.toArray.zip us.toArray) #[] 7 none) (p := (List.range us.length).toArray) (by
   have e := kas_range (us.toArray.zip us.toArray)
   rw [show (us.toArray.zip us.toArray).size = us.length by simp] at e
   exact e.symm)
  rw [har]
  refine wpAny_bind (seqEpoch_at hob6 rfl ?_); refine wpAny_bind (listUpdate_at hob6 rfl ?_ (Nat.zero_le _) (by rw [sizeLine_eq]; simp; omega))
  simp only [bne_self_eq_false, Bool.false_eq_true, if_false]
  exact wpAny_pure (fin _ (hG0 (by rw [<- hus]; exact h2)))
 ·rw [if_neg h2, if_neg h2]
  have hn : 0 < us.length := by omega
  obtain ⟨ff, k1, k2, k3⟩ := tups_of (h := ((s.heap.update a (Obj.mapSeq fun _ => #[])).push (seqObj "tuple" us.toArray 0)).push (seqObj "list" #[] 0)) (us := us) (by
   intro v hv
   obtain ⟨i, hi, e⟩ := List.getElem_of_mem hv
   obtain ⟨g0, b, o, xs, m, g1, g2, g3, g4, g5, g6⟩ := hT i hi
   have e2 : us.getD i Value.none = v := by rw [<- e]; simp [hi]
   cases hq : fs i with
   | nil => exact (g0 hq).elim
   | cons z zs =>
    rw [hq, List.map_cons] at g6
    cases hx : xs.toList with
    | nil => rw [hx] at g6; cases g6
    | cons u ur =>
     rw [hx] at g6
     cases g6 with
     | cons r1 r2 =>
     obtain ⟨t, rfl⟩ := r1
     refine ⟨b, o, xs, m, z, t, e2.symm.trans g1, keep _ _ g2 g3, g4, g5, ?_⟩
     rw [<- Array.getElem?_toList, hx]; rfl)
  refine wpAny_bind (kat_kind k1 (by omega) (fun v hv => ?_) (T := .type "int") rfl ?_)
  ·obtain ⟨i, t, rfl⟩ := k3 v hv
   exact Looks.of_pure rfl
  refine wpAny_bind (wpAny_mono (kat_run (ks := us) (vs := us) (Q := fun st' s' => ∃ p : Array Nat, arrOf st' = p.map (kas_item (us.toArray.zip us.toArray)) /\ failedOf st' = none /\ G p /\ s' = { s with heap := ((s.heap.update a (Obj.mapSeq fun _ => #[])).push (seqObj "tuple" us.toArray 0)).push (seqObj "list" #[] 0) })
   (G := fun p s' => G p /\ s' = { s with heap := ((s.heap.update a (Obj.mapSeq fun _ => #[])).push (seqObj "tuple" us.toArray 0)).push (seqObj "list" #[] 0) }) rfl (by omega) hlen (fun p st' s' a1 a2 a3 a4 => ⟨p, a2, a3, a4.1, a4.2⟩)
   (Kok.wp (lt := fun i j => lexB (fs i) (fs j) (decide ((fs i).length < (fs j).length))) (fun i j C hi hj hC => ?_) (hG hn) fun p hp => ⟨hp, rfl⟩)) ?_ fun _ _ e => e)
  ·obtain ⟨_, b, o, xs, m, g1, g2, g3, g4, g5, g6⟩ := hT i hi
   obtain ⟨_, b', o', xs', m', g1', g2', g3', g4', g5', g6'⟩ := hT j hj
   show wpAny _ _ (keyLt' _ (us.getD i Value.none) (us.getD j Value.none)) _ _ _
   rw [g1, g1']
   refine kat_lt (keep _ _ g2 g3) g5 (keep _ _ g2' g3') g5' (lex_ints g6 g6' 0 ?_)
   have z1 : (fs i).length = xs.size := by simpa using g6.length
   have z2 : (fs j).length = xs'.size := by simpa using g6'.length
   rw [<- z1, <- z2]
   exact hC
  ·rintro ⟨⟨⟩, st'⟩ s' ⟨p, har, hf, hp, rfl⟩
   dsimp only
   rw [kat_snds (ks := us) (vs := us) rfl har]
   have hpl : p.toList.length = us.length := by rw [(hGP p hp).length_eq]; simp
   refine wpAny_bind (seqEpoch_at hob6 rfl ?_); refine wpAny_bind (listUpdate_at hob6 rfl ?_ (Nat.zero_le _) (by rw [sizeLine_eq]; simp at hpl ⊢; omega))
   rw [hf]
   simp only [bne_self_eq_false, Bool.false_eq_true, if_false]
   exact wpAny_pure (fin p hp)
end
section
variable {X : Cx}
def rSortT (K : Fg_) : List V -> Hp -> VK -> Prop := fun xs H Q => ∃ (a : Addr) (ys : List V) (ts : V -> List Int), xs = [.ref a] /\ SqL K H a ys /\ ys.length < 64 /\ (∀ y ∈ ys, ts y ≠ [] /\ ∃ b, y = .ref b /\ SqT K H b ((ts y).map V.int)) /\
 ∀ p zs, H p = none -> zs.Perm ys -> (∀ m, (∀ y ∈ ys, (ts y).length = m) -> (ys.map ts).Nodup -> zs.Pairwise fun y z => lexB (ts y) (ts z) false = true) -> Q (.ref p) (upd H p (.lst zs))
theorem vals_getD : ∀ {ys : List V} {us : List Value} {i : Nat}, Vals ys us -> i < ys.length -> RelV (ys.getD i .non) (us.getD i Value.none)
 | _, _, _, .nil, h => by simp at h
 | _, _, 0, .cons r _, _ => r
 | _, _, i + 1, .cons _ t, h => by
  simp only [List.getD_cons_succ]
  exact vals_getD t (by simpa using h)
theorem vals_pick {ys : List V} {us : List Value} (r : Vals ys us) : ∀ {l : List Nat}, (∀ i ∈ l, i < ys.length) -> Vals (l.map fun i => ys.getD i .non) (l.map fun i => us.getD i Value.none)
 | [], _ => .nil
 | i :: l, h => .cons (vals_getD r (h i (.head _))) (vals_pick r fun j hj => h j (.tail _ hj))
theorem getD_rangeV (ys : List V) : ((List.range ys.length).map fun i => ys.getD i V.non) = ys := by
 refine List.ext_getElem (by simp) fun i h1 h2 => ?_
 simp [h2]
def SortOk (ys : List V) (ts : V -> List Int) (p : Array Nat) : Prop := ∀ m, (∀ y ∈ ys, (ts y).length = m) -> (ys.map ts).Nodup -> ∀ a b, a < b -> b < ys.length -> lexB (ts (ys.getD (p.getD a 0) .non)) (ts (ys.getD (p.getD b 0) .non)) false = true
theorem sort_ok {ys : List V} {ts : V -> List Int} (hn : 1 <= ys.length) : Kok (fun i j => lexB (ts (ys.getD i .non)) (ts (ys.getD j .non)) (decide ((ts (ys.getD i .non)).length < (ts (ys.getD j .non)).length))) ys.length (fun p => Prm ys.length p /\ SortOk ys ts p) (kas_sort ys.length) := by
 by_cases h : ∃ m, (∀ y ∈ ys, (ts y).length = m) /\ (ys.map ts).Nodup
 ·obtain ⟨m, h1, h2⟩ := h
  have hm : ∀ i, i < ys.length -> (ts (ys.getD i .non)).length = m := fun i hi => h1 _ (by simp [hi])
  have hf : ∀ i j, i < ys.length -> j < ys.length -> decide ((ts (ys.getD i .non)).length < (ts (ys.getD j .non)).length) = false := fun i j hi hj => by
   rw [hm i hi, hm j hj]; simp
  refine Kok.mono (fun p hp => ⟨hp.1, fun _ _ _ a b hab hb => ?_⟩) (o_sortL (n := ys.length) (lt := fun i j => lexB (ts (ys.getD i .non)) (ts (ys.getD j .non)) (decide ((ts (ys.getD i .non)).length < (ts (ys.getD j .non)).length))) (fun i hi => ?_) (fun i j k hi hj hk h h' => ?_) (fun i j hi hj hne => ?_) hn)
  ·rw [hf i i hi hi]; exact lex_irr _
  ·rw [hf i j hi hj] at h
   rw [hf j k hj hk] at h'
   rw [hf i k hi hk]
   exact lex_tr ((hm i hi).trans (hm j hj).symm) ((hm j hj).trans (hm k hk).symm) h h'
  ·rw [hf i j hi hj, hf j i hj hi]
   refine lex_tot ((hm i hi).trans (hm j hj).symm) fun e => hne ?_
   refine (List.getElem?_inj (by rw [List.length_map]; exact hi) h2).mp ?_
   rw [List.getElem?_map, List.getElem?_map, List.getElem?_eq_getElem hi, List.getElem?_eq_getElem hj]
   have q1 : ys.getD i .non = ys[i] := by simp [hi]
   have q2 : ys.getD j .non = ys[j] := by simp [hj]
   rw [q1, q2] at e
   exact congrArg some e
  ·have := hp.2 a b hab hb
   rwa [hf _ _ (hp.1.ltn (by omega) _) (hp.1.ltn (by omega) _)] at this
 ·exact Kok.mono (fun p hp => ⟨hp, fun m h1 h2 => absurd ⟨m, h1, h2⟩ h⟩) (kok_sort hn)
theorem call_sortT : CallR X (.builtin "sorted") (rSortT X.K) := by
 intro pins s σ H xs us Q I r h
 obtain ⟨a, ys, ts, rfl, hq, hlen, hT, q⟩ := h
 obtain ⟨u, rfl, rx⟩ := vals1 r
 cases rx
 obtain ⟨its, rv, pl, hz⟩ := I.list hq
 have hil : ys.length = its.length := rv.length
 have hl := pl.isList
 refine Calls.call_function_entry kind_sorted plain_sorted entry_sorted (args_sorted1 _) ?_
 unfold Builtin.«sorted»; refine wpAny_bind (m := checkCount "sorted" 1 1 _) (wpAny_pure ?_); refine wpAny_bind (collect_list hl ?_ (by omega)); refine wpAny_bind (wpAny_newList ?_ (by omega))
 have hsz : ((s.heap.push (seqObj "list" #[] 0)).update s.heap.objs.size (Obj.mapSeq (· ++ its.toArray))).objs.size = s.heap.objs.size + 1 := by rw [Heap.size_update, size_push']
 have hob : (((s.heap.push (seqObj "list" #[] 0)).update s.heap.objs.size (Obj.mapSeq (· ++ its.toArray))).push (seqObj "list" its.toArray 0)).get? (s.heap.objs.size + 1) = some (seqObj "list" its.toArray 0) := by rw [<- hsz]; exact Heap.get?_push_size _ rfl
 have keep : ∀ b o, s.heap.get? b = some o -> (((s.heap.push (seqObj "list" #[] 0)).update s.heap.objs.size (Obj.mapSeq (· ++ its.toArray))).push (seqObj "list" its.toArray 0)).get? b = some o := fun b o e =>
  Heap.get?_push_of_some _ ((Heap.get?_update_ne _ _ _ _ (Nat.ne_of_lt (Heap.lt_size e))).trans (Heap.get?_push_of_some _ e))
 show wpAny _ _ _ _ _ { s with heap := ((s.heap.push (seqObj "list" #[] 0)).update s.heap.objs.size (Obj.mapSeq (· ++ its.toArray))).push (seqObj "list" its.toArray 0) }
 rw [hsz]
 refine wpAny_bind (wpAny_holding (wpAny_call_entry slot_list_sort ⟨_, hob, rfl⟩ entry_list_sort (sort_tups (G := fun p => Prm its.length p /\ SortOk ys ts p) (fun i => ts (ys.getD i .non)) hob (by omega) (fun i hi => ?_) (fun hn => hil ▸ sort_ok (by omega)) (fun h2 => ⟨List.Perm.refl _, fun m _ _ a b hab hb => absurd hab (by omega)⟩) (fun p hp => hp.1) fun p hp2 => ⟨_, rfl, wpAny_pure ⟨_, rfl, ?_⟩⟩) (args_list_sort _)))
 ·have hm : ys.getD i .non ∈ ys := by
   have : i < ys.length := by omega
   simp [this]
  obtain ⟨g0, b, e, hb⟩ := hT _ hm
  obtain ⟨tv, rt, it, hz'⟩ := I.tuple hb
  obtain ⟨o, ho, hc, m, hd⟩ := it
  refine ⟨g0, b, o, tv.toArray, m, ?_, ?_, keep _ _ ho, hc, hd, rt⟩
  ·have := vals_getD rv (i := i) (by omega)
   rw [e] at this
   exact this
  ·exact Nat.ne_of_lt (Nat.lt_succ_of_lt (Heap.lt_size ho))
 ·obtain ⟨hp, hord⟩ := hp2
  have hin : ∀ i ∈ p.toList, i < ys.length := fun i hi => by
   have := List.mem_range.mp (hp.mem_iff.mp hi)
   omega
  have hpl : p.toList.length = its.length := by rw [hp.length_eq]; simp
  have hzs : (p.toList.map fun i => ys.getD i V.non).Perm ys := by
   have := hp.map fun i => ys.getD i V.non
   rw [<- hil, getD_rangeV] at this
   exact this
  have kp : ∀ b o, s.heap.get? b = some o -> (sortedAll s.heap its (List.toArray (p.toList.map fun i => its.getD i Value.none))).get? b = some o := fun b o e => by
   have hb : b ≠ s.heap.objs.size + 1 := Nat.ne_of_lt (Nat.lt_succ_of_lt (Heap.lt_size e))
   exact (Heap.get?_update_ne _ _ _ _ hb).trans (Heap.get?_push_of_some _ (Heap.get?_push_of_some _ ((Heap.get?_update_ne _ _ _ _ hb).trans (keep b o e))))
  obtain ⟨c, hc⟩ : ∃ c, (sortedAll s.heap its (List.toArray (p.toList.map fun i => its.getD i Value.none))).get? (s.heap.objs.size + 1) = some (seqObj "list" (List.toArray (p.toList.map fun i => its.getD i Value.none)) c) :=
   ⟨_, get?_update_seq (Heap.get?_push_of_some _ (Heap.get?_push_of_some _ (get?_update_seq hob (fun _ => #[])))) _⟩
  refine ⟨.ref (s.heap.objs.size + 1), _, I.laid (t' := s.toks) kp (Nat.le_succ _) (show ObjOk X.prog X.w _ _ _ (.lst (p.toList.map fun i => ys.getD i V.non)) from ⟨?_, _, c, vals_pick rv hin, hc⟩), rfl, q _ _ (I.hok.fresh (Nat.le_succ _)) hzs fun m h1 h2 => ?_⟩
  rotate_left
  ·refine List.pairwise_iff_getElem.mpr fun i j hi hj hij => ?_
   rw [List.length_map, hpl, <- hil] at hj
   have h3 := hord m h1 h2 i j hij hj
   have hs : p.size = ys.length := by rw [<- Array.length_toList, hpl, hil]
   have e1 : p.getD i 0 = p.toList[i]'(by rw [Array.length_toList]; omega) := by simp [Array.getD, show i < p.size by omega]
   have e2 : p.getD j 0 = p.toList[j]'(by rw [Array.length_toList]; omega) := by simp [Array.getD, show j < p.size by omega]
   rw [e1, e2] at h3
   rw [List.getElem_map, List.getElem_map]
   exact h3
  rw [List.length_map, hpl, sizeLine_eq]
  omega
theorem call_sortTK {K : Fg_} (hK : X.K = K := by rfl) : CallR X (.builtin "sorted") (rSortT K) := hK ▸ call_sortT
theorem ap_rSortT {K : Fg_} {a : Addr} {H : Hp} {Q : VK} : rSortT K [.ref a] H Q = ∃ (ys : List V) (ts : V -> List Int), SqL K H a ys /\ ys.length < 64 /\ (∀ y ∈ ys, ts y ≠ [] /\ ∃ b, y = .ref b /\ SqT K H b ((ts y).map V.int)) /\
  ∀ p zs, H p = none -> zs.Perm ys -> (∀ m, (∀ y ∈ ys, (ts y).length = m) -> (ys.map ts).Nodup -> zs.Pairwise fun y z => lexB (ts y) (ts z) false = true) -> Q (.ref p) (upd H p (.lst zs)) := by simp [rSortT]
end
def But (D : Addr) (H H' : Hp) : Prop := ∀ b u, b ≠ D -> H b = some u -> H' b = some u
theorem Same.seqT {K : Fg_} {H H' : Hp} {a : Addr} {xs : List V} (e : Same H H') (h : SqT K H a xs) : SqT K H' a xs := h.elim (fun h => h.elim (fun h => .inl (.inl (e _ _ h))) fun ⟨o, h⟩ => .inl (.inr ⟨o, e _ _ h⟩)) .inr
section
variable {K : Fg_} {a : Addr} {xs : List V} {g : TG} {te : TE} {σ : St} {H : Hp} {Q : VK} {cap : List (Option Nat)}
theorem CompP.listE (Sσ : St -> Prop) (F : Nat -> V -> Hp -> Prop) (hS : SqL K H a xs) (h0 : Sσ (capSt σ cap)) (hz : xs.length <= sizeLine)
  (hs : ∀ D i x, xs[i]? = some x -> ∀ (σ : St) (H5 : Hp) (R : St -> VK), Sσ σ -> Same H H5 -> H D = Option.none -> (∃ acc, H5 D = some (.lst acc)) -> (∀ v σ4 H6, Sσ σ4 -> Same H5 H6 -> (∀ H', But D H6 H' -> F i v H') -> R σ4 v H6) ->
   g x σ H5 fun σ4 H4 => te σ4 H4 (R σ4))
  (k : ∀ D H' acc, H D = Option.none -> Same H H' -> H' D = some (.lst acc) -> acc.length = xs.length -> (∀ i v, acc[i]? = some v -> F i v H') -> Q (.ref D) H') : CompP cap (Itl K a) g tNoIf te σ H Q := by
 intro D hD
 refine ⟨fun i m acc σ H2 => m = xs.length - i /\ i <= xs.length /\ Sσ σ /\ Same H H2 /\ acc.length = i /\ ∀ j v, acc[j]? = some v -> ∀ H', But D H2 H' -> F j v H', ⟨xs.length, rfl, Nat.zero_le _, h0, Same.new hD, rfl, fun j v e => by simp at e⟩, ?_⟩
 rintro i m acc σ1 H2 ⟨rfl, hi, hσ, sm, hal, hF⟩ hA
 by_cases hlt : i < xs.length
 ·have hx : xs[i]? = some xs[i] := by simp [hlt]
  refine .inr ⟨⟨xs, xs[i], sm.seq hS, hx⟩, fun y H3 hy => ?_⟩
  obtain rfl : H3 = H2 := hy.1
  obtain rfl : y = xs[i] := Option.some.inj ((hy.2 xs (sm.seq hS)).symm.trans hx)
  simp only [ap_noIf, if_true]
  refine hs D i _ hx σ1 H3 _ hσ sm hD ⟨_, hA⟩ fun v σ4 H6 hσ4 s6 hF6 => ?_
  have hA6 := s6 _ _ hA
  refine ⟨acc, hA6, by omega, xs.length - (i + 1), by omega, rfl, hlt, hσ4, (sm.trans s6).upd hD, by rw [List.length_append, hal]; rfl, fun j u hj H' hb => ?_⟩
  have hb6 : But D H6 H' := fun b o hne e => hb b o hne ((upd_ne hne).trans e)
  by_cases hjl : j < acc.length
  ·rw [List.getElem?_append_left hjl] at hj
   exact hF j u hj H' fun b o hne e => hb6 b o hne (s6 _ _ e)
  ·rw [List.getElem?_append_right (by omega)] at hj
   have hj0 : j - acc.length = 0 := by
    have := (List.getElem?_eq_some_iff.mp hj).1
    simp at this
    omega
   rw [hj0] at hj
   cases hj
   obtain rfl : j = i := by omega
   exact hF6 H' hb6
 ·obtain rfl : i = xs.length := by omega
  exact .inl ⟨⟨xs, sm.seq hS, Nat.le_refl _⟩, k D H2 acc hD sm hA hal fun j v e => hF j v e H2 fun b o _ e => e⟩
theorem CompP.tupF (Sσ : St -> Prop) (F : V -> V) (hS : SqT K H a xs) (h0 : Sσ (capSt σ cap)) (hz : xs.length <= sizeLine)
  (hs : ∀ x ∈ xs, ∀ (σ : St) (H5 : Hp) (R : St -> VK), Sσ σ -> Same H H5 -> (∀ σ4 H6, Sσ σ4 -> Same H5 H6 -> R σ4 (F x) H6) -> g x σ H5 fun σ4 H4 => te σ4 H4 (R σ4))
  (k : ∀ D H', H D = Option.none -> Same H H' -> H' D = some (.lst (xs.map F)) -> Q (.ref D) H') : CompP cap (Itt K a) g tNoIf te σ H Q := by
 intro D hD
 have z := comp_step (te := te) (tt := tNoIf) (g := g) (σ0 := capSt σ cap) (Q := Q) (Itt K a) Sσ (fun _ => true) F hD h0 hz (fun i x H5 hx sm => ⟨⟨xs, x, sm.seqT hS, hx⟩, fun y H' hy => ⟨Option.some.inj ((hy.2 xs (sm.seqT hS)).symm.trans hx), hy.1⟩⟩) (fun H5 sm => ⟨xs, sm.seqT hS, Nat.le_refl _⟩)
  (fun x hx σ5 H5 R1 R2 hσ sm k1 k2 => by
   simp only [ap_noIf, if_true]
   exact hs x hx σ5 H5 R1 hσ sm (k1 rfl)) (fun H' sm e => k D H' hD sm (by rw [filt_true] at e; exact e))
 exact z
end
end L2
namespace L2
open PySem PySem.Spec PyProof.Rows
structure Mk0 (K : Fg_) (C : Addr) : Prop where
 makes : PySem.W.makesIn K C = true
 init : PySem.W.findIn K (.ref C) "__init__" = some (some (.builtin "object.__init__"))
 kp : PySem.W.keepIn K (.ref C) = true
def tNew0 (C : Addr) : TE := fun _ H Q => ∀ x dx, H x = none -> H dx = none -> dx ≠ x -> Q (.ref x) (upd (upd H dx (.own x)) x (.ins C dx []))
theorem ap_new0 {C : Addr} {σ : St} {H : Hp} {Q : VK} : tNew0 C σ H Q = ∀ x dx, H x = none -> H dx = none -> dx ≠ x -> Q (.ref x) (upd (upd H dx (.own x)) x (.ins C dx [])) := rfl
theorem pe_new0 {X : Cx} {C : Addr} {x : Str} {p pos : Pos} (M : Mk0 X.K C) (hg : Gl X x) (hm : X.mg x = some (.ref C)) (hdb : (x == ("__debug__" : Str)) = false := by decide) : PE X (.Call (.Name x p) [] [] pos) (tNew0 C) := by
 intro pins s σ H Q I h
 refine wpAny_Call_Name_kw (ld_glob I hg hm ?_ hdb)
 have q := h (s.heap.objs.size + 1) s.heap.objs.size (I.hok.fresh (Nat.le_succ _)) (I.hok.fresh (Nat.le_refl _)) (Nat.ne_of_lt (Nat.lt_succ_self _))
 have I2 := Inv.made (C := C) I
 have Y := PySem.W.makes_of (M := model X.prog X.w) I.kIn M.makes
 refine PySem.W.callWith_K0 I.kIn M.kp (wpAny_call (make_map0 I.kIn M.makes M.init (fun self => PySem.W.Looks.of_pure (PySem.W.oi_bind self)) ?_))
 have g1 : ((s.heap.push PySem.W.emptyDict).push (PySem.W.instObj C s.heap.objs.size)).get? (s.heap.objs.size + 1) = some (PySem.W.instObj C s.heap.objs.size) := by
  have e := Heap.get?_push_size (s.heap.push PySem.W.emptyDict) (o := PySem.W.instObj C s.heap.objs.size) rfl
  rw [size_push'] at e
  exact e
 have t1 : PySem.W.Looks (model X.prog X.w) ((s.heap.push PySem.W.emptyDict).push (PySem.W.instObj C s.heap.objs.size)) (typeOf (.ref (s.heap.objs.size + 1))) (.ref C) := (PySem.W.Looks.ld g1).andThen .now
 have t2 : PySem.W.Looks (model X.prog X.w) ((s.heap.push PySem.W.emptyDict).push (PySem.W.instObj C s.heap.objs.size)) (isInstance (.ref (s.heap.objs.size + 1)) (.type "object")) true := t1.andThen (Y.top.keeps fun b o e => Heap.get?_push_of_some _ (Heap.get?_push_of_some _ e))
 refine codeAny_call_builtin PySem.W.oi_plain PySem.W.entry_oi (@PySem.W.check_slot (model X.prog X.w) _ _ _ "object.__init__" "object" "__init__" (.ref (s.heap.objs.size + 1)) [] [] _ PySem.W.oi_kind PySem.W.oi_split t2 (PySem.W.oi_args _) ?_)
 rw [PySem.W.oi_run]
 exact wpAny_pure ⟨rfl, .ref (s.heap.objs.size + 1), _, I2, rfl, q⟩
end L2
namespace PySem
open PySem.Spec PyProof.Rows
theorem lk_list_keys : typeLookup (.type "list") "keys" = pure none := by rw [typeLookup_type, builtinLookup_eq_fast]; kernel_rfl
section
variable {prog : Program} {w : World} {A : Around} {E : Value -> Shared -> Prop} {a : Addr} {xs : Array Value} {k : Nat} {s : Shared}
theorem no_keys {Q : Option Value -> Shared -> Prop} {sl : Array (Option Value)} (hx : s.heap.get? a = some { cls := .type "list", dict := none, data := .seq xs k, slots := sl }) (hA : A.handled = none)
  (hq : ∀ h' tk, (∀ b u, s.heap.get? b = some u -> h'.get? b = some u) -> Q none { s with heap := h', toks := tk }) : wpAny (model prog w) A (getAttr? (.ref a) "keys") Q E s := by
 obtain ⟨hp, g, d, tk, os⟩ := s
 have hT : ∀ tk', (⟨hp, g, d, tk', os⟩ : Shared).TypeIs (.ref a) "list" := fun _ => ⟨_, hx, rfl⟩
 have f1 := sub_AttributeError
 have f3 := F.slot_list_getattribute.lookup
 have f4 := F.slot_list_getattribute.bind (.ref a)
 have f5 := am_list_getattr_none
 unfold getAttr? getAttrBy? getAttrBy
 repeat (any_goals (first | assumption | exact hT _ | ((with_reducible show wpAny _ _ (call (Value.builtin "list.__getattribute__") _ _) _ _ _); refine call_meets F.slot_list_getattribute (hT _) am_entry_list_getattribute (F.args_list_getattribute_2 _ _) (meets_getattribute_miss_list a xs k sl "keys" _ lk_list_keys (by decide +kernel) (by rw [sizeLine_eq]; decide +kernel)) ⟨hx, hA, fun h' tk' e hx' => ?_⟩) | wp_step))
 obtain ⟨t1, u1, hE⟩ := hx'.there
 show wpAny _ _ (getattributeRaised _ _ _ _ _ _ _) _ _ _; unfold getattributeRaised
 repeat (any_goals (first | assumption | wp_step))
 exact hq _ _ hx'.keeps
end
end PySem
namespace L2
open PySem PySem.Spec PyProof.Rows
theorem entry_dul : entryFor table "dict.update.loop" = some Builtin.«dict.update.loop» := entryFor_of_tree (by kernel_rfl)
section
variable {P : Program} {w : World} {A : Around} {E : Value -> Shared -> Prop}
abbrev accP (ps : List (Key × Value × Value)) : List (Key × Value) := ps.foldl (fun a p => stored a p.1 p.2.2) []
theorem stored_len (kvs : List (Key × Value)) (k : Key) (v : Value) : (stored kvs k v).length <= kvs.length + 1 := by
 unfold stored
 split
 ·simp
 ·simp
theorem accP_len (ps : List (Key × Value × Value)) : (accP ps).length <= ps.length := by
 have : ∀ (ps : List (Key × Value × Value)) (a : List (Key × Value)), (ps.foldl (fun a p => stored a p.1 p.2.2) a).length <= a.length + ps.length := by
  intro ps
  induction ps with
  | nil => intro a; exact Nat.le_refl _
  | cons p ps ih =>
   intro a
   have h1 := ih (stored a p.1 p.2.2)
   have h2 := stored_len a p.1 p.2.2
   rw [List.foldl_cons, List.length_cons]
   omega
 simpa using this ps []
theorem pairs_loop {d it l : Addr} {its : List Value} {ps : List (Key × Value × Value)} {R : Result -> Shared -> Prop} {s₀ : Shared} (hA : A.handled = none) (hlen : ps.length = its.length) (hz : its.length <= 1000) (hdi : d ≠ it) (hdl : d ≠ l) (hil : it ≠ l)
  (hl : s₀.heap.IsList l its.toArray) (hp : ∀ (i : Nat) p, ps[i]? = some p -> ∃ b, its[i]? = some (.ref b) /\ b ≠ d /\ b ≠ it /\ IsTup s₀.heap b #[p.2.1, p.2.2] /\ (mixKind P w).is p.1 p.2.1 = true)
  (hR : ∀ h' tk, (∀ b u, b ≠ d -> b ≠ it -> s₀.heap.get? b = some u -> h'.get? b = some u) -> h'.DictOf (mixKind P w) d (accP ps) -> R (.ok (.ret .none)) { s₀ with heap := h', toks := tk }) :
  ∀ (m j : Nat) (h : Heap) (tk : Nat) (t : Tok), j + m = its.length -> (∀ b u, b ≠ d -> b ≠ it -> s₀.heap.get? b = some u -> h.get? b = some u) -> h.IsListIter it l j -> h.DictOf (mixKind P w) d (accP (ps.take j)) ->
   codeAny (model P w) A (.builtin "dict.update.loop" ⟨[.ref d, .ref it, .int j t, .none], []⟩) R { s₀ with heap := h, toks := tk } := by
 intro m
 induction m with
 | zero =>
  intro j h tk t hj hk hi hd
  refine codeAny_builtin entry_dul ?_
  unfold Builtin.«dict.update.loop»
  dsimp only
  have hlj : h.IsList l its.toArray := by
   obtain ⟨ol, e1, e2⟩ := hl
   exact ⟨ol, hk l ol hdl.symm hil.symm e1, e2⟩
  refine wpAny_bind (wpAny_pyNext_list_end (by exact hA) hi hlj (by simp; omega) fun h' eb => ?_)
  refine wpAny_bind (m := Builtin.Dict.addKeywords d []) ?_
  unfold Builtin.Dict.addKeywords
  refine wpAny_pure (wpAny_pure (hR h' tk (fun b u n1 n2 e => eb b u n2 (hk b u n1 n2 e)) ?_))
  obtain ⟨od, es, ep, h1, h2⟩ := hd
  rw [List.take_of_length_le (by omega)] at h2
  exact ⟨od, es, ep, eb d od hdi h1, h2⟩
 | succ m ih =>
  intro j h tk t hj hk hi hd
  refine codeAny_builtin entry_dul ?_
  unfold Builtin.«dict.update.loop»
  dsimp only
  have hlj : h.IsList l its.toArray := by
   obtain ⟨ol, e1, e2⟩ := hl
   exact ⟨ol, hk l ol hdl.symm hil.symm e1, e2⟩
  have hjp : ps[j]? = some (ps[j]'(by omega)) := by simp
  obtain ⟨b, e1, n1, n2, ht, hkey⟩ := hp j _ hjp
  generalize ps[j]'(by omega) = p at hjp ht hkey
  refine wpAny_bind (wpAny_pyNext_list_item hi hlj (x := .ref b) (by simpa using e1) fun h' hi' sb => ?_)
  obtain ⟨ot, t1, t2, t3, t4⟩ := ht
  have ht' : h'.get? b = some ot := (sb.2 b n2).trans (hk b ot n1 n2 t1)
  have hT : ({ s₀ with heap := h', toks := tk } : Shared).TypeIs (.ref b) "tuple" := ⟨_, ht', t2⟩
  dsimp only
  refine wpAny_bind (wpAny_holding (wpAny_bind (wpAny_tryCatch ?_)))
  unfold Builtin.Dict.pairItems
  refine wpAny_bind (wpAny_typeOf hT ?_)
  rw [if_pos (by decide)]
  unfold seqItems?
  refine wpAny_bind (wpAny_bind (wpAny_load ht' ?_))
  rw [t4]
  refine wpAny_pure (wpAny_pure ?_)
  dsimp only [Option.getD_some]
  refine wpAny_holding (wpAny_dictSet_pairs (kvs := accP (ps.take j)) hkey ?_ (fun h2 hd2 sb2 => ?_) ?_)
  ·obtain ⟨od, es, ep, q1, q2⟩ := hd
   exact ⟨od, es, ep, (sb.2 d hdi).trans q1, q2⟩
  ·refine wpAny_pure ⟨Code.quiet_builtin _ (by decide +kernel), ?_⟩
   refine ih (j + 1) h2 (tk + 1) 0 (by omega) (fun b u m1 m2 e => (sb2.2 b m1).trans ((sb.2 b m2).trans (hk b u m1 m2 e))) ?_ ?_
   ·obtain ⟨oi, q1, q2⟩ := hi'
    exact ⟨oi, (sb2.2 it hdi.symm).trans q1, q2⟩
   ·have e : ps.take (j + 1) = ps.take j ++ [p] := by rw [List.take_add_one, hjp]; rfl
    rw [accP, e, List.foldl_append]
    exact hd2
  ·have := accP_len (ps.take j)
   rw [List.length_take] at this
   rw [sizeLine_eq]; omega
end
section
variable {X : Cx}
theorem paired_of {α β : Type} {Pr : α -> β -> Prop} : ∀ {ys : List α}, (∀ y ∈ ys, ∃ p, Pr y p) -> ∃ ps, Paired Pr ys ps
 | [], _ => ⟨[], .nil⟩
 | y :: ys, h => by
  obtain ⟨p, hp⟩ := h y List.mem_cons_self
  obtain ⟨ps, hps⟩ := paired_of (ys := ys) fun z hz => h z (List.mem_cons_of_mem _ hz)
  exact ⟨p :: ps, .cons hp hps⟩
theorem paired_get {α β : Type} {Pr : α -> β -> Prop} : ∀ {ys : List α} {ps : List β} {i : Nat} {p : β}, Paired Pr ys ps -> ps[i]? = some p -> ∃ y, ys[i]? = some y /\ Pr y p
 | _, _, _, _, .nil, h => by simp at h
 | _, _, 0, _, .cons r _, h => by cases h; exact ⟨_, rfl, r⟩
 | _, _, i + 1, _, .cons _ t, h => paired_get (i := i) t h
def pairK (kf : V -> Key) (vf : V -> V) (ys : List V) : List (Key × V) := ys.foldl (fun a y => putK a (kf y) (vf y)) []
theorem kv_fold {kf : V -> Key} {vf : V -> V} {Pr : V -> Key × Value × Value -> Prop} (hP : ∀ y p, Pr y p -> p.1 = kf y /\ RelV (vf y) p.2.2) : ∀ {ys : List V} {ps : List (Key × Value × Value)} {a : List (Key × V)} {b : List (Key × Value)}, Paired Pr ys ps -> KV a b ->
  KV (ys.foldl (fun a y => putK a (kf y) (vf y)) a) (ps.foldl (fun a p => stored a p.1 p.2.2) b)
 | _, _, _, _, .nil, h => h
 | y :: ys, p :: ps, a, b, .cons r t, h => by
  obtain ⟨e1, e2⟩ := hP y p r
  rw [List.foldl_cons, List.foldl_cons, e1]
  exact kv_fold hP t (h.put (kf y) e2)
def rDictPairs (K : Fg_) : List V -> Hp -> VK -> Prop := fun xs H Q => ∃ (a : Addr) (ys : List V) (kf : V -> Key) (vf : V -> V), xs = [.ref a] /\ SqL K H a ys /\ ys.length <= 1000 /\ (∀ y ∈ ys, ∃ b, y = .ref b /\ SqT K H b [kV (kf y), vf y]) /\
 ∀ p, H p = none -> Q (.ref p) (upd H p (.dK (pairK kf vf ys)))
theorem call_dictPairs (hc : X.calm = true) : CallR X (.type "dict") (rDictPairs X.K) := by
 intro pins s σ H xs us Q I r h
 obtain ⟨l, ys, kf, vf, rfl, hq, hlen, hP, q⟩ := h
 obtain ⟨u, rfl, rx⟩ := vals1 r
 cases rx
 obtain ⟨its, rv, pl, hz⟩ := I.list hq
 have hil : ys.length = its.length := rv.length
 have hl := pl.isList
 obtain ⟨ps, hps⟩ := paired_of (Pr := fun (y : V) (p : Key × Value × Value) => p.1 = kf y /\ RelV (vf y) p.2.2 /\ ∃ b, y = .ref b /\ IsTup s.heap b #[p.2.1, p.2.2] /\ (mixKind X.prog X.w).is p.1 p.2.1 = true) (ys := ys) fun y hy => by
  obtain ⟨b, rfl, hb⟩ := hP y hy
  obtain ⟨tv, rt, it, hz'⟩ := I.tuple hb
  cases rt with
  | cons r1 rt => cases rt with
   | cons r2 rt =>
    cases rt
    exact ⟨(kf (.ref b), _, _), rfl, r2, b, rfl, it, kV_is r1⟩
 have hpl : ps.length = its.length := by rw [<- hil]; exact (Paired.length hps).symm
 obtain ⟨⟨oc, od, oo, osl⟩, nl, g1, g2, g3, g4⟩ := id pl
 simp only at g2 g3 g4
 subst g2 g3 g4
 have hll : l < s.heap.objs.size := Heap.lt_size g1
 refine callType_codes (Q₁ := fun ob s1 => ob = .ref s.heap.objs.size /\ s1 = { s with heap := s.heap.push { cls := .type "dict", data := .dict #[] } }) F.kt_called_dict (F.kt_typeCall_dict_1 _) F.entry_dict_init (kt_code_dict_new _ ⟨rfl, rfl⟩) ?_
 rintro ob s1 ⟨rfl, rfl⟩
 have hd0 : (s.heap.push { cls := .type "dict", data := .dict #[] }).DictOf (mixKind X.prog X.w) s.heap.objs.size [] := Heap.DictOf.new s.heap
 refine ⟨hd0.typeIs, F.args_dict_init_2 _ _, ?_⟩
 unfold Builtin.«dict.__init__» Builtin.Dict.selfAndRest; refine wpAny_bind (wpAny_bind (wpAny_notOrdered_dict hd0.typeIs ?_))
 show wpAny _ _ (pure (s.heap.objs.size, [Value.ref l])) _ _ _; refine wpAny_pure ?_
 show wpAny _ _ (Builtin.Dict.updateFrom "dict.__init__" s.heap.objs.size (.ref l) [] .none) _ _ _
 have kp0 : ∀ b o, s.heap.get? b = some o -> (s.heap.push { cls := .type "dict", data := .dict #[] }).get? b = some o := fun b o e => Heap.get?_push_of_some _ e
 have hT : ({ s with heap := s.heap.push { cls := .type "dict", data := .dict #[] } } : Shared).TypeIs (.ref l) "list" := ⟨_, kp0 _ _ g1, rfl⟩
 unfold Builtin.Dict.updateFrom; refine wpAny_bind (wpAny_typeOf hT ?_)
 rw [if_pos (by decide)]
 refine wpAny_bind (no_keys (kp0 _ _ g1) (by exact I.ok.hd hc) fun h1 tk1 kp1 => ?_)
 have kp01 : ∀ b o, s.heap.get? b = some o -> h1.get? b = some o := fun b o e => kp1 b o (kp0 b o e)
 have hl1 : h1.IsList l its.toArray := ⟨_, kp01 _ _ g1, rfl, _, rfl⟩
 obtain ⟨o0, es0, ep0, q1, q2⟩ := hd0
 have q1' := kp1 _ _ q1
 have hd1 : s.heap.objs.size < h1.objs.size := Heap.lt_size q1'
 rw [if_pos (show (none : Option Value).isNone = true from rfl)]
 refine wpAny_bind (wpAny_rule (wpAny_bind (wpAny_pyIter_list hl1 (wpAny_pure ⟨Code.quiet_builtin _ (by decide +kernel), ?_⟩))))
 have kp2 : ∀ b o, h1.get? b = some o -> (h1.push { cls := .type "list_iterator", data := .fields #[.ref l, .int 0 0] }).get? b = some o := fun b o e => Heap.get?_push_of_some _ e
 refine pairs_loop (A := X.A.in1) (s₀ := { s with heap := h1.push { cls := .type "list_iterator", data := .fields #[.ref l, .int 0 0] }, toks := tk1 }) (its := its) (ps := ps) (d := s.heap.objs.size) (it := h1.objs.size) (l := l) (by exact I.ok.hd hc) hpl (by omega) (Nat.ne_of_lt hd1) (Nat.ne_of_gt hll) (Nat.ne_of_gt (Nat.lt_trans hll hd1))
  ⟨_, kp2 _ _ (kp01 _ _ g1), rfl, _, rfl⟩ (fun i p hi => ?_) (fun h' tk kp hD => ⟨rfl, ?_⟩) its.length 0 _ tk1 0 (by omega) (fun b o _ _ e => e) ⟨_, Heap.get?_push_size _ rfl, rfl, rfl⟩ ⟨o0, es0, ep0, kp2 _ _ q1', q2⟩
 ·obtain ⟨y, hy, e1, e2, b, rfl, ht, hk⟩ := paired_get hps hi
  obtain ⟨ot, t1, t2⟩ := ht
  obtain ⟨v, hv, rr⟩ := rv.get hy
  cases rr
  have hb : b < s.heap.objs.size := Heap.lt_size t1
  exact ⟨b, hv, Nat.ne_of_lt hb, Nat.ne_of_lt (Nat.lt_trans hb hd1), ⟨ot, kp2 _ _ (kp01 _ _ t1), t2⟩, hk⟩
 ·have hkv : KV (pairK kf vf ys) (accP ps) := kv_fold (fun y p h => ⟨h.1, h.2.1⟩) hps .nil
  have hkl : (pairK kf vf ys).length <= sizeLine := by
   have e1 : (pairK kf vf ys).length = (accP ps).length := Paired.length hkv
   have e2 := accP_len ps
   rw [e1, sizeLine_eq]; omega
  exact ⟨.ref s.heap.objs.size, _, I.laid (a := s.heap.objs.size) (o := .dK (pairK kf vf ys)) (t' := tk) (fun b o e => kp b o (Nat.ne_of_lt (Heap.lt_size e)) (Nat.ne_of_lt (Nat.lt_trans (Heap.lt_size e) hd1)) (kp2 _ _ (kp01 b o e))) (Nat.le_refl _) (dk_new hkl (beq_eq_false_iff_ne.mpr (Ne.symm (Nat.ne_of_lt I.big))) hkv hD), rfl, q _ (I.hok.fresh (Nat.le_refl _))⟩
end
end L2
namespace L2
open PySem PySem.Spec PyProof.Rows
def viewO (v a : Addr) : HO := .ext fun h => h.IsValuesView v a
def Itv (a : Addr) (o : Obj) (kvs : List (Key × V)) : It := ⟨fun i H => H a = some (.frz o (.dK kvs)) /\ i < kvs.length, fun i H x H' => H' = H /\ (kvs.map (·.2))[i]? = some x, fun i H => H a = some (.frz o (.dK kvs)) /\ kvs.length <= i⟩
theorem entry_vi : entryFor table "dict_valueiterator.__iter__" = some Builtin.«dict_keyiterator.__iter__» := entryFor_alias (id' := "dict_keyiterator.__iter__") (by kernel_rfl) (by decide +kernel) (by decide +kernel) (by kernel_rfl)
theorem iter_self {P : Program} {w : World} {A : Around} {E : Value -> Shared -> Prop} {s : Shared} {it d : Addr} {i n ep : Nat} {Q : Value -> Shared -> Prop} (hit : s.heap.IsValIter it d i n ep) (h : Q (.ref it) s) : wpAny (model P w) A (pyIter (.ref it)) Q E s := by
 refine wpAny_pyIter_slot hit.typeIs F.slot_dict_valueiterator_iter (wpAny_call_entry F.slot_dict_valueiterator_iter hit.typeIs entry_vi ?_ (F.args_dict_valueiterator_iter_1 _))
 show wpAny _ _ (ret (.ref it)) _ _ s; exact wpAny_pure ⟨_, rfl, "dict_valueiterator", _, hit.typeIs, F.slot_dict_valueiterator_next.lookup, h⟩
theorem frz_at {X : Cx} {pins : List (Addr × Obj)} {σ : St} {H : Hp} {s : Shared} {a : Addr} {o : Obj} {kvs : List (Key × V)} {es : Array DictEntry} {ep : Nat} (I : Inv X pins σ H s) (e : H a = some (.frz o (.dK kvs))) (hdat : o.data = .dict es ep) :
  ∃ vs, KV kvs vs /\ s.heap.DictAt (mixKind X.prog X.w) a vs ep := by
 obtain ⟨h0, _, _, vs, rel, o', es', ep', q1, q2, q3, q4⟩ := (show ObjOk X.prog X.w H s.heap a (.frz o (.dK kvs)) from I.hok a _ e)
 rw [h0] at q1
 cases q1
 rw [hdat] at q3
 cases q3
 exact ⟨vs, rel, o, es, h0, q2, hdat, q4⟩
theorem turn_vals {P : Program} {w : World} {K : Fg_} {tg : Expr} {a it : Addr} {o : Obj} {kvs : List (Key × V)} {es : Array DictEntry} {ep : Nat} (hdat : o.data = .dict es ep) : Turn P w K tg (Itv a o kvs) [it] it (fun i h => h.IsValIter it a i kvs.length ep) where
 mem := by simp
 obj := fun i h st b hb => by
  obtain rfl : b = it := by simpa using hb
  obtain ⟨oi, e, c, dd⟩ := st
  exact ⟨oi, e, fun v z => by rw [dd] at z; cases z⟩
 keep := fun i h h' st k => let ⟨oi, e, r⟩ := st; ⟨oi, k it (by simp) oi e, r⟩
 item := by
  intro X hP hw hK hc i pins s σ H E I hf st hg
  subst hP hw hK
  obtain ⟨hg1, hg2⟩ := hg
  obtain ⟨vs, rel, hat⟩ := frz_at I hg1 hdat
  have hvl : kvs.length = vs.length := Paired.length rel
  obtain ⟨f0, f1, f2, f3, f4, f5⟩ := hf it (by simp)
  have hx : vs[i]? = some (vs[i]'(by omega)) := by simp
  obtain ⟨p, hp, e1, e2⟩ := paired_get rel hx
  rw [hvl] at st
  refine wpAny_pyNext_values_item st hat (k := (vs[i]'(by omega)).1) (v := (vs[i]'(by omega)).2) hx fun h' st' sb => ?_
  have I1 : Inv X pins σ H { s with heap := h' } := I.turned (t' := s.toks) (fun b o hb e => (sb.2 b hb).trans e) f0 f1 f3 f4 f5
  obtain ⟨oi, e, c, dd⟩ := id st'
  rw [<- hvl] at st'
  exact ⟨_, rfl, go_of (s := { s with heap := h' }) e c dd (by decide) ⟨p.2, H, I1, e2, ⟨rfl, by rw [List.getElem?_map, hp]; rfl⟩, st', fun b hb => (hf b hb).1⟩⟩
 done := by
  intro X hP hw hK hc i pins s σ H E I hf st hg
  subst hP hw hK
  obtain ⟨hg1, hg2⟩ := hg
  obtain ⟨vs, rel, hat⟩ := frz_at I hg1 hdat
  have hvl : kvs.length = vs.length := Paired.length rel
  obtain ⟨f0, f1, f2, f3, f4, f5⟩ := hf it (by simp)
  rw [hvl] at st
  exact wpAny_pyNext_values_end (I.ok.hd hc) st hat (by simp; omega) fun h' eb => ⟨rfl, I.turned (t' := s.toks) (fun b o hb e => eb b o hb e) f0 f1 f3 f4 f5⟩
 self := fun _ _ _ _ _ st h => iter_self st h
section
variable {X : Cx} {tg : Expr}
def iVals (tl : TE) : TI := fun σ H R => tl σ H fun x H1 => ∃ v a kvs, x = .ref v /\ H1 v = some (viewO v a) /\ H1 a = some (.dK kvs) /\ ∀ o, R (Itv a o kvs) (upd H1 a (.frz o (.dK kvs)))
theorem pi_vals {l : Expr} {tl : TE} (hl : PE X l tl) : PI X tg l (iVals tl) := by
 intro pins s σ H R I h
 refine thn (hl pins s σ H _ I h) fun u s1 ⟨x, H1, I1, r1, v, a, kvs, ex, hv, ha, q⟩ => ?_
 subst ex
 cases r1
 obtain ⟨hview, _, _⟩ := (show ObjOk X.prog X.w H1 s1.heap v (viewO v a) from I1.hok v _ hv)
 obtain ⟨z, hsys, vs, rel, o, es, ep, q1, q2, q3, q4⟩ := (show ObjOk X.prog X.w H1 s1.heap a (.dK kvs) from I1.hok a _ ha)
 have hvl : kvs.length = vs.length := Paired.length rel
 have hat : s1.heap.DictAt (mixKind X.prog X.w) a vs ep := ⟨o, es, q1, q2, q3, q4⟩
 refine wpAny_pyIter_values hview hat ?_
 have I2 : Inv X pins σ (upd H1 a (.frz o (.dK kvs))) s1 := I1.write (t' := s1.toks) (h' := s1.heap) (by rw [ha]; exact True.intro) (.inl rfl) (fun b u _ e => e) ⟨o, q1⟩ (show ObjOk X.prog X.w _ s1.heap a (.frz o (.dK kvs)) from ⟨q1, z, hsys, vs, rel, o, es, ep, q1, q2, q3, q4⟩)
 refine ⟨s1.heap.objs.size, [s1.heap.objs.size], _, _, _, rfl, I2.kept (t' := s1.toks) fun b o e => Heap.get?_push_of_some _ e, turn_vals q3, ⟨_, Heap.get?_push_size _ rfl, rfl, by rw [hvl]; rfl⟩, fun b hb => ?_, q o⟩
 obtain rfl : b = s1.heap.objs.size := by simpa using hb
 exact I2.fpOk (Nat.le_refl _) (I2.hok.fresh (Nat.le_refl _))
def rVals : V -> List V -> Hp -> VK -> Prop := fun x vs H Q => ∃ a kvs, x = .ref a /\ vs = [] /\ H a = some (.dK kvs) /\ ∀ v, H v = none -> Q (.ref v) (upd H v (viewO v a))
theorem mt_values : MtR X "dict.values" rVals := by
 intro pins s σ H x vs v us Q I rx rv h
 obtain ⟨a, kvs, rfl, rfl, ha, q⟩ := h
 cases rx
 have hus := rv.zero
 subst hus
 obtain ⟨z, hsys, ws, rel, dd⟩ := dk_of I.hok ha
 refine call_meetsIn PySem.F.slot_dict_values dd.typeIs PySem.F.entry_dict_values (PySem.F.args_dict_values_1 _) (meets_dict_values (mixKind X.prog X.w) a hsys) ⟨⟨ws, dd⟩, ?_⟩
 have hg : (s.heap.push { cls := .type "dict_values", data := .fields #[.ref a] }).IsValuesView s.heap.objs.size a := ⟨_, Heap.get?_push_size _ rfl, rfl, rfl⟩
 exact ⟨.ref s.heap.objs.size, _, I.laid (a := s.heap.objs.size) (o := viewO s.heap.objs.size a) (t' := s.toks) (fun b o e => Heap.get?_push_of_some _ e) (Nat.le_refl _) ⟨hg, ⟨_, Heap.get?_push_size _ rfl⟩, fun h1 h2 ⟨ov, e1, e2⟩ k => ⟨ov, k ov e1, e2⟩⟩, rfl, q _ (I.hok.fresh (Nat.le_refl _))⟩
end
end L2
namespace L2
open PySem PySem.Spec PyProof.Rows
section
variable {X : Cx} {K : Fg_} {σ : St} {H : Hp} {Q : VK} {R : It -> Hp -> Prop} {tl td ty : TE} {g : TG} {tt : TT} {te : TE} {cap : List (Option Nat)} {a : Addr} {o : Obj} {kvs : List (Key × V)}
theorem call_dictPairsK (hc : X.calm = true) (hK : X.K = K := by rfl) : CallR X (.type "dict") (rDictPairs K) := hK ▸ call_dictPairs hc
theorem ap_dictPairs : rDictPairs K [.ref a] H Q = ∃ (ys : List V) (kf : V -> Key) (vf : V -> V), SqL K H a ys /\ ys.length <= 1000 /\ (∀ y ∈ ys, ∃ b, y = .ref b /\ SqT K H b [kV (kf y), vf y]) /\ ∀ p, H p = none -> Q (.ref p) (upd H p (.dK (pairK kf vf ys))) := by simp [rDictPairs]
theorem ap_iVals : iVals tl σ H R = tl σ H fun x H1 => ∃ v a kvs, x = .ref v /\ H1 v = some (viewO v a) /\ H1 a = some (.dK kvs) /\ ∀ o, R (Itv a o kvs) (upd H1 a (.frz o (.dK kvs))) := rfl
theorem ap_rVals : rVals (.ref a) [] H Q = ∃ kvs, H a = some (.dK kvs) /\ ∀ v, H v = none -> Q (.ref v) (upd H v (viewO v a)) := by simp [rVals]
theorem CompP.vals (Sσ : St -> Prop) (p : V -> Bool) (F : V -> V) (hH : H a = some (.frz o (.dK kvs))) (h0 : Sσ (capSt σ cap)) (hz : kvs.length <= sizeLine)
  (hs : ∀ x ∈ kvs.map (·.2), ∀ (σ : St) (H5 : Hp) (R1 : St -> VK) (R2 : St -> Hp -> Prop), Sσ σ -> Same H H5 -> (p x = true -> ∀ σ4 H6, Sσ σ4 -> Same H5 H6 -> R1 σ4 (F x) H6) -> (p x = false -> ∀ σ4 H6, Sσ σ4 -> Same H5 H6 -> R2 σ4 H6) ->
   g x σ H5 fun σ4 H4 => tt σ4 H4 fun b H5 => if b = true then te σ4 H5 (R1 σ4) else R2 σ4 H5)
  (k : ∀ D H', H D = Option.none -> Same H H' -> H' D = some (.lst (((kvs.map (·.2)).filter p).map F)) -> Q (.ref D) H') : CompP cap (Itv a o kvs) g tt te σ H Q :=
 fun D hD => comp_step (xs := kvs.map (·.2)) (Itv a o kvs) Sσ p F hD h0 (by rw [List.length_map]; exact hz) (fun i x H5 hx sm => ⟨⟨sm _ _ hH, by simpa using (List.getElem?_eq_some_iff.mp hx).1⟩, fun y H' hy => ⟨Option.some.inj (hy.2.symm.trans hx), hy.1⟩⟩) (fun H5 sm => ⟨sm _ _ hH, by simp⟩) hs fun H' s e => k D H' hD s e
end
end L2
namespace L2
open PySem PySem.W PySem.Spec PyProof.Rows
section
variable {X : Cx} {pins : List (Addr × Obj)} {σ : St} {H : Hp} {s : Shared} {h' : Heap}
theorem Inv.adopt {t' c : Nat} {D : Addr} {zs : List V} {its : List Value} (I : Inv X pins σ H s) (hf : FpOk X pins H D) (k : ∀ b o, b ≠ D -> s.heap.get? b = some o -> h'.get? b = some o)
  (hD : h'.get? D = some { cls := .type "list", data := .seq its.toArray c }) (hv : Vals zs its) (hz : zs.length <= sizeLine) : Inv X pins σ (upd H D (.lst zs)) { s with heap := h', toks := t' } := by
 obtain ⟨hn, hL, hfs, h1, h2, h3⟩ := hf
 have nit : ∀ b u, H b = some u -> b ≠ D := fun b u e z => by rw [z, hn] at e; cases e
 refine I.step (g' := s.gens) (d' := s.drawn) (ch := [D]) (fun b hb => ?_) (fun b o _ _ hc e _ => k b o (fun z => hc (by simp [z])) e) (fun b o _ _ hc e _ => ⟨o.slots, k b o (fun z => hc (by simp [z])) e⟩) (fun b o hc e n => (upd_ne fun z => hc (by simp [z])).trans n)
  (fun b o hc e => ⟨o, k b o (fun z => hc (by simp [z])) e⟩) (fun b xs e => (upd_ne (nit b _ e)).trans e) (fun b o u e => (upd_ne (nit b _ e)).trans e) (fun b ps e => ⟨#[], by rw [upd_ne (nit b _ e), e]; simp⟩) (fun m hm => ?_) (fun b u e => ?_) I.bare
 ·have e : b = D := by simpa using hb
  subst e
  exact ⟨h1, hL, h2, h3⟩
 ·obtain ⟨o, es, ep, ho, r⟩ := hm
  exact ⟨o, es, ep, k _ o (Ne.symm hL) ho, r⟩
 ·by_cases z : b = D
  ·subst z
   rw [upd_same] at e
   cases e
   exact ⟨hz, its, c, hv, hD⟩
  ·rw [upd_ne z] at e
   refine (I.hok b u e).stay (fun c v hc q => k c v ?_ q) (fun c q => ?_) fun c v q => ?_
   ·rcases hc with y | y
    ·rw [y]; exact nit b u e
    ·exact nit c _ y
   ·exact (upd_ne (nit c _ q)).trans q
   ·exact (upd_ne (nit c _ q)).trans q
end
section
variable {X : Cx} {pins : List (Addr × Obj)} {σ : St} {H : Hp} {s : Shared} {k : Nat} {f : Addr} {fd : FuncData} {ps : List Str} {sp : Sp}
theorem run_key {Q : VK} {v : V} {u : Value} (F : FnOk X.prog X.w X.K X.mg X.base CX0 k f fd ps sp) (hr : Room (k + 2) X.A) (hb : Binds X.K fd ps []) (I : Inv X pins σ H s) (r : RelV v u) (h : sp [v] H Q E0) :
  wpAny (model X.prog X.w) X.A.in1.in1 (call (.ref f) [u]) (EP X pins σ Q) (fun _ _ => False) s := by
 have r2 : Vals [v] [u] := .cons r .nil
 have hl : ([u] ++ ([] : List Value)).length = ps.length := by
  have := F.len _ _ _ _ h
  rw [<- this]; rfl
 refine wpAny_call (codeAny_mono (F.run X.A.in1.in1 X.stack s H ⟨[u], []⟩ [u] [v] Q E0 hr.in1.in1 I.env0.in1.in1 (hb s [u] I.kIn hl) r2 h) fun r s' hq => ?_)
 cases r with
 | error e => exact hq.elim
 | ok fl =>
  cases fl with
  | ret u => exact I.after hq
  | next => exact False.elim hq
  | brk => exact False.elim hq
  | cont => exact False.elim hq
theorem Paired.imp {α β : Type} {P P' : α -> β -> Prop} (h : ∀ a b, P a b -> P' a b) : ∀ {xs : List α} {ys : List β}, Paired P xs ys -> Paired P' xs ys
 | _, _, .nil => .nil
 | _, _, .cons a t => .cons (h _ _ a) (Paired.imp h t)
def KeyAt (kf : V -> List Int) (H : Hp) (y v : V) : Prop := ∃ t, v = .ref t /\ H t = some (.tup ((kf y).map V.int))
theorem KeyAt.same {kf : V -> List Int} {H H' : Hp} {y v : V} (h : KeyAt kf H y v) (e : ∀ t xs, H t = some (.tup xs) -> H' t = some (.tup xs)) : KeyAt kf H' y v := let ⟨t, a, b⟩ := h; ⟨t, a, e _ _ b⟩
def KeyFn (sp : Sp) (kf : V -> List Int) (H : Hp) (y : V) : Prop := ∀ H1, Same H H1 -> ∀ R : VK, (∀ t H2, Same H1 H2 -> H2 t = some (.tup ((kf y).map V.int)) -> R (.ref t) H2) -> sp [y] H1 R E0
theorem key_loop {E : Value -> Shared -> Prop} {kf : V -> List Int} {H0 : Hp} {kS : Addr} {Q' : Shared -> Prop} {body : Value -> PUnit -> Sem (ForInStep PUnit)} (F : FnOk X.prog X.w X.K X.mg X.base CX0 k f fd ps sp) (hr : Room (k + 2) X.A) (hb : Binds X.K fd ps [])
  (hbody : ∀ x s (D' : Shared -> Prop), wpAny (model X.prog X.w) X.A.in1.in1 (call (.ref f) [x]) (fun k s' => ∃ its n, s'.heap.get? kS = some { cls := .type "list", data := .seq its n } /\ its.size < 64 /\ D' { s' with heap := s'.heap.update kS (Obj.mapSeq (·.push k)) }) (fun _ _ => False) s ->
   wpAny (model X.prog X.w) X.A.in1.in1 (body x ⟨⟩) (fun r s' => r = .yield ⟨⟩ /\ D' s') E s) (hS0 : H0 kS = none) :
  ∀ (ys : List V) (us : List Value) (ys0 kvs : List V) (H1 : Hp) (s1 : Shared), Vals ys us -> ys0.length + ys.length < 64 -> Inv X pins σ H1 s1 -> H1 kS = some (.lst kvs) -> Same H0 H1 -> (∀ y ∈ ys, KeyFn sp kf H0 y) -> Paired (KeyAt kf H1) ys0 kvs ->
   (∀ kvs2 H2 s2, Inv X pins σ H2 s2 -> H2 kS = some (.lst kvs2) -> Same H0 H2 -> Paired (KeyAt kf H2) (ys0 ++ ys) kvs2 -> Q' s2) -> wpAny (model X.prog X.w) X.A.in1.in1 (forIn us PUnit.unit body) (fun _ s2 => Q' s2) E s1
 | _, _, ys0, kvs, H1, s1, .nil, hl, I, hH, sm, hk, hp, fin => by
  rw [List.forIn_nil]
  rw [List.append_nil] at fin
  exact wpAny_pure (fin kvs H1 s1 I hH sm hp)
 | y :: ys, u :: us, ys0, kvs, H1, s1, .cons ru rus, hl, I, hH, sm, hk, hp, fin => by
  rw [List.forIn_cons]
  rw [List.length_cons] at hl
  have hkl : ys0.length = kvs.length := Paired.length hp
  have h1 := run_key F hr hb I ru (hk y List.mem_cons_self H1 sm (fun v H2 => ∃ t, v = .ref t /\ Same H1 H2 /\ H2 t = some (.tup ((kf y).map V.int))) fun t H2 s2 ht => ⟨t, rfl, s2, ht⟩)
  refine wpAny_bind (wpAny_mono (hbody u s1 (fun s2 => ∃ kvs' H3, Inv X pins σ H3 s2 /\ H3 kS = some (.lst kvs') /\ Same H0 H3 /\ Paired (KeyAt kf H3) (ys0 ++ [y]) kvs') (wpAny_mono h1 (fun kv s2 hq => ?_) fun _ _ x => x)) (fun r s2 hq => ?_) fun _ _ x => x)
  ·obtain ⟨v, H2, I2, rv, t, rfl, s12, ht⟩ := hq
   have hH2 := s12 _ _ hH
   obtain ⟨z, its, n, r, hl2, e⟩ := I2.lstM hH2
   refine ⟨its.toArray, n, e, by rw [List.size_toArray]; omega, kvs ++ [.ref t], _, I2.lset (t' := s2.toks) (its' := its ++ [kv]) hH2 e (by simp) (r.append (.cons rv .nil)) (by rw [List.length_append, List.length_singleton, sizeLine_eq]; omega), upd_same, ?_, ?_⟩
   ·exact (sm.trans s12).upd hS0
   ·have up : ∀ b xs, H2 b = some (.tup xs) -> (upd H2 kS (.lst (kvs ++ [V.ref t]))) b = some (.tup xs) := fun b xs q => (upd_ne fun z => by rw [z, hH2] at q; cases q).trans q
    exact Paired.snoc (Paired.imp (fun a b q => q.same fun t xs h => up _ _ (s12 _ _ h)) hp) ⟨t, rfl, up _ _ ht⟩
  ·obtain ⟨rfl, kvs', H3, I3, hH3, sm3, hp3⟩ := hq
   refine key_loop F hr hb hbody hS0 ys us (ys0 ++ [y]) kvs' H3 s2 rus (by rw [List.length_append, List.length_singleton]; omega) I3 hH3 sm3 (fun z hz => hk z (List.mem_cons_of_mem _ hz)) hp3 fun kvs2 H4 s4 I4 hH4 sm4 hp4 => fin kvs2 H4 s4 I4 hH4 sm4 ?_
   rwa [List.append_assoc] at hp4
end
section
variable {P : Program} {w : World} {A : Around} {E : Value -> Shared -> Prop} {s : Shared}
theorem end_keyed {G : Array Nat -> Prop} {ks us : List Value} {a kS : Addr} {e1 nk : Nat} {R : PySem.Fin -> Shared -> Prop} (fs : Nat -> List Int) (hkl : ks.length = us.length) (hlen : us.length < 64) (hk : s.heap.get? kS = some (seqObj "list" ks.toArray nk)) (ho : s.heap.get? a = some (seqObj "list" #[] e1)) (hak : a ≠ kS)
  (hT : ∀ i, i < us.length -> fs i ≠ [] /\ ∃ b o xs m, ks.getD i Value.none = .ref b /\ s.heap.get? b = some o /\ o.cls = .type "tuple" /\ o.data = .seq xs m /\ Vals ((fs i).map V.int) xs.toList)
  (hG : 0 < us.length -> Kok (fun i j => lexB (fs i) (fs j) (decide ((fs i).length < (fs j).length))) us.length G (kas_sort us.length)) (hG0 : us.length < 2 -> G (List.range us.length).toArray) (hGP : ∀ p, G p -> Prm us.length p)
  (fin : ∀ p : Array Nat, G p -> R (.done (.ret .none)) { s with heap := (s.heap.update kS (Obj.mapSeq fun _ => #[])).update a (Obj.mapSeq fun _ => List.toArray (p.toList.map fun i => us.getD i Value.none)) }) :
  wpAny (model P w) A (ksk_end a false us.toArray e1 (.ref kS) ks.toArray) R E s := by
 have hus : us.toArray.size = us.length := by simp
 have tail : ∀ st' (p : Array Nat), arrOf st' = p.map (kas_item (ks.toArray.zip us.toArray)) -> failedOf st' = none -> G p -> wpAny (model P w) A (ksk_tail a false e1 (.ref kS) st') R E s := fun st' p har hf hp => by
  have hpl : (p.toList.map fun i => us.getD i Value.none).length = us.length := by rw [List.length_map, (hGP p hp).length_eq]; simp
  have ho2 : (s.heap.update kS (Obj.mapSeq fun _ => #[])).get? a = some (seqObj "list" #[] e1) := (Heap.get?_update_ne _ _ _ _ hak).trans ho
  unfold ksk_tail
  try dsimp only
  rw [kat_snds hkl har]
  refine wpAny_bind (listUpdate_at hk rfl ?_ (by rw [List.size_toArray, sizeLine_eq]; omega) (Nat.zero_le _))
  refine wpAny_bind (wpAny_letGo ?_)
  refine wpAny_bind (seqEpoch_at ho2 rfl ?_)
  refine wpAny_bind (listUpdate_at ho2 rfl ?_ (Nat.zero_le _) (by simp only [Bool.false_eq_true, if_false]; rw [List.size_toArray, hpl, sizeLine_eq]; omega))
  rw [hf]
  simp only [bne_self_eq_false, Bool.false_eq_true, if_false]
  exact wpAny_pure (fin p hp)
 unfold ksk_end
 try dsimp only
 rw [if_neg (by decide)]
 by_cases h2 : us.toArray.size < 2
 ·rw [if_pos h2, if_pos h2]
  refine wpAny_bind (wpAny_pure ?_); rw [StateT.run_pure]; refine wpAny_bind (wpAny_pure ?_); dsimp only
  refine tail _ (List.range us.length).toArray ?_ rfl (hG0 (by rw [<- hus]; exact h2))
  have e := kas_range (ks.toArray.zip us.toArray)
  rw [show (ks.toArray.zip us.toArray).size = us.length by simp [hkl]] at e
  exact e.symm
 ·rw [if_neg h2, if_neg h2]
  have hn : 0 < us.length := by omega
  obtain ⟨ff, k1, k2, k3⟩ := tups_of (h := s.heap) (us := ks) (by
   intro v hv
   obtain ⟨i, hi, e⟩ := List.getElem_of_mem hv
   obtain ⟨g0, b, o, xs, m, g1, g3, g4, g5, g6⟩ := hT i (by omega)
   have e2 : ks.getD i Value.none = v := by rw [<- e]; simp [hi]
   cases hq : fs i with
   | nil => exact (g0 hq).elim
   | cons z zs =>
    rw [hq, List.map_cons] at g6
    cases hx : xs.toList with
    | nil => rw [hx] at g6; cases g6
    | cons u ur =>
     rw [hx] at g6
     cases g6 with
     | cons r1 r2 =>
     obtain ⟨t, rfl⟩ := r1
     refine ⟨b, o, xs, m, z, t, e2.symm.trans g1, g3, g4, g5, ?_⟩
     rw [<- Array.getElem?_toList, hx]; rfl)
  refine wpAny_bind (kat_kind k1 (by omega) (fun v hv => ?_) (T := .type "int") rfl ?_)
  ·obtain ⟨i, t, rfl⟩ := k3 v hv
   exact Looks.of_pure rfl
  refine wpAny_bind (wpAny_mono (kat_run (ks := ks) (vs := us) (Q := fun st' s' => ∃ p : Array Nat, arrOf st' = p.map (kas_item (ks.toArray.zip us.toArray)) /\ failedOf st' = none /\ G p /\ s' = s)
   (G := fun p s' => G p /\ s' = s) hkl (by omega) hlen (fun p st' s' a1 a2 a3 a4 => ⟨p, a2, a3, a4.1, a4.2⟩)
   (Kok.wp (lt := fun i j => lexB (fs i) (fs j) (decide ((fs i).length < (fs j).length))) (fun i j C hi hj hC => ?_) (hG hn) fun p hp => ⟨hp, rfl⟩)) ?_ fun _ _ e => e)
  ·obtain ⟨_, b, o, xs, m, g1, g3, g4, g5, g6⟩ := hT i hi
   obtain ⟨_, b', o', xs', m', g1', g3', g4', g5', g6'⟩ := hT j hj
   show wpAny _ _ (keyLt' _ (ks.getD i Value.none) (ks.getD j Value.none)) _ _ _
   rw [g1, g1']
   refine kat_lt g3 g5 g3' g5' (lex_ints g6 g6' 0 ?_)
   have z1 : (fs i).length = xs.size := by simpa using g6.length
   have z2 : (fs j).length = xs'.size := by simpa using g6'.length
   rw [<- z1, <- z2]
   exact hC
  ·rintro ⟨⟨⟩, st'⟩ s' ⟨p, har, hf, hp, rfl⟩
   dsimp only
   exact tail st' p har hf hp
end
theorem ksk_s1' (a v : Value) : argsOk "list.sort" ⟨[a], [(Str.ofString "key", v)]⟩ := by unfold argsOk; kernel_rfl
section
variable {X : Cx} {pins : List (Addr × Obj)} {σ : St} {H : Hp} {s : Shared} {k : Nat} {f : Addr} {fd : FuncData} {ps : List Str} {sp : Sp}
def rSortK (K : Fg_) (sp : Sp) : V -> Hp -> VK -> Prop := fun x H Q => ∃ (a : Addr) (ys : List V) (kf : V -> List Int), x = .ref a /\ SqL K H a ys /\ ys.length < 64 /\ (∀ y ∈ ys, kf y ≠ [] /\ KeyFn sp kf H y) /\
 ∀ p zs H', Same H H' -> H p = none -> H' p = some (.lst zs) -> zs.Perm ys -> (∀ m, (∀ y ∈ ys, (kf y).length = m) -> (ys.map kf).Nodup -> zs.Pairwise fun y z => lexB (kf y) (kf z) false = true) -> Q (.ref p) H'
theorem paired_getD {α β : Type} {Pr : α -> β -> Prop} {d1 : α} {d2 : β} : ∀ {xs : List α} {ys : List β} {i : Nat}, Paired Pr xs ys -> i < xs.length -> Pr (xs.getD i d1) (ys.getD i d2)
 | _, _, _, .nil, h => by simp at h
 | _, _, 0, .cons r _, _ => r
 | _, _, i + 1, .cons _ t, h => by
  simp only [List.getD_cons_succ]
  exact paired_getD t (by simpa using h)
theorem sorted_key {Q : VK} {x : V} {u : Value} (F : FnOk X.prog X.w X.K X.mg X.base CX0 k f fd ps sp) (hr : Room (k + 2) X.A) (hb : Binds X.K fd ps []) (I : Inv X pins σ H s) (rx : RelV x u) (h : rSortK X.K sp x H Q) :
  wpAny (model X.prog X.w) X.A (call (.builtin "sorted") [u] [(Str.ofString "key", .ref f)]) (EP X pins σ Q) X.xe s := by
 obtain ⟨a, ys, kf, rfl, hq, hlen, hK, q⟩ := h
 cases rx
 obtain ⟨its, rv, pl, hz⟩ := I.list hq
 have hil : ys.length = its.length := rv.length
 have hl := pl.isList
 refine call_function_entry_kw kind_sorted plain_sorted entry_sorted (ksk_s1 _ _) ?_
 unfold Builtin.«sorted»; refine wpAny_bind (m := checkCount "sorted" 1 1 _) (wpAny_pure ?_); refine wpAny_bind (collect_list hl ?_ (by omega)); refine wpAny_bind (wpAny_newList ?_ (by omega))
 have hsz : ((s.heap.push (seqObj "list" #[] 0)).update s.heap.objs.size (Obj.mapSeq (· ++ its.toArray))).objs.size = s.heap.objs.size + 1 := by rw [Heap.size_update, size_push']
 have hob : (((s.heap.push (seqObj "list" #[] 0)).update s.heap.objs.size (Obj.mapSeq (· ++ its.toArray))).push (seqObj "list" its.toArray 0)).get? (s.heap.objs.size + 1) = some (seqObj "list" its.toArray 0) := by rw [<- hsz]; exact Heap.get?_push_size _ rfl
 have keep : ∀ b o, s.heap.get? b = some o -> (((s.heap.push (seqObj "list" #[] 0)).update s.heap.objs.size (Obj.mapSeq (· ++ its.toArray))).push (seqObj "list" its.toArray 0)).get? b = some o := fun b o e =>
  Heap.get?_push_of_some _ ((Heap.get?_update_ne _ _ _ _ (Nat.ne_of_lt (Heap.lt_size e))).trans (Heap.get?_push_of_some _ e))
 have hsz2 : (((s.heap.push (seqObj "list" #[] 0)).update s.heap.objs.size (Obj.mapSeq (· ++ its.toArray))).push (seqObj "list" its.toArray 0)).objs.size = s.heap.objs.size + 2 := by rw [size_push', hsz]
 show wpAny _ _ _ _ _ { s with heap := ((s.heap.push (seqObj "list" #[] 0)).update s.heap.objs.size (Obj.mapSeq (· ++ its.toArray))).push (seqObj "list" its.toArray 0) }
 rw [hsz]
 generalize ((s.heap.push (seqObj "list" #[] 0)).update s.heap.objs.size (Obj.mapSeq (· ++ its.toArray))).push (seqObj "list" its.toArray 0) = h2 at hob keep hsz2
 obtain ⟨D, hDe⟩ : ∃ D : Nat, s.heap.objs.size + 1 = D := ⟨_, rfl⟩
 rw [hDe] at hob ⊢
 refine wpAny_bind (wpAny_holding (wpAny_call_entry_kw slot_list_sort ⟨_, hob, rfl⟩ entry_list_sort ?body (ksk_s1' _ _)))
 case body =>
  show wpAny (model X.prog X.w) X.A.in1.in1 (Builtin.«list.sort» ⟨[.ref D], [(Str.ofString "key", .ref f)]⟩) _ _ _
  rw [ksk_t1]
  unfold ksk_tree
  refine wpAny_bind (listItems_at hob rfl ?_)
  refine wpAny_bind (listUpdate_at hob rfl ?_ (by rw [List.size_toArray, sizeLine_eq]; omega) (Nat.zero_le _))
  obtain ⟨e1, hob1⟩ : ∃ e1, (h2.update D (Obj.mapSeq fun _ => #[])).get? D = some (seqObj "list" #[] e1) := ⟨_, get?_update_seq hob (fun _ => #[])⟩
  refine wpAny_bind (seqEpoch_at hob1 rfl ?_); refine wpAny_bind (wpAny_newTuple ?_ (by show its.length <= _; rw [sizeLine_eq]; omega)); refine wpAny_bind (wpAny_newList ?_ (Nat.zero_le _)); refine wpAny_holding ?_
  have hkS : ((h2.update D (Obj.mapSeq fun _ => #[])).push (seqObj "tuple" its.toArray 0)).objs.size = s.heap.objs.size + 3 := by rw [size_push', Heap.size_update, hsz2]
  have keep4 : ∀ b o, s.heap.get? b = some o -> (((h2.update D (Obj.mapSeq fun _ => #[])).push (seqObj "tuple" its.toArray 0)).push (seqObj "list" #[] 0)).get? b = some o := fun b o e => by
   have h9 : b < s.heap.objs.size := Heap.lt_size e
   have hb : b ≠ D := Nat.ne_of_lt (Nat.lt_trans h9 (by omega))
   exact Heap.get?_push_of_some _ (Heap.get?_push_of_some _ ((Heap.get?_update_ne _ _ _ _ hb).trans (keep b o e)))
  have hD4 : (((h2.update D (Obj.mapSeq fun _ => #[])).push (seqObj "tuple" its.toArray 0)).push (seqObj "list" #[] 0)).get? D = some (seqObj "list" #[] e1) := Heap.get?_push_of_some _ (Heap.get?_push_of_some _ hob1)
  have hk4 : (((h2.update D (Obj.mapSeq fun _ => #[])).push (seqObj "tuple" its.toArray 0)).push (seqObj "list" #[] 0)).get? (s.heap.objs.size + 3) = some (seqObj "list" #[] 0) := by rw [<- hkS]; exact Heap.get?_push_size _ rfl
  show wpAny _ _ _ _ _ { s with heap := ((h2.update D (Obj.mapSeq fun _ => #[])).push (seqObj "tuple" its.toArray 0)).push (seqObj "list" #[] 0) }
  dsimp only
  rw [hkS]
  generalize ((h2.update D (Obj.mapSeq fun _ => #[])).push (seqObj "tuple" its.toArray 0)).push (seqObj "list" #[] 0) = h4 at keep4 hD4 hk4
  obtain ⟨kS, hkSe⟩ : ∃ kS : Nat, s.heap.objs.size + 3 = kS := ⟨_, rfl⟩
  rw [hkSe] at hk4 ⊢
  have hDk : D ≠ kS := Nat.ne_of_lt (by omega)
  have hDn : H D = none := I.hok.fresh (by omega)
  have hkn : H kS = none := I.hok.fresh (by omega)
  have I4 : Inv X pins σ (upd H kS (.lst [])) { s with heap := h4, toks := s.toks } := I.laid (t' := s.toks) keep4 (by omega) ⟨Nat.zero_le _, [], 0, .nil, hk4⟩
  have hFp : FpOk X pins (upd H kS (.lst [])) D := I.fpOk (by omega) ((upd_ne hDk).trans hDn)
  have I5 : Inv X (pins ++ [(D, seqObj "list" #[] e1)]) σ (upd H kS (.lst [])) { s with heap := h4, toks := s.toks } := I4.pins_of fun p hp => by
   rcases List.mem_append.mp hp with hp | hp
   ·exact I4.pin p (List.mem_append_right _ hp)
   ·obtain rfl := List.mem_singleton.mp hp
    exact ⟨hD4, hFp.1, hFp.2.1, hFp.2.2.1, fun v z => by cases z⟩
  unfold ksk_rest
  refine wpAny_bind (wpAny_rule ?_)
  first | rw [List.forIn_toArray] | rw [<- Array.forIn_toList]
  refine wpAny_bind (key_loop (kf := kf) (H0 := H) (kS := kS) F hr hb (fun x s' D' hx => ?_) hkn ys its [] [] _ _ rv (by rw [List.length_nil]; omega) I5 upd_same (Same.new hkn) (fun y hy => (hK y hy).2) .nil fun kvs H2 s2 I2 hH2 sm2 hp2 => ?_)
  ·refine wpAny_bind (wpAny_attempt (wpAny_mono hx (fun kv s'' hk => ?_) fun _ _ hF => hF.elim))
   obtain ⟨its', n', e', hs', hD'⟩ := hk
   try dsimp only
   refine wpAny_bind (listUpdate_at e' rfl ?_ (by rw [sizeLine_eq]; omega) (Nat.le_trans (Nat.le_of_eq (Array.size_push ..)) (by rw [sizeLine_eq]; omega)))
   exact wpAny_pure ⟨rfl, hD'⟩
  ·obtain ⟨z, ks, n, rk, hkl0, e⟩ := I2.lstM hH2
   have hkl : ys.length = kvs.length := Paired.length hp2
   try dsimp only
   refine wpAny_bind (listItems_at e rfl ?_)
   have hpD := I2.pin (D, seqObj "list" #[] e1) (List.mem_append_right _ (List.mem_append_right _ (List.mem_singleton.mpr rfl)))
   refine end_keyed (G := fun p => Prm its.length p /\ SortOk ys kf p) (fun i => kf (ys.getD i .non)) (by omega) (by omega) e hpD.1 hDk (fun i hi => ?_) (fun hn => hil ▸ sort_ok (by omega)) (fun h2 => ⟨List.Perm.refl _, fun m _ _ a b hab hb => absurd hab (by omega)⟩) (fun p hp => hp.1) fun p hp3 => ⟨_, rfl, wpAny_pure ⟨_, rfl, ?_⟩⟩
   ·have hm : ys.getD i .non ∈ ys := by
     have : i < ys.length := by omega
     simp [this]
    obtain ⟨t, e2, e3⟩ := paired_getD (d1 := V.non) (d2 := V.non) hp2 (i := i) (by rw [List.nil_append]; omega)
    rw [List.nil_append] at e3
    obtain ⟨tv, rt, it, hz'⟩ := I2.tuple (SqT.of e3)
    obtain ⟨o, ho, hc, m, hd⟩ := it
    refine ⟨(hK _ hm).1, t, o, tv.toArray, m, ?_, ho, hc, hd, rt⟩
    have := vals_getD rk (i := i) (by omega)
    rw [e2] at this
    exact this
   ·obtain ⟨hp, hord⟩ := hp3
    have hin : ∀ i ∈ p.toList, i < ys.length := fun i hi => by
     have := List.mem_range.mp (hp.mem_iff.mp hi)
     omega
    have hpl : p.toList.length = its.length := by rw [hp.length_eq]; simp
    have hzs : (p.toList.map fun i => ys.getD i V.non).Perm ys := by
     have := hp.map fun i => ys.getD i V.non
     rw [<- hil, getD_rangeV] at this
     exact this
    have I3 := (I2.lset (t' := s2.toks) (its' := []) (f := fun _ => #[]) hH2 e rfl .nil (Nat.zero_le _)).unpinned
    have hFp3 : FpOk X pins (upd H2 kS (.lst [])) D := ⟨(upd_ne hDk).trans hpD.2.1, hFp.2⟩
    have hD3 : (s2.heap.update kS (Obj.mapSeq fun _ => #[])).get? D = some (seqObj "list" #[] e1) := (Heap.get?_update_ne _ _ _ _ hDk).trans hpD.1
    obtain ⟨c, hc⟩ : ∃ c, ((s2.heap.update kS (Obj.mapSeq fun _ => #[])).update D (Obj.mapSeq fun _ => List.toArray (p.toList.map fun i => its.getD i Value.none))).get? D = some (seqObj "list" (List.toArray (p.toList.map fun i => its.getD i Value.none)) c) := ⟨_, get?_update_seq hD3 _⟩
    refine ⟨.ref D, _, I3.adopt (t' := s2.toks) (zs := p.toList.map fun i => ys.getD i V.non) hFp3 (fun b o hb e => (Heap.get?_update_ne _ _ _ _ hb).trans e) hc (vals_pick rv hin) (by rw [List.length_map, hpl, sizeLine_eq]; omega), rfl, q _ _ _ ?_ hDn upd_same hzs fun m h1 h2 => ?_⟩
    ·exact ((sm2.upd hkn).upd hDn)
    ·refine List.pairwise_iff_getElem.mpr fun i j hi hj hij => ?_
     rw [List.length_map, hpl, <- hil] at hj
     have h3 := hord m h1 h2 i j hij hj
     have hs : p.size = ys.length := by rw [<- Array.length_toList, hpl, hil]
     have e1 : p.getD i 0 = p.toList[i]'(by rw [Array.length_toList]; omega) := by simp [Array.getD, show i < p.size by omega]
     have e2 : p.getD j 0 = p.toList[j]'(by rw [Array.length_toList]; omega) := by simp [Array.getD, show j < p.size by omega]
     rw [e1, e2] at h3
     rw [List.getElem_map, List.getElem_map]
     exact h3
def tSortK (K : Fg_) (sp : Sp) (t : TA) : TE := fun σ H Q => t σ H fun vs H1 => ∃ x, vs = [x] /\ rSortK K sp x H1 Q
theorem pe_sortKey {e : Expr} {t : TA} {g : Str} {p kp kpos pos : Pos} (F : FnOk X.prog X.w X.K X.mg X.base CX0 k f fd ps sp) (hr : Room (k + 2) X.A) (hb : Binds X.K fd ps []) (hgs : Gl X "sorted") (hms : X.mg "sorted" = none) (hvs : bootBuiltins "sorted" = some (.builtin "sorted"))
  (hg : Gl X g) (hm : X.mg g = some (.ref f)) (ha : PA X [e] t) (hdb : (g == ("__debug__" : Str)) = false := by decide)
  (he : backTo pos (starEach [e] X.env) = (false, eval e X.env) :: backTo pos (starEach [] X.env) := by rfl) (hpl : (backTo pos (starEach [e] X.env)).any (·.1) = false := by rfl) :
  PE X (.Call (.Name "sorted" p) [e] [⟨some "key", .Name g kp, kpos⟩] pos) (tSortK X.K sp t) := by
 intro pins s σ H Q I h
 refine wpAny_Call_Name_kw (ld_blt I hgs hms hvs ?_)
 refine callWith_kw (thn (ha pos pins s σ H _ I h) fun us s1 ⟨vs, H1, I1, r, x, ex, q⟩ => ?_) he hpl
 subst ex
 obtain ⟨u, rfl, rx⟩ := vals1 r
 have hk : PK X [⟨some "key", .Name g kp, kpos⟩] (tCons (tC (.ref f)) tNil) := pk_cons (pe_glob hg hm rfl hdb) pk_nil
 refine thn (hk pos pins s1 σ H1 (fun zs H2 => zs = [.ref f] /\ H2 = H1) I1 ⟨rfl, rfl⟩) fun ws s2 ⟨zs, H2, I2, rz, e1, e2⟩ => ?_
 subst e1 e2
 obtain ⟨w1, rfl, rw1⟩ := vals1 rz
 cases rw1
 exact sorted_key F hr hb I2 rx q
theorem pe_sortKeyK {K : Fg_} {e : Expr} {t : TA} {g : Str} {p kp kpos pos : Pos} (hK : X.K = K) (h : PE X (.Call (.Name "sorted" p) [e] [⟨some "key", .Name g kp, kpos⟩] pos) (tSortK X.K sp t)) : PE X (.Call (.Name "sorted" p) [e] [⟨some "key", .Name g kp, kpos⟩] pos) (tSortK K sp t) := hK ▸ h
theorem ap_tSortK {K : Fg_} {sp : Sp} {t : TA} {σ : St} {H : Hp} {Q : VK} : tSortK K sp t σ H Q = t σ H fun vs H1 => ∃ x, vs = [x] /\ rSortK K sp x H1 Q := rfl
theorem ap_rSortK {K : Fg_} {sp : Sp} {a : Addr} {H : Hp} {Q : VK} : rSortK K sp (.ref a) H Q = ∃ (ys : List V) (kf : V -> List Int), SqL K H a ys /\ ys.length < 64 /\ (∀ y ∈ ys, kf y ≠ [] /\ KeyFn sp kf H y) /\
  ∀ p zs H', Same H H' -> H p = none -> H' p = some (.lst zs) -> zs.Perm ys -> (∀ m, (∀ y ∈ ys, (kf y).length = m) -> (ys.map kf).Nodup -> zs.Pairwise fun y z => lexB (kf y) (kf z) false = true) -> Q (.ref p) H' := by simp [rSortK]
end
end L2
namespace L2
open PySem PySem.W PySem.Spec PyProof.Rows
section
variable {X : Cx}
def rEqR (K : Fg_) : R2 := fun x y H Q => ∃ (a b : Addr) (xs ys : List V), x = .ref a /\ y = .ref b /\ SqL K H a xs /\ SqL K H b ys /\ ((xs.length ≠ ys.length /\ Q (.bl false) H) \/ (xs = ys /\ (∀ v ∈ xs, ∃ c, v = .ref c) /\ Q (.bl true) H))
def rNeR (K : Fg_) : R2 := fun x y H Q => ∃ (a b : Addr) (xs ys : List V), x = .ref a /\ y = .ref b /\ SqL K H a xs /\ SqL K H b ys /\ ((xs.length ≠ ys.length /\ Q (.bl true) H) \/ (xs = ys /\ (∀ v ∈ xs, ∃ c, v = .ref c) /\ Q (.bl false) H))
theorem refs_same {A : Around} {s : Shared} : ∀ {xs : List V} {us us2 : List Value}, (∀ v ∈ xs, ∃ c, v = .ref c) -> Vals xs us -> Vals xs us2 -> us = us2
 | _, _, _, _, .nil, .nil => rfl
 | _, _, _, h, .cons r1 t1, .cons r2 t2 => by
  obtain ⟨c, rfl⟩ := h _ List.mem_cons_self
  cases r1
  cases r2
  rw [refs_same (A := A) (s := s) (fun v hv => h v (List.mem_cons_of_mem _ hv)) t1 t2]
theorem op_eqR {k : Nat} (hr : Room k X.A) : OpR X (compareOp .Eq) (rEqR X.K) := by
 intro pins s σ H x y v u Q I rx ry h
 obtain ⟨a, b, xs, ys, rfl, rfl, h1, h2, h⟩ := h
 have hr' := hr.units
 have hu' : X.A.units < cLine := by omega
 cases rx
 cases ry
 obtain ⟨its, rv, p, _⟩ := I.list h1
 obtain ⟨its2, rv2, p2, _⟩ := I.list h2
 have l1 := rv.length
 have l2 := rv2.length
 rcases h with ⟨hn, q⟩ | ⟨rfl, hc, q⟩
 ·exact SeqAt.RcAt.lists_lengths p.isList p2.isList (by simp only [List.size_toArray, bne_iff_ne]; omega) hu' X.prog X.w X.xe _ ⟨.bl _, H, I, rfl, q⟩
 ·have e := refs_same (A := X.A) (s := s) hc rv rv2
  subst e
  have := SeqAt.RcAt.lists (A := X.A) (e := fun _ => true) p.isList p2.isList rfl hu' (fun j _ _ => SeqAt.EqAt.same _)
  rw [show ((List.range its.toArray.size).all fun _ => true) = true by simp] at this
  exact this X.prog X.w X.xe _ ⟨.bl _, H, I, rfl, q⟩
theorem op_neR {k : Nat} (hr : Room k X.A) : OpR X (compareOp .NotEq) (rNeR X.K) := by
 intro pins s σ H x y v u Q I rx ry h
 obtain ⟨a, b, xs, ys, rfl, rfl, h1, h2, h⟩ := h
 have hr' := hr.units
 have hu' : X.A.units < cLine := by omega
 cases rx
 cases ry
 obtain ⟨its, rv, p, _⟩ := I.list h1
 obtain ⟨its2, rv2, p2, _⟩ := I.list h2
 have l1 := rv.length
 have l2 := rv2.length
 rcases h with ⟨hn, q⟩ | ⟨rfl, hc, q⟩
 ·exact SeqAt.RcNeAt.lists_lengths p.isList p2.isList (by simp only [List.size_toArray, bne_iff_ne]; omega) hu' X.prog X.w X.xe _ ⟨.bl _, H, I, rfl, q⟩
 ·have e := refs_same (A := X.A) (s := s) hc rv rv2
  subst e
  have := SeqAt.RcNeAt.lists (A := X.A) (e := fun _ => true) p.isList p2.isList rfl hu' (fun j _ _ => SeqAt.EqAt.same _)
  rw [show ((List.range its.toArray.size).all fun _ => true) = true by simp] at this
  exact this X.prog X.w X.xe _ ⟨.bl _, H, I, rfl, q⟩
theorem op_eqRK {K : Fg_} {k : Nat} (hr : Room k X.A) (hK : X.K = K := by rfl) : OpR X (compareOp .Eq) (rEqR K) := hK ▸ op_eqR hr
theorem op_neRK {K : Fg_} {k : Nat} (hr : Room k X.A) (hK : X.K = K := by rfl) : OpR X (compareOp .NotEq) (rNeR K) := hK ▸ op_neR hr
theorem ap_eqR {K : Fg_} {a b : Addr} {H : Hp} {Q : VK} : rEqR K (.ref a) (.ref b) H Q = ∃ (xs ys : List V), SqL K H a xs /\ SqL K H b ys /\ ((xs.length ≠ ys.length /\ Q (.bl false) H) \/ (xs = ys /\ (∀ v ∈ xs, ∃ c, v = .ref c) /\ Q (.bl true) H)) := by simp [rEqR]
theorem ap_neR {K : Fg_} {a b : Addr} {H : Hp} {Q : VK} : rNeR K (.ref a) (.ref b) H Q = ∃ (xs ys : List V), SqL K H a xs /\ SqL K H b ys /\ ((xs.length ≠ ys.length /\ Q (.bl true) H) \/ (xs = ys /\ (∀ v ∈ xs, ∃ c, v = .ref c) /\ Q (.bl false) H)) := by simp [rNeR]
end
end L2
namespace L2
open PySem PySem.W PySem.Spec PySem.Calls PyProof.Rows
def LamO (f : Addr) (o : Obj) : HO := .ext fun h => h.get? f = some o
def RecO (c : Addr) (q : Str) : HO := .ext fun h => h.CodeRec (.ref c) q
def SameX (Pt : Addr) (H H' : Hp) : Prop := ∀ b o, b ≠ Pt -> H b = some o -> H' b = some o
theorem SameX.of {Pt : Addr} {H H' : Hp} (h : Same H H') : SameX Pt H H' := fun b o _ e => h b o e
theorem SameX.trans {Pt : Addr} {H H1 H2 : Hp} (h : SameX Pt H H1) (k : SameX Pt H1 H2) : SameX Pt H H2 := fun b o n e => k b o n (h b o n e)
def lamH (H : Hp) (Pt : Addr) (ps : Array Value) (c : Addr) (q : Str) (f : Addr) (o : Obj) : Hp := upd (upd (upd H Pt (.tbl ps)) c (RecO c q)) f (LamO f o)
section
variable {H : Hp} {Pt c f : Addr} {ps : Array Value} {q : Str} {o : Obj}
theorem lamH_f : lamH H Pt ps c q f o f = some (LamO f o) := upd_same
theorem lamH_c (h : c ≠ f) : lamH H Pt ps c q f o c = some (RecO c q) := (upd_ne h).trans upd_same
theorem lamH_ne {b : Addr} (h1 : b ≠ Pt) (h2 : b ≠ c) (h3 : b ≠ f) : lamH H Pt ps c q f o b = H b := (upd_ne h3).trans ((upd_ne h2).trans (upd_ne h1))
theorem lamH_old (hc : H c = none) (hf : H f = none) : SameX Pt H (lamH H Pt ps c q f o) := fun _ _ n e => (lamH_ne n (ne_of_none e hc) (ne_of_none e hf)).trans e
end
section
variable {X : Cx} {pins : List (Addr × Obj)} {σ : St} {H : Hp} {s : Shared}
theorem Inv.lam {h' : Heap} {tk : Nat} {Pt c f : Addr} {ps more : Array Value} {q : Str} {o : Obj} (I : Inv X pins σ H s) (hP : H Pt = some (.tbl ps)) (hx : ∀ b u, b ≠ Pt -> s.heap.get? b = some u -> h'.get? b = some u)
  (hp : h'.get? Pt = some { cls := .none, data := .fields (ps ++ more) }) (hc : s.heap.objs.size <= c) (hf : s.heap.objs.size <= f) (hcf : c ≠ f) (hrec : h'.CodeRec (.ref c) q) (hfo : h'.get? f = some o) :
  Inv X pins σ (lamH H Pt (ps ++ more) c q f o) { s with heap := h', toks := tk } := by
 have hPl : Pt < s.heap.objs.size := I.hok.lt hP
 have hPc : Pt ≠ c := Nat.ne_of_lt (Nat.lt_of_lt_of_le hPl hc)
 have hPf : Pt ≠ f := Nat.ne_of_lt (Nat.lt_of_lt_of_le hPl hf)
 have hcn := I.hok.fresh hc
 have hfn := I.hok.fresh hf
 have eP : lamH H Pt (ps ++ more) c q f o Pt = some (.tbl (ps ++ more)) := (upd_ne hPf).trans ((upd_ne hPc).trans upd_same)
 have old : SameX Pt H (lamH H Pt (ps ++ more) c q f o) := lamH_old hcn hfn
 have nP : ∀ {b : Addr}, H b = none -> b ≠ Pt := fun n z => by rw [z, hP] at n; cases n
 refine I.un (h' := h') (t' := tk) ⟨fun b u e n _ _ => hx b u (nP n) e, fun b u e n _ _ => ⟨u.slots, hx b u (nP n) e⟩, fun b u e n _ => ?_, fun b u e _ => ?_, fun b xs e => old b _ (fun z => by rw [z, hP] at e; cases e) e, fun b u v e => old b _ (fun z => by rw [z, hP] at e; cases e) e, fun b ps' e => ?_⟩ fun b u e => ?_
 ·have hb : b < s.heap.objs.size := Heap.lt_size e
  rw [lamH_ne (nP n) (Nat.ne_of_lt (Nat.lt_of_lt_of_le hb hc)) (Nat.ne_of_lt (Nat.lt_of_lt_of_le hb hf))]
  exact n
 ·by_cases z : b = Pt
  ·exact ⟨_, z ▸ hp⟩
  ·exact ⟨u, hx b u z e⟩
 ·by_cases z : b = Pt
  ·subst z
   rw [hP] at e
   cases e
   exact ⟨more, eP⟩
  ·exact ⟨#[], by rw [old b _ z e]; simp⟩
 ·by_cases z : b = Pt
  ·subst z
   rw [eP] at e
   obtain rfl := Option.some.inj e
   exact hp
  ·by_cases zc : b = c
   ·subst zc
    rw [lamH_c hcf] at e
    obtain rfl := Option.some.inj e
    obtain ⟨c2, oc, vs, t, e1, e2, e3, e4⟩ := id hrec
    cases e1
    refine ⟨hrec, ⟨oc, e2⟩, fun h1 h2 a k => ?_⟩
    obtain ⟨c3, o3, v3, t3, g1, g2, g3, g4⟩ := a
    cases g1
    exact ⟨_, o3, v3, t3, rfl, k _ g2, g3, g4⟩
   ·by_cases zf : b = f
    ·subst zf
     rw [lamH_f] at e
     obtain rfl := Option.some.inj e
     exact ⟨hfo, ⟨o, hfo⟩, fun h1 h2 a k => k _ a⟩
    ·rw [lamH_ne z zc zf] at e
     refine (I.hok b u e).stay (fun d v hd r => hx d v ?_ r) (fun d r => old d _ (fun y => by rw [y, hP] at r; cases r) r) fun d v r => old d _ (fun y => by rw [y, hP] at r; cases r) r
     rcases hd with y | y
     ·rw [y]; exact z
     ·intro y2; rw [y2, hP] at y; cases y
end
section
variable {P : Program} {w : World} {K : Fg_} {mg : Str -> Option Value} {base : Heap}
def spLam (f c : Addr) (q : Str) (o : Obj) (x : Str) (tb : TE) : Sp := fun vs H Q _ => ∃ v, vs = [v] /\ H f = some (LamO f o) /\ H c = some (RecO c q) /\ tb (start [x] [v]) H Q
theorem lam_ok {k : Nat} {f c : Addr} {q : Str} {params : Arguments} {body : Expr} {scope : Scope} {pm ctv : Value} {x : Str} {tb : TE} (S : FnScope [x] [x] scope)
  (hbody : ∀ (A : Around) (outer : List Env) (s : Shared) (H : Hp) (E : XK), Room k (A.deeper (envOfC q scope s.heap.objs.size f (.ref c))) -> PE (cxOf CX0 P w K mg base [x] q scope f (.ref c) A outer s H E).nox body tb) :
  FnOk P w K mg base CX0 (k + 1) f (kla_fn "<lambda>" q params body scope [] pm (.ref c) ctv) [x] (spLam f c q (kla_obj "<lambda>" q params body scope [] pm c ctv) x tb) := by
 refine ⟨fun vs H Q E h => by obtain ⟨v, rfl, _⟩ := h; rfl, fun A outer s H args us vs Q E hr e0 hb r hsp => ?_⟩
 obtain ⟨v, rfl, hf, hc, ht⟩ := hsp
 have lim : s.heap.NoLimit := e0.mod.nolimit.keeps fun b o e => (e0.bs b o e).1
 have hof : s.heap.get? f = some (kla_obj "<lambda>" q params body scope [] pm c ctv) := (e0.hok f _ hf).1
 have hoc : s.heap.CodeRec (.ref c) q := (e0.hok c _ hc).1
 have hkind : ∀ y ∈ [x].zip us, scope.names.lookup y.1 = some .local \/ (scope.names.lookup y.1 = some .cell /\ ((cellsFrom (s.heap.objs.size + 1) scope.names []).lookup y.1).isSome = true) := fun ⟨n, v⟩ hy => by
  rcases S.par n (List.of_mem_zip hy).1 with q | q
  ·exact .inl q
  ·exact .inr ⟨q, PySem.W.cellsFrom_some _ _ _ (.inl q)⟩
 refine kla_callFunE hr.depth hof rfl S.co S.gen rfl hoc (hb _ _ _ _ ?_)
 refine wpAny_newFunctionEnv_cells S.kind hkind fun env he s1 y => ?_
 subst he
 refine ⟨lim.keeps y.toInCall.keep, kla_codeExpr ?_⟩
 have I : Inv (cxOf CX0 P w K mg base [x] q scope f (.ref c) A outer s H E) [] (start [x] [v]) H s1 := inv_start S hr.hd e0 rfl r y
 refine wpAny_mono ((PE.nox (hbody A outer s H E (hr.deeper _))) [] s1 (start [x] [v]) H Q I ht) (fun u s' hs => ?_) fun e s' hs => hs
 obtain ⟨v', H', J, rv, hq⟩ := hs
 exact ⟨v', H', J.os, J.bare, J.base, J.hok, rv, hq⟩
theorem Fun.okC {x qual : Str} {st : Stmt} {f : Addr} {fd : FuncData} {N ps : List Str} {k : Nat} {sp : Sp} (F : Fun K x qual st f fd) (S : FnScope N ps (defScope st)) (len : ∀ vs H Q E, sp vs H Q E -> vs.length = ps.length)
  (hbody : ∀ (A : Around) (outer : List Env) (s : Shared) (H : Hp) (vs : List V) (Q : VK) (E : XK), Room k (A.deeper (envOfC qual (defScope st) s.heap.objs.size f fd.code)) -> sp vs H Q E ->
   ∃ t, PSs (cxOf CX0 P w K mg base N qual (defScope st) f fd.code A outer s H E).nox (defBody st) t /\ t { nx := fun _ H' => Q .non H', rt := Q } (start N vs) H) : FnOk P w K mg base CX0 (k + 1) f fd ps sp := by
 obtain ⟨oc, od, kV, doc, pm, an, cdv, ct, osl, rfl, lk, hcd⟩ := F.ex
 refine fn_of lk hcd S len fun A outer s H vs Q E hr hsp => ?_
 obtain ⟨t, h, q⟩ := hbody A outer s H vs Q E hr hsp
 exact ⟨t, h.nox, q⟩
end
section
variable {X : Cx}
def tLam (Pt : Addr) (q : Str) (params : Arguments) (body : Expr) (scope : Scope) (pos : Pos) : TE := fun _ H Q => H Pt = some (.tbl #[]) /\ ∀ f c pm ctv, H f = none -> H c = none -> c ≠ f ->
 Q (.ref f) (lamH H Pt #[rawInt pos.line, rawInt pos.col, .ref c] c q f (kla_obj "<lambda>" q params body scope [] pm c ctv))
theorem pe_lam {Pt c0 : Addr} {q : Str} {params : Arguments} {body : Expr} {scope : Scope} {pos : Pos} (hcode : X.env.code = .ref c0) (hC : codeHdIn X.K c0 Pt = true) (hB : X.base.BuiltinsAt X.mg Pt)
  (hcl : closureFor scope X.env = pure []) (hdef : defaultsOf params X.env = ([], [])) (hq : X.env.qual ++ "<lambda>" = q) : PE X (.Lambda params body scope pos) (tLam Pt q params body scope pos) := by
 intro pins s σ H Q I h
 obtain ⟨hP, k⟩ := h
 subst hq
 have hPt : s.heap.get? Pt = some (tabObj #[]) := I.hok Pt _ hP
 have hgs : s.heap.Ns mainGlobals X.mg := I.ok.mod.glob.keeps I.bk
 have hgP : mainGlobals ≠ Pt := fun z => by
  obtain ⟨o, es, ep, e, hd, _⟩ := hgs
  rw [z, hPt] at e; cases e; cases hd
 obtain ⟨bm, ob, b1, b2, b3, b4, b5, b6⟩ := hB
 refine kla_eval hdef (kla_makeFunction (mg := X.mg) (ps := #[]) hcl I.ok.glob hgs hcode (codeHd_of_K I.kIn hC) hPt trivial rfl hgP ⟨bm, ob, b1, b2, b3, b4, I.bk _ _ b5, b6⟩ fun c' ctv h' tk hx hge hlt hrec htb => ?_)
 have hne : c' ≠ h'.objs.size := Nat.ne_of_lt hlt
 have hsz : s.heap.objs.size <= h'.objs.size := Nat.le_trans hge (Nat.le_of_lt hlt)
 refine ⟨.ref h'.objs.size, _, Inv.lam (tk := tk) (ps := #[]) (more := #[rawInt pos.line, rawInt pos.col, .ref c']) (c := c') (q := X.env.qual ++ "<lambda>") (f := h'.objs.size) I hP (fun b u n e => Heap.get?_push_of_some _ (hx b u n e)) (Heap.get?_push_of_some _ htb) hge hsz hne ?_ (Heap.get?_push_size _ rfl), rfl, ?_⟩
 ·obtain ⟨c2, oc, vs, t, e1, e2, e3, e4⟩ := hrec
  exact ⟨c2, oc, vs, t, e1, Heap.get?_push_of_some _ e2, e3, e4⟩
 ·exact k _ _ _ _ (I.hok.fresh hsz) (I.hok.fresh hge) hne
end
theorem law_callT {P : Program} {w : World} {K : Fg_} {mg mb : Str -> Option Value} {CX : CXT} {k : Nat} {fa a c Pt : Addr} {fd : FuncData} {x : Str} {sp : Sp} {s₁ : Shared} {vs : List Value} {ns : List Int}
  (KX : K.In s₁.heap) (hT : s₁.heap.get? Pt = some (tabObj #[])) (hC : codeHdIn K c Pt = true) (hKT : K.lookup Pt = none) (hns : s₁.heap.Ns mainGlobals mg) (hb : s₁.heap.Ns builtinsNs mb) (hbb : ∀ x : Str, x ≠ "__name__" -> mb x = bootBuiltins x) (hlim : s₁.heap.NoLimit)
  (hbm : ∃ bm ob, mg "__builtins__" = some (.ref bm) /\ bm ≠ builtinsNs /\ s₁.heap.get? bm = some ob /\ ob.cls = .type "module" /\ ob.dict = some builtinsNs /\ ob.data = .plain) (hg : s₁.gens = #[])
  (ha : s₁.heap.get? a = some { cls := .type "list", data := .seq vs.toArray }) (hi : IntsAre vs ns) (hl : ns.length <= sizeLine) (hr : Room k callerA)
  (F : ∀ base : Heap, K.In base -> base.Ns mainGlobals mg -> base.BuiltinsAt mg Pt -> FnOk P w K mg base CX k fa fd [x] sp) (hbind : ∀ (s : Shared) (u : Value), BindsTo s fd ⟨[u], []⟩ [(x, u)])
  (hsp : ∀ H : Hp, H Pt = some (.tbl #[]) -> SqL K H a (ns.map V.int) -> sp [.ref a] H (fun v _ => v = .bl true) fun _ _ _ => False)
  (hCX : ∀ H e s', CX [] H s₁ (fun _ _ _ => False) e s' -> False) :
  codeAny (model P w) callerA (.call (.ref fa) ⟨[.ref a], []⟩) (fun r s' => r = .ok (.ret (.bool true)) /\ OldK s₁.heap s'.heap /\ s'.os = s₁.os /\ AllBare s'.gens) s₁ := by
 have rv := vals_ints hi
 have lenV := hi.length
 have hPa : a ≠ Pt := fun z => by rw [z, hT] at ha; cases ha
 have hKP : ∀ o, K.lookup Pt = some o -> False := fun o e => by rw [hKT] at e; cases e
 have tab : s₁.heap.TableAt c Pt #[] := (codeHd_of_K KX hC).tab hT
 have core : ∀ H : Hp, H Pt = some (.tbl #[]) -> SqL K H a (ns.map V.int) -> HOk P w H s₁.heap -> (∀ b, b ≠ Pt -> H b = none \/ (b = a /\ K.lookup a = none /\ ∃ o xs, H b = some (.frz o (.lst xs)))) ->
   codeAny (model P w) callerA (.call (.ref fa) ⟨[.ref a], []⟩) (fun r s' => r = .ok (.ret (.bool true)) /\ OldK s₁.heap s'.heap /\ s'.os = s₁.os /\ AllBare s'.gens) s₁ := by
  intro H hP hS hok hA
  have noA : ∀ {b : Addr} {o : Obj}, s₁.heap.get? b = some o -> o ≠ tabObj #[] -> (∀ its n, o.data ≠ .seq its n) -> H b = none := fun {b o} e h1 h2 => by
   by_cases z : b = Pt
   ·subst z
    rw [hT] at e
    exact absurd (Option.some.inj e).symm h1
   ·rcases hA b z with y | ⟨y, _⟩
    ·exact y
    ·subst y
     rw [ha] at e
     cases e
     exact absurd rfl (h2 _ _)
  have nsK : ∀ {b : Addr} {m : Str -> Option Value}, s₁.heap.Ns b m -> (hidT s₁.heap H).Ns b m := fun {b m} ⟨o, es, ep, e, d, r⟩ => ⟨o, es, ep, hidT_get e (noA e (fun z => by rw [z] at d; cases d) fun its n z => by rw [z] at d; cases d), d, r⟩
  have hKb : K.In (hidT s₁.heap H) := fun b o e => hidT_get (KX b o e) (by
   by_cases z : b = Pt
   ·subst z
    exact (hKP o e).elim
   ·rcases hA b z with y | ⟨y, hk, _⟩
    ·exact y
    ·subst y
     rw [hk] at e; cases e)
  have hM : Mod K mg (hidT s₁.heap H) := ⟨hKb, nsK hns, ⟨mb, nsK hb, hbb⟩, let ⟨mc, h1, h2⟩ := hlim; ⟨mc, nsK h1, h2⟩⟩
  have e0 : Env0 P w K mg (hidT s₁.heap H) callerA [] s₁ H := ⟨rfl, hM, fun b o e => of_hidT e, Nat.le_of_eq (hidT_size _ _), trivial, fun b hb => absurd (show b ∈ ([] : List Addr) from hb) (by simp), hok, .of_eq hg⟩
  have hBm : (hidT s₁.heap H).BuiltinsAt mg Pt := by
   obtain ⟨bm, ob, b1, b2, b3, b4, b5, b6⟩ := hbm
   have hn : H bm = none := noA b3 (fun z => by rw [z] at b4; cases b4) fun its n z => by rw [z] at b6; cases b6
   refine ⟨bm, ob, b1, b2, fun z => ?_, fun z => ?_, hidT_get b3 hn, b4, b5, b6⟩
   ·obtain ⟨o, es, ep, e, d, _⟩ := hns
    rw [<- z, b3] at e
    cases e
    rw [b6] at d
    cases d
   ·rw [z, hP] at hn; cases hn
  refine codeAny_mono ((F _ hKb (nsK hns) hBm).run callerA [] s₁ H ⟨[.ref a], []⟩ [.ref a] [.ref a] _ _ hr e0 (hbind s₁ (.ref a)) (.cons rfl .nil) (hsp H hP hS)) fun r s' h => ?_
  cases r with
  | error e => exact (hCX H e s' h).elim
  | ok fl =>
   cases fl with
   | next => exact False.elim h
   | brk => exact False.elim h
   | cont => exact False.elim h
   | ret u =>
    obtain ⟨v, H', os, bare, un, hok', r', q⟩ := h
    have q' : v = .bl true := q
    subst q'
    obtain rfl : u = Value.bool true := r'
    refine ⟨rfl, ⟨fun b o e => ?_, fun b o e => un.there b o e (by simp)⟩, os, bare⟩
    by_cases z : b = Pt
    ·subst z
     obtain ⟨more, e1⟩ := un.tbls b _ hP
     have e2 : s'.heap.get? b = some { cls := .none, data := .fields (#[] ++ more) } := hok' b _ e1
     rw [hT] at e
     cases e
     exact .inr (.inl ⟨tab.isCodeTable, rfl, #[], more, rfl, e2⟩)
    ·rcases hA b z with y | ⟨_, _, ob, xs, y⟩
     ·exact .inl (un.keep b o e y (by intro z; exact absurd (show b ∈ ([] : List Addr) from z) (by simp)) (by simp))
     ·have z2 := un.frzs b ob _ y
      obtain ⟨e1, _⟩ := hok b _ y
      obtain ⟨e2, _⟩ := hok' b _ z2
      rw [e] at e1; cases e1
      exact .inl e2
 cases hk : K.lookup a with
 | some o =>
  have e := KX a o hk
  rw [ha] at e
  cases e
  refine core (fun b => if b = Pt then some (.tbl #[]) else none) (if_pos rfl) (.inr ⟨_, vs.toArray, _, hk, rfl, rfl, rfl, by rw [List.size_toArray, lenV]; exact hl, by simpa using rv⟩) (fun b u z => ?_) fun b n => .inl (if_neg n)
  by_cases hb : b = Pt
  ·have z' := (if_pos hb).symm.trans z
   cases z'
   subst hb
   exact hT
  ·have z' := (if_neg hb).symm.trans z
   cases z'
 | none =>
  refine core (fun b => if b = Pt then some (.tbl #[]) else if b = a then some (.frz { cls := .type "list", data := .seq vs.toArray } (.lst (ns.map V.int))) else none) (if_pos rfl) (.inl (.inr ⟨{ cls := .type "list", data := .seq vs.toArray }, (if_neg hPa).trans (if_pos rfl)⟩)) (fun b u z => ?_) fun b n => ?_
  ·by_cases hb : b = Pt
   ·have z' := (if_pos hb).symm.trans z
    cases z'
    subst hb
    exact hT
   ·have z1 := (if_neg hb).symm.trans z
    by_cases hba : b = a
    ·have z' := (if_pos hba).symm.trans z1
     cases z'
     subst hba
     exact ⟨ha, by rw [List.length_map]; exact hl, vs, _, rv, ha⟩
    ·have z' := (if_neg hba).symm.trans z1
     cases z'
  ·by_cases hba : b = a
   ·exact .inr ⟨hba, hk, _, _, (if_neg n).trans (if_pos hba)⟩
   ·exact .inl ((if_neg n).trans (if_neg hba))
theorem walk_ofT {l : PySem.W.OpenLaw} {n k : Nat} {q : Program} {loose : List Str} {XP : (Str -> Option Value) -> Heap -> Prop} {YP : World -> Heap -> Prop} {d : DefRec} {K : Params -> Fg_} {CX : World -> CXT} {sp : World -> Sp} {x : Str} {Pt : Addr}
  (hn : l.most = some n) (hn2 : n <= sizeLine) (hdf : d.params.defaults = []) (hr : Room k callerA)
  (hY : ∀ (w : World) (h : Heap), YP w h -> (K w.params).In h /\ h.get? Pt = some (tabObj #[])) (hKT : ∀ w : World, (K w.params).lookup Pt = none)
  (F : ∀ (w : World) (mg : Str -> Option Value) (fa : Addr) (h : Heap), (K w.params).In h -> h.Ns mainGlobals mg -> mg d.name = some (.ref fa) ->
   ∃ fd : FuncData, (∀ (s : Shared) (u : Value), BindsTo s fd ⟨[u], []⟩ [(x, u)]) /\ (∃ c, codeHdIn (K w.params) c Pt = true) /\
    ∀ base : Heap, (K w.params).In base -> base.Ns mainGlobals mg -> base.BuiltinsAt mg Pt -> FnOk l.prog w (K w.params) mg base (CX w) k fa fd [x] (sp w))
  (hsp : ∀ (w : World) (H : Hp) (a : Addr) (ns : List Int), ns.length <= n -> H Pt = some (.tbl #[]) -> SqL (K w.params) H a (ns.map V.int) -> sp w [.ref a] H (fun v _ => v = .bl true) fun _ _ _ => False)
  (hCX : ∀ (w : World) (H : Hp) (s : Shared) (e : Value) (s' : Shared), CX w [] H s (fun _ _ _ => False) e s' -> False) :
  PySem.W.WalkO q loose XP YP l.row.toRowW d [] (fun f vs => PySem.call f vs) := by
 refine Att.attach_call hn hdf fun w s₀ s₁ mg mb fa o pm cd doc a vs ns G Y ho hd hcd hmg hobj hints hlen hg => ?_
 obtain ⟨KX, hT⟩ := hY w _ Y
 obtain ⟨fd, hb, ⟨c, hC⟩, hF⟩ := F w mg fa _ KX G.T.g hmg
 exact law_callT KX hT hC (hKT w) G.T.g G.T.b G.T.builtins G.T.nolimit G.T.bmain hg hobj hints (Nat.le_trans hlen hn2) hr hF hb (fun H hP hS => hsp w H a ns hlen hP hS) fun H e s' => hCX w H s₁ e s'
end L2
namespace L2
open PySem PySem.W PySem.Spec PySem.Calls PyProof.Rows
structure Apart3 (z TI TO i1 i2 i3 l1 l2 l3 : Addr) : Prop where
 zz : TI ≠ z /\ TO ≠ z /\ i1 ≠ z /\ i2 ≠ z /\ i3 ≠ z /\ l1 ≠ z /\ l2 ≠ z /\ l3 ≠ z
 to : TI ≠ TO /\ i1 ≠ TO /\ i2 ≠ TO /\ i3 ≠ TO /\ l1 ≠ TO /\ l2 ≠ TO /\ l3 ≠ TO
 ii : i1 ≠ i2 /\ i1 ≠ i3 /\ i2 ≠ i3
 j1 : TI ≠ i1 /\ l1 ≠ i1 /\ l2 ≠ i1 /\ l3 ≠ i1
 j2 : TI ≠ i2 /\ l1 ≠ i2 /\ l2 ≠ i2 /\ l3 ≠ i2
 j3 : TI ≠ i3 /\ l1 ≠ i3 /\ l2 ≠ i3 /\ l3 ≠ i3
end L2
namespace L2
open PySem PySem.W PySem.Spec PySem.Calls PyProof.Rows
def viewI (v a : Addr) : HO := .ext fun h => h.IsItemsView v a
def Iti (a : Addr) (o : Obj) (kvs : List (Key × V)) : It := ⟨fun i H => H a = some (.frz o (.dK kvs)) /\ i < kvs.length, fun i H x H' => ∃ p k v, H p = none /\ x = .ref p /\ H' = upd H p (.tup [kV k, v]) /\ kvs[i]? = some (k, v), fun i H => H a = some (.frz o (.dK kvs)) /\ kvs.length <= i⟩
theorem entry_ii : entryFor table "dict_itemiterator.__iter__" = some Builtin.«dict_keyiterator.__iter__» := entryFor_alias (id' := "dict_keyiterator.__iter__") (by kernel_rfl) (by decide +kernel) (by decide +kernel) (by kernel_rfl)
theorem itemsI_self {P : Program} {w : World} {A : Around} {E : Value -> Shared -> Prop} {s : Shared} {it d : Addr} {i n ep : Nat} {ok ov : Value} {Q : Value -> Shared -> Prop} (hit : IsItemIter s.heap it d i n ep ok ov) (h : Q (.ref it) s) : wpAny (model P w) A (pyIter (.ref it)) Q E s := by
 have hT : s.TypeIs (.ref it) "dict_itemiterator" := ⟨_, hit, rfl⟩
 refine wpAny_pyIter_slot hT F.slot_dict_itemiterator_iter (wpAny_call_entry F.slot_dict_itemiterator_iter hT entry_ii ?_ (F.args_dict_itemiterator_iter_1 _))
 show wpAny _ _ (ret (.ref it)) _ _ s; exact wpAny_pure ⟨_, rfl, "dict_itemiterator", _, hT, F.slot_dict_itemiterator_next.lookup, h⟩
theorem kV_rel {P : Program} {w : World} {k : Key} {u : Value} (h : (mixKind P w).is k u = true) : RelV (kV k) u := by
 rcases keyIs_shape h with ⟨i, t, rfl, rfl⟩ | ⟨x, t, rfl, rfl⟩
 ·exact ⟨t, rfl⟩
 ·exact ⟨t, rfl⟩
theorem turn_items {P : Program} {w : World} {K : Fg_} {elts : List Expr} {x1 : Nat} {pos : Pos} {a it : Addr} {o : Obj} {kvs : List (Key × V)} {es : Array DictEntry} {ep : Nat} (hdat : o.data = .dict es ep) : Turn P w K (.Tuple elts x1 pos) (Iti a o kvs) [it] it (fun i h => ∃ ok ov, IsItemIter h it a i kvs.length ep ok ov) where
 mem := by simp
 obj := fun i h st b hb => by
  obtain rfl : b = it := by simpa using hb
  obtain ⟨ok, ov, e⟩ := st
  exact ⟨_, e, fun v z => by cases z⟩
 keep := fun i h h' st k => let ⟨ok, ov, e⟩ := st; ⟨ok, ov, k it (by simp) _ e⟩
 item := by
  intro X hP hw hK hc i pins s σ H E I hf st hg
  subst hP hw hK
  obtain ⟨hg1, hg2⟩ := hg
  obtain ⟨vs, rel, hat⟩ := frz_at I hg1 hdat
  have hvl : kvs.length = vs.length := Paired.length rel
  obtain ⟨⟨k0, v0⟩, hx⟩ : ∃ q, vs[i]? = some q := ⟨_, List.getElem?_eq_getElem (by omega)⟩
  obtain ⟨p, hp, e1, e2⟩ := paired_get rel hx
  obtain ⟨ok, ov, hit⟩ := st
  rw [hvl] at hit
  refine wpAny_pyNext_items_item hit hat (k := k0) (v := v0) hx fun key h' hkey hout htup hsz hkeep => ?_
  refine ⟨_, rfl, wpAny_letOwnedTupleGo_items (s := { s with heap := h' }) hout fun h'' hit'' sb => ?_⟩
  have nit : s.heap.objs.size ≠ it := Nat.ne_of_gt (Heap.lt_size hit)
  have k : ∀ c o, c ∉ [it] -> s.heap.get? c = some o -> h''.get? c = some o := fun c o hc e => by
   have hc' : c ≠ it := by simpa using hc
   exact (sb.2 c hc').trans (hkeep c o hc' e)
  have hTup : h''.get? s.heap.objs.size = some { cls := .type "tuple", data := .seq #[key, v0] } := (sb.2 _ nit).trans htup
  rw [<- hvl] at hit''
  refine ⟨.ref s.heap.objs.size, upd H s.heap.objs.size (.tup [kV p.1, p.2]), I.turnedT (t' := s.toks) hf (Nat.le_refl _) k ⟨by rw [sizeLine_eq]; simp, [key, v0], .cons (kV_rel (by rw [show p.1 = k0 from e1]; exact hkey)) (.cons e2 .nil), _, hTup, rfl, _, rfl⟩, rfl,
   ⟨_, p.1, p.2, I.hok.fresh (Nat.le_refl _), rfl, rfl, hp⟩, ⟨_, _, hit''⟩, fun c hb => ?_⟩
  obtain rfl : c = it := by simpa using hb
  rw [upd_ne (Nat.ne_of_lt (Heap.lt_size hit))]
  exact (hf c hb).1
 done := by
  intro X hP hw hK hc i pins s σ H E I hf st hg
  subst hP hw hK
  obtain ⟨hg1, hg2⟩ := hg
  obtain ⟨vs, rel, hat⟩ := frz_at I hg1 hdat
  have hvl : kvs.length = vs.length := Paired.length rel
  obtain ⟨ok, ov, hit⟩ := st
  rw [hvl] at hit
  obtain ⟨f0, f1, f2, f3, f4, f5⟩ := hf it (by simp)
  exact wpAny_pyNext_items_end (I.ok.hd hc) hit hat (by simp; omega) fun h' eb => ⟨rfl, I.turned (t' := s.toks) (fun b o hb e => eb b o hb e) f0 f1 f3 f4 f5⟩
 self := fun _ _ _ _ _ ⟨_, _, st⟩ h => itemsI_self st h
section
variable {X : Cx} {elts : List Expr} {x1 : Nat} {tpos : Pos}
def iItems (tl : TE) : TI := fun σ H R => tl σ H fun x H1 => ∃ v a kvs, x = .ref v /\ H1 v = some (viewI v a) /\ H1 a = some (.dK kvs) /\ ∀ o, R (Iti a o kvs) (upd H1 a (.frz o (.dK kvs)))
theorem pi_items {l : Expr} {tl : TE} (hl : PE X l tl) : PI X (.Tuple elts x1 tpos) l (iItems tl) := by
 intro pins s σ H R I h
 refine thn (hl pins s σ H _ I h) fun u s1 ⟨x, H1, I1, r1, v, a, kvs, ex, hv, ha, q⟩ => ?_
 subst ex
 cases r1
 obtain ⟨hview, _, _⟩ := (show ObjOk X.prog X.w H1 s1.heap v (viewI v a) from I1.hok v _ hv)
 obtain ⟨z, hsys, vs, rel, o, es, ep, q1, q2, q3, q4⟩ := (show ObjOk X.prog X.w H1 s1.heap a (.dK kvs) from I1.hok a _ ha)
 have hvl : kvs.length = vs.length := Paired.length rel
 have hat : s1.heap.DictAt (mixKind X.prog X.w) a vs ep := ⟨o, es, q1, q2, q3, q4⟩
 refine wpAny_pyIter_items hview hat ?_
 have I2 : Inv X pins σ (upd H1 a (.frz o (.dK kvs))) s1 := I1.write (t' := s1.toks) (h' := s1.heap) (by rw [ha]; exact True.intro) (.inl rfl) (fun b u _ e => e) ⟨o, q1⟩ (show ObjOk X.prog X.w _ s1.heap a (.frz o (.dK kvs)) from ⟨q1, z, hsys, vs, rel, o, es, ep, q1, q2, q3, q4⟩)
 refine ⟨s1.heap.objs.size, [s1.heap.objs.size], _, _, _, rfl, I2.kept (t' := s1.toks) fun b o e => Heap.get?_push_of_some _ e, turn_items q3, ⟨.none, .none, by rw [hvl]; exact Heap.get?_push_size _ rfl⟩, fun b hb => ?_, q o⟩
 obtain rfl : b = s1.heap.objs.size := by simpa using hb
 exact I2.fpOk (Nat.le_refl _) (I2.hok.fresh (Nat.le_refl _))
def rItems : V -> List V -> Hp -> VK -> Prop := fun x vs H Q => ∃ a kvs, x = .ref a /\ vs = [] /\ H a = some (.dK kvs) /\ ∀ v, H v = none -> Q (.ref v) (upd H v (viewI v a))
theorem mt_items : MtR X "dict.items" rItems := by
 intro pins s σ H x vs v us Q I rx rv h
 obtain ⟨a, kvs, rfl, rfl, ha, q⟩ := h
 cases rx
 have hus := rv.zero
 subst hus
 obtain ⟨z, hsys, ws, rel, dd⟩ := dk_of I.hok ha
 refine call_meetsIn PySem.F.slot_dict_items dd.typeIs PySem.F.entry_dict_items (PySem.F.args_dict_items_1 _) (meets_dict_items (mixKind X.prog X.w) a hsys) ⟨⟨ws, dd⟩, ?_⟩
 have hg : (s.heap.push { cls := .type "dict_items", data := .fields #[.ref a] }).IsItemsView s.heap.objs.size a := ⟨_, Heap.get?_push_size _ rfl, rfl, rfl⟩
 exact ⟨.ref s.heap.objs.size, _, I.laid (a := s.heap.objs.size) (o := viewI s.heap.objs.size a) (t' := s.toks) (fun b o e => Heap.get?_push_of_some _ e) (Nat.le_refl _) ⟨hg, ⟨_, Heap.get?_push_size _ rfl⟩, fun h1 h2 ⟨ov, e1, e2⟩ k => ⟨ov, k ov e1, e2⟩⟩, rfl, q _ (I.hok.fresh (Nat.le_refl _))⟩
end
section
variable {K : Fg_} {σ : St} {H : Hp} {Q : VK} {R : It -> Hp -> Prop} {tl : TE} {g : TG} {tt : TT} {te : TE} {cap : List (Option Nat)} {a : Addr} {o : Obj} {kvs : List (Key × V)}
theorem ap_iItems : iItems tl σ H R = tl σ H fun x H1 => ∃ v a kvs, x = .ref v /\ H1 v = some (viewI v a) /\ H1 a = some (.dK kvs) /\ ∀ o, R (Iti a o kvs) (upd H1 a (.frz o (.dK kvs))) := rfl
theorem ap_rItems : rItems (.ref a) [] H Q = ∃ kvs, H a = some (.dK kvs) /\ ∀ v, H v = none -> Q (.ref v) (upd H v (viewI v a)) := by simp [rItems]
theorem CompP.itemsF (Sσ : St -> Prop) (fil : Key × V -> Bool) (F : Key × V -> V -> Hp -> Prop) (hH : H a = some (.frz o (.dK kvs))) (h0 : Sσ (capSt σ cap)) (hz : kvs.length <= sizeLine)
  (hs : ∀ (D : Addr) (i : Nat) (kv : Key × V), kvs[i]? = some kv -> ∀ (σ : St) (H5 : Hp) (p : Addr) (R1 : St -> VK) (R2 : St -> Hp -> Prop), Sσ σ -> Same H H5 -> H D = Option.none -> (∃ acc, H5 D = some (.lst acc)) -> H5 p = Option.none ->
   (fil kv = true -> ∀ v σ4 H6, Sσ σ4 -> Same (upd H5 p (.tup [kV kv.1, kv.2])) H6 -> (∀ H', But D H6 H' -> F kv v H') -> R1 σ4 v H6) -> (fil kv = false -> ∀ σ4 H6, Sσ σ4 -> Same (upd H5 p (.tup [kV kv.1, kv.2])) H6 -> R2 σ4 H6) ->
   g (.ref p) σ (upd H5 p (.tup [kV kv.1, kv.2])) fun σ4 H4 => tt σ4 H4 fun b H5 => if b = true then te σ4 H5 (R1 σ4) else R2 σ4 H5)
  (k : ∀ D H' acc, H D = Option.none -> Same H H' -> H' D = some (.lst acc) -> acc.length = (kvs.filter fil).length -> (∀ (i : Nat) v, acc[i]? = some v -> ∃ kv, (kvs.filter fil)[i]? = some kv /\ F kv v H') -> Q (.ref D) H') : CompP cap (Iti a o kvs) g tt te σ H Q := by
 intro D hD
 refine ⟨fun i m acc σ H2 => m = kvs.length - i /\ i <= kvs.length /\ Sσ σ /\ Same H H2 /\ acc.length = ((kvs.take i).filter fil).length /\ ∀ (j : Nat) v, acc[j]? = some v -> ∃ kv, ((kvs.take i).filter fil)[j]? = some kv /\ ∀ H', But D H2 H' -> F kv v H', ⟨kvs.length, rfl, Nat.zero_le _, h0, Same.new hD, rfl, fun j v e => by simp at e⟩, ?_⟩
 rintro i m acc σ1 H2 ⟨rfl, hi, hσ, sm, hal, hF⟩ hA
 by_cases hlt : i < kvs.length
 ·refine .inr ⟨⟨sm _ _ hH, hlt⟩, fun y H3 hy => ?_⟩
  obtain ⟨p, k0, v0, hp, rfl, rfl, hkv⟩ := hy
  have htk : kvs.take (i + 1) = kvs.take i ++ [(k0, v0)] := by rw [List.take_add_one, hkv]; rfl
  have hle : ((kvs.take i).filter fil).length <= i := Nat.le_trans (List.length_filter_le _ _) (by rw [List.length_take]; omega)
  have sn := Same.new (o := .tup [kV k0, v0]) hp
  refine hs D i (k0, v0) hkv σ1 H2 p _ _ hσ sm hD ⟨_, hA⟩ hp (fun hf v σ4 H6 hσ4 s6 hF6 => ?_) fun hf σ4 H6 hσ4 s6 => ?_
  ·have s26 := sn.trans s6
   have hA6 := s26 _ _ hA
   have hfl : (kvs.take (i + 1)).filter fil = (kvs.take i).filter fil ++ [(k0, v0)] := by rw [htk, List.filter_append, List.filter_cons_of_pos hf]; rfl
   refine ⟨acc, hA6, by omega, kvs.length - (i + 1), by omega, rfl, hlt, hσ4, (sm.trans s26).upd hD, by rw [List.length_append, hal, hfl, List.length_append]; rfl, fun j u hj => ?_⟩
   rw [hfl]
   by_cases hjl : j < acc.length
   ·rw [List.getElem?_append_left hjl] at hj
    obtain ⟨kv, h1, h2⟩ := hF j u hj
    refine ⟨kv, ?_, fun H' hb => h2 H' fun b o hne e => hb b o hne ((upd_ne hne).trans (s26 _ _ e))⟩
    rw [List.getElem?_append_left (by omega)]
    exact h1
   ·rw [List.getElem?_append_right (by omega)] at hj
    have hj0 : j - acc.length = 0 := by
     have := (List.getElem?_eq_some_iff.mp hj).1
     simp at this
     omega
    rw [hj0] at hj
    cases hj
    refine ⟨(k0, v0), ?_, fun H' hb => hF6 H' fun b o hne e => hb b o hne ((upd_ne hne).trans e)⟩
    rw [List.getElem?_append_right (by omega), show j - ((kvs.take i).filter fil).length = 0 by omega]
    rfl
  ·have s26 := sn.trans s6
   have hfl : (kvs.take (i + 1)).filter fil = (kvs.take i).filter fil := by rw [htk, List.filter_append, List.filter_cons_of_neg (by rw [hf]; decide)]; simp
   refine ⟨kvs.length - (i + 1), by omega, acc, s26 _ _ hA, rfl, hlt, hσ4, sm.trans s26, by rw [hfl, hal], fun j u hj => ?_⟩
   rw [hfl]
   obtain ⟨kv, h1, h2⟩ := hF j u hj
   exact ⟨kv, h1, fun H' hb => h2 H' fun b o hne e => hb b o hne (s26 _ _ e)⟩
 ·obtain rfl : i = kvs.length := by omega
  rw [List.take_length] at hal hF
  refine .inl ⟨⟨sm _ _ hH, Nat.le_refl _⟩, k D H2 acc hD sm hA hal fun j v e => ?_⟩
  obtain ⟨kv, h1, h2⟩ := hF j v e
  exact ⟨kv, h1, h2 H2 fun b o _ e => e⟩
end
end L2
namespace L2
open PySem PySem.W PySem.Spec PySem.Calls PyProof.Rows
def Alike (ka kb : List (Key × V)) : Prop := ka.length = kb.length /\ ∀ kv ∈ ka, ∃ i : Int, kv.2 = .int i /\ valV kb kv.1 = some (.int i)
theorem hits_of {A : Around} {s : Shared} {kb : List (Key × V)} {vb : List (Key × Value)} (rb : KV kb vb) : ∀ {ka : List (Key × V)} {va : List (Key × Value)}, KV ka va -> (∀ kv ∈ ka, ∃ i : Int, kv.2 = .int i /\ valV kb kv.1 = some (.int i)) -> PySem.W.KeqHits A s vb va true := by
 intro ka va r
 induction r with
 | nil => intro _; exact .nil
 | @cons p q ps qs h t ih =>
  intro hall
  obtain ⟨i, e1, e2⟩ := hall p List.mem_cons_self
  obtain ⟨h1, h2⟩ := h
  rw [e1] at h2
  obtain ⟨t1, e3⟩ := (show ∃ t, q.2 = Value.int i t from h2)
  obtain ⟨y, hy, ry⟩ := RelO.some_of (v := .int i) (o := valueAt vb p.1) (by rw [<- e2]; exact rb.val p.1)
  obtain ⟨t2, e4⟩ := (show ∃ t, y = Value.int i t from ry)
  subst e4
  have hh : PySem.W.KeqHits A s vb ((q.1, q.2) :: qs) ((i == i) && true) := .hit (by rw [<- h1]; exact hy) (by rw [e3]; exact SeqAt.EqAt.int_int i t1 i t2) (ih fun kv hkv => hall kv (List.mem_cons_of_mem _ hkv))
  simpa using hh
section
variable {X : Cx}
def rEqM : R2 := fun x y H Q => ∃ (a b : Addr) (ka kb : List (Key × V)), x = .ref a /\ y = .ref b /\ Rd H a (.dK ka) /\ Rd H b (.dK kb) /\ Alike ka kb /\ Q (.bl true) H
theorem op_eqM {k : Nat} (hr : Room k X.A) : OpR X (compareOp .Eq) rEqM := by
 intro pins s σ H x y v u Q I rx ry h
 obtain ⟨a, b, ka, kb, rfl, rfl, h1, h2, ⟨hl, hall⟩, q⟩ := h
 have hr' := hr.units
 cases rx
 cases ry
 obtain ⟨_, s1, va, ra, da⟩ := dk_rd I.hok h1
 obtain ⟨_, s2, vb, rb, db⟩ := dk_rd I.hok h2
 refine PySem.W.keq_eq s1 s2 da db (by omega) (fun _ => hits_of rb ra hall) ⟨.bl true, H, I, ?_, q⟩
 rw [<- ra.length, <- rb.length, hl]
 simp
 rfl
theorem ap_eqM {a b : Addr} {H : Hp} {Q : VK} : rEqM (.ref a) (.ref b) H Q = ∃ (ka kb : List (Key × V)), Rd H a (.dK ka) /\ Rd H b (.dK kb) /\ Alike ka kb /\ Q (.bl true) H := by simp [rEqM]
end
end L2
namespace L2
open PySem PySem.W PySem.Spec PySem.Calls PyProof.Rows
section
variable {X : Cx}
theorem Inv.thaw {pins : List (Addr × Obj)} {σ : St} {H : Hp} {s : Shared} {a : Addr} {o : Obj} {kvs : List (Key × V)} (I : Inv X pins σ H s) (hH : H a = some (.frz o (.dK kvs))) (hn : ∀ o u, X.H₀ a ≠ some (.frz o u)) : Inv X pins σ (upd H a (.dK kvs)) s := by
 have ne : ∀ b, H b = none -> b ≠ a := fun b n z => by rw [z, hH] at n; cases n
 have nt : ∀ b xs, H b = some (.tup xs) -> b ≠ a := fun b xs n z => by rw [z, hH] at n; cases n
 have nw : ∀ b y, H b = some (.own y) -> b ≠ a := fun b y n z => by rw [z, hH] at n; cases n
 have ntb : ∀ b ps, H b = some (.tbl ps) -> b ≠ a := fun b y n z => by rw [z, hH] at n; cases n
 refine ⟨I.ok, I.os, I.bare, ⟨I.base.keep, I.base.slot, fun b ob q n hx => ?_, I.base.there, fun b xs q => ?_, fun b ob u q => ?_, fun b ps q => ?_⟩, I.loc, I.cell, ?_, fun x c e => ?_, fun p hp => ?_, fun b u e => ?_, I.len⟩
 ·have h := I.base.free b ob q n hx; rw [upd_ne (ne b h)]; exact h
 ·have h := I.base.tups b xs q; rw [upd_ne (nt b xs h)]; exact h
 ·have h := I.base.frzs b ob u q; rw [upd_ne (fun z : b = a => hn ob u (by rw [<- z]; exact q))]; exact h
 ·obtain ⟨m, h⟩ := I.base.tbls b ps q; exact ⟨m, by rw [upd_ne (ntb b _ h)]; exact h⟩
 ·rw [upd_ne (ne _ I.free)]; exact I.free
 ·rw [upd_ne (ne _ (I.freeC x c e))]; exact I.freeC x c e
 ·obtain ⟨p1, p2, p3⟩ := I.pin p hp; exact ⟨p1, by rw [upd_ne (ne _ p2)]; exact p2, p3⟩
 ·by_cases hb : b = a
  ·subst hb
   rw [upd_same] at e; cases e
   obtain ⟨_, q⟩ := (show ObjOk X.prog X.w H s.heap b (.frz o (.dK kvs)) from I.hok b _ hH)
   exact ObjOk.stay q (fun _ _ _ q => q) (fun c q => by rw [upd_ne (nw c _ q)]; exact q) fun c xs q => by rw [upd_ne (nt c xs q)]; exact q
  ·rw [upd_ne hb] at e
   exact (I.hok b u e).stay (fun _ _ _ q => q) (fun c q => by rw [upd_ne (nw c _ q)]; exact q) fun c xs q => by rw [upd_ne (nt c xs q)]; exact q
end
end L2
namespace L2
open PySem PySem.Spec PyProof.Rows
section
variable {prog : Program} {w : World} {A : Around} {E : Value -> Shared -> Prop} {h : Heap} {g : Array GenState} {d : Drawn} {t : Nat} {os : OsState} {a : Addr} {o : Obj}
 {nm q : Str} {C N : Addr} {bs bm bmB : List Value} {hdct : Bool} {sn : List Str} {sub : List Value} {ab : Bool} {col : Option Bool} {dd : Option Addr} {k0 k1 k2 k3 k5 : Option Value} {B newId initId : String} {K : Fg_}
end
end L2
namespace L2
open PySem PySem.Spec PyProof.Rows
structure XClsI (K : Fg_) (C fI : Addr) : Prop where
 ex : ∃ (nm qn : Str) (N : Addr) (bs bm : List Value) (sn : List Str) (sub : List Value) (ab : Bool) (col : Option Bool) (dd : Option Addr) (k0 k1 k2 k3 k5 : Option Value), K.lookup C = some (excClassObj nm qn C N bs bm true sn sub ab col dd k0 k1 k2 k3 k5 "ValueError.__new__") /\ PySem.W.tailIn K [.type "ValueError", .type "Exception", .type "BaseException", .type "object"] bm = true
 ini : PySem.W.findIn K (.ref C) "__init__" = some (some (.ref fI))
 fn : PySem.W.isFn K (.ref fI) = true
 sa : PySem.W.findIn K (.ref C) "__setattr__" = some (some (.builtin "object.__setattr__"))
 kp : PySem.W.keepIn K (.ref C) = true
section
variable {X : Cx} {CX : CXT} {k : Nat} {f C : Addr} {fd : FuncData} {ps ks : List Str} {sp : Sp} {dvs : List V} {ds : List Value} {E : XK} {x m fn : Str} {p np cpos pos apos : Pos} {e o : Expr} {es : List Expr} {ta tv : TE} {t tk : TA}
structure XIni (K : Fg_) (B : Addr) : Prop where
 ga : PySem.W.specialIn K (.ref B) "__getattribute__" = some (some (.builtin "type.__getattribute__"))
 rd : PySem.W.readsIn K B (.type "type") = true
 fi : PySem.W.findCls K (.ref B) (.type "type") "__init__" = some (.val (.builtin "ValueError.__init__"))
end
end L2
namespace L2
open PySem PySem.W PySem.Spec PySem.Calls PyProof.Rows
def LamR (H : Hp) (Pt : Addr) (ln cl : Nat) (q : Str) : Prop := H Pt = some (.tbl #[]) \/ ∃ c, H Pt = some (.tbl #[rawInt ln, rawInt cl, .ref c]) /\ H c = some (RecO c q)
theorem LamR.same {H H' : Hp} {Pt : Addr} {ln cl : Nat} {q : Str} (h : LamR H Pt ln cl q) (s : Same H H') : LamR H' Pt ln cl q :=
 h.elim (fun h => .inl (s _ _ h)) fun ⟨c, h1, h2⟩ => .inr ⟨c, s _ _ h1, s _ _ h2⟩
theorem LamR.at {H : Hp} {Pt : Addr} {ln cl : Nat} {q : Str} (h : LamR H Pt ln cl q) : ∃ ps, H Pt = some (.tbl ps) := h.elim (fun h => ⟨_, h⟩) fun ⟨_, h, _⟩ => ⟨_, h⟩
section
variable {X : Cx}
def tLam2 (Pt : Addr) (q : Str) (params : Arguments) (body : Expr) (scope : Scope) (pos : Pos) : TE := fun _ H Q => LamR H Pt pos.line pos.col q /\ ∀ f c pm ctv H', SameX Pt H H' -> H f = none -> (H' f = some (LamO f (kla_obj "<lambda>" q params body scope [] pm c ctv))) -> H' c = some (RecO c q) ->
 H' Pt = some (.tbl #[rawInt pos.line, rawInt pos.col, .ref c]) -> Q (.ref f) H'
theorem pe_lam2 {Pt c0 : Addr} {q : Str} {params : Arguments} {body : Expr} {scope : Scope} {pos : Pos} (hcode : X.env.code = .ref c0) (hC : codeHdIn X.K c0 Pt = true) (hB : X.base.BuiltinsAt X.mg Pt)
  (hcl : closureFor scope X.env = pure []) (hdef : defaultsOf params X.env = ([], [])) (hq : X.env.qual ++ "<lambda>" = q) : PE X (.Lambda params body scope pos) (tLam2 Pt q params body scope pos) := by
 intro pins s σ H Q I h
 obtain ⟨hP, k⟩ := h
 rcases hP with hP | ⟨c, hP, hc⟩
 ·refine pe_lam hcode hC hB hcl hdef hq pins s σ H Q I ⟨hP, fun f c pm ctv hf hc hne => k f c pm ctv _ (lamH_old hc hf) hf lamH_f (lamH_c hne) ?_⟩
  have nf : Pt ≠ f := ne_of_none hP hf
  have nc : Pt ≠ c := ne_of_none hP hc
  exact (upd_ne nf).trans ((upd_ne nc).trans upd_same)
 ·subst hq
  have hPt : s.heap.get? Pt = some (tabObj #[rawInt pos.line, rawInt pos.col, .ref c]) := I.hok Pt _ hP
  have hgs : s.heap.Ns mainGlobals X.mg := I.ok.mod.glob.keeps I.bk
  obtain ⟨bm, ob, b1, b2, b3, b4, b5, b6⟩ := hB
  refine kla_eval hdef (kla_makeFunctionHit (mg := X.mg) (cv := .ref c) hcl I.ok.glob hgs hcode (codeHd_of_K I.kIn hC) hPt ?_ ?_ ⟨bm, ob, b1, b2, b3, b4, I.bk _ _ b5, b6⟩ fun ctv h' tk hk hsz => ?_)
  ·exact True.intro
  ·simp [codeAmong, rawInt]
  ·have hf := I.hok.fresh hsz
   refine ⟨.ref h'.objs.size, _, I.laid (t' := tk) (o := LamO h'.objs.size (kla_obj "<lambda>" (X.env.qual ++ "<lambda>") params body scope [] ((X.mg "__name__").getD .none) c ctv)) (fun b u e => Heap.get?_push_of_some _ (hk b u e)) hsz ?_, rfl, ?_⟩
   ·have hfo : (h'.push (kla_obj "<lambda>" (X.env.qual ++ "<lambda>") params body scope [] ((X.mg "__name__").getD .none) c ctv)).get? h'.objs.size = some (kla_obj "<lambda>" (X.env.qual ++ "<lambda>") params body scope [] ((X.mg "__name__").getD .none) c ctv) := Heap.get?_push_size _ rfl
    exact ⟨hfo, ⟨_, hfo⟩, fun h1 h2 a k => k _ a⟩
   ·have s2 := Same.new (o := LamO h'.objs.size (kla_obj "<lambda>" (X.env.qual ++ "<lambda>") params body scope [] ((X.mg "__name__").getD .none) c ctv)) hf
    exact k _ c _ ctv _ (.of s2) hf upd_same (s2 _ _ hc) (s2 _ _ hP)
def tSortM (K : Fg_) (Pt : Addr) (q x : Str) (ln cl : Nat) (tb : TE) (t : TA) : TE := fun σ H Q => t σ H fun vs H1 => ∃ (a : Addr) (ys : List V) (kf : V -> List Int), vs = [.ref a] /\ SqL K H1 a ys /\ ys.length < 64 /\ LamR H1 Pt ln cl q /\
 (∀ y ∈ ys, kf y ≠ [] /\ ∀ H2, SameX Pt H1 H2 -> ∀ R : VK, (∀ t H3, Same H2 H3 -> H3 t = some (.tup ((kf y).map V.int)) -> R (.ref t) H3) -> tb (start [x] [y]) H2 R) /\
 ∀ p zs H', SameX Pt H1 H' -> LamR H' Pt ln cl q -> H1 p = none -> H' p = some (.lst zs) -> zs.Perm ys -> (∀ m, (∀ y ∈ ys, (kf y).length = m) -> (ys.map kf).Nodup -> zs.Pairwise fun y z => lexB (kf y) (kf z) false = true) -> Q (.ref p) H'
theorem pe_sortLam2 {k : Nat} {Pt c0 : Addr} {e : Expr} {t : TA} {tb : TE} {x q : Str} {params : Arguments} {body : Expr} {scope : Scope} {p lpos kpos pos : Pos} (hr : Room (k + 3) X.A)
  (hcode : X.env.code = .ref c0) (hC : codeHdIn X.K c0 Pt = true) (hB : X.base.BuiltinsAt X.mg Pt) (hgs : Gl X "sorted") (hms : X.mg "sorted" = none) (hvs : bootBuiltins "sorted" = some (.builtin "sorted")) (ha : PA X [e] t)
  (S : FnScope [x] [x] scope) (hq : X.env.qual ++ "<lambda>" = q)
  (hbody : ∀ (f c : Addr) (A : Around) (outer : List Env) (s : Shared) (H : Hp) (E : XK), Room k (A.deeper (envOfC q scope s.heap.objs.size f (.ref c))) -> PE (cxOf CX0 X.prog X.w X.K X.mg X.base [x] q scope f (.ref c) A outer s H E).nox body tb)
  (hcl : closureFor scope X.env = pure [] := by rfl) (hdef : defaultsOf params X.env = ([], []) := by rfl)
  (hb : ∀ (pm : Value) (c : Addr) (ctv u : Value), bindArgs (kla_fn "<lambda>" q params body scope [] pm (.ref c) ctv) ⟨[u], []⟩ = pure [(x, u)] := by intros; rfl)
  (he : backTo pos (starEach [e] X.env) = (false, eval e X.env) :: backTo pos (starEach [] X.env) := by rfl) (hpl : (backTo pos (starEach [e] X.env)).any (·.1) = false := by rfl) :
  PE X (.Call (.Name "sorted" p) [e] [⟨some "key", .Lambda params body scope lpos, kpos⟩] pos) (tSortM X.K Pt q x lpos.line lpos.col tb t) := by
 intro pins s σ H Q I h
 refine wpAny_Call_Name_kw (ld_blt I hgs hms hvs ?_)
 refine callWith_kw (thn (ha pos pins s σ H _ I h) fun us s1 ⟨vs, H1, I1, r, a, ys, kf, ex, hS, hlen, hL, hK, kq⟩ => ?_) he hpl
 subst ex
 obtain ⟨u, rfl, rx⟩ := vals1 r
 have hk : PK X [⟨some "key", .Lambda params body scope lpos, kpos⟩] (tCons (tLam2 Pt _ params body scope lpos) tNil) := pk_cons (pe_lam2 hcode hC hB hcl hdef hq) pk_nil
 refine thn (hk pos pins s1 σ H1 (fun zs H2 => ∃ f c pm ctv, zs = [.ref f] /\ SameX Pt H1 H2 /\ H2 f = some (LamO f (kla_obj "<lambda>" q params body scope [] pm c ctv)) /\ H2 c = some (RecO c q) /\ H2 Pt = some (.tbl #[rawInt lpos.line, rawInt lpos.col, .ref c])) I1
  ⟨hL, fun f c pm ctv H2 sx _ h2 h3 h4 => ⟨f, c, pm, ctv, rfl, sx, h2, h3, h4⟩⟩) fun ws s2 ⟨zs, H2, I2, rz, f, c, pm, ctv, e1, sx, ef, ec, eP⟩ => ?_
 subst e1
 obtain ⟨w1, rfl, rw1⟩ := vals1 rz
 cases rw1
 obtain ⟨ps0, hP⟩ := hL.at
 have F := lam_ok (P := X.prog) (w := X.w) (K := X.K) (mg := X.mg) (base := X.base) (params := params) (pm := pm) (ctv := ctv) (f := f) (c := c) S (hbody f c)
 have hS2 : SqL X.K H2 a ys := by
  rcases hS with (y | ⟨o, y⟩) | y
  ·exact .inl (.inl (sx _ _ (fun z => by rw [z, hP] at y; cases y) y))
  ·exact .inl (.inr ⟨o, sx _ _ (fun z => by rw [z, hP] at y; cases y) y⟩)
  ·exact .inr y
 refine sorted_key (k := k + 1) F hr (.all fun us hl => ?_) I2 rx ⟨a, ys, kf, rfl, hS2, hlen, fun y hy => ⟨(hK y hy).1, fun H3 s3 R hR => ⟨y, rfl, s3 _ _ ef, s3 _ _ ec, (hK y hy).2 H3 (sx.trans (.of s3)) R hR⟩⟩, fun p zs H' s' hp hz => kq p zs H' (sx.trans (.of s')) (.inr ⟨c, s' _ _ eP, s' _ _ ec⟩) ?_ hz⟩
 ·match us, hl with
  | [u], _ => exact hb pm c ctv u
 ·cases z : H1 p with
  | none => rfl
  | some o =>
   by_cases zp : p = Pt
   ·rw [zp, eP] at hp
    cases hp
   ·rw [sx p o zp z] at hp
    cases hp
theorem pe_sortLam2K {K : Fg_} {Pt : Addr} {q x : Str} {ln cl : Nat} {tb : TE} {t : TA} {e : Expr} (hK : X.K = K) (h : PE X e (tSortM X.K Pt q x ln cl tb t)) : PE X e (tSortM K Pt q x ln cl tb t) := hK ▸ h
theorem ap_tSortM {K : Fg_} {Pt : Addr} {q x : Str} {ln cl : Nat} {tb : TE} {t : TA} {σ : St} {H : Hp} {Q : VK} : tSortM K Pt q x ln cl tb t σ H Q = t σ H fun vs H1 => ∃ (a : Addr) (ys : List V) (kf : V -> List Int), vs = [.ref a] /\ SqL K H1 a ys /\ ys.length < 64 /\ LamR H1 Pt ln cl q /\
 (∀ y ∈ ys, kf y ≠ [] /\ ∀ H2, SameX Pt H1 H2 -> ∀ R : VK, (∀ t H3, Same H2 H3 -> H3 t = some (.tup ((kf y).map V.int)) -> R (.ref t) H3) -> tb (start [x] [y]) H2 R) /\
 ∀ p zs H', SameX Pt H1 H' -> LamR H' Pt ln cl q -> H1 p = none -> H' p = some (.lst zs) -> zs.Perm ys -> (∀ m, (∀ y ∈ ys, (kf y).length = m) -> (ys.map kf).Nodup -> zs.Pairwise fun y z => lexB (kf y) (kf z) false = true) -> Q (.ref p) H' := rfl
end
end L2
namespace HT
open PySem PyProof.Rows
def lexLe : List Int -> List Int -> Bool
 | [], _ => true
 | _ :: _, [] => false
 | x :: xs, y :: ys => if x = y then lexLe xs ys else decide (x <= y)
theorem rcLe_int (A : Around) (s : Shared) (a : Int) (t : Tok) (c : Int) (u : Tok) (prog : Program) (w : World) (E : Value -> Shared -> Prop) (Q : Value -> Shared -> Prop) (h : Q (.bool (decide (a <= c))) s) :
  wpAny (model prog w) A (richCompare .LtE (.int a t) (.int c u)) Q E s :=
 (PyProof.Rows.le_int h : wpAny (model prog w) A (compareOp .LtE (.int a t) (.int c u)) Q E s)
section
open PySem.SeqAt
open PySem.AutoSeq1 (wpAny_loadPart')
open PySem.MeetsSeq PySem.MeetsSeq2 PySem.MeetsSeq3
theorem tuple_le_ints (l b : Addr) (xa xb : Array Value) (na nb : Nat) (da db : Option Addr) (sa sb : Array (Option Value)) (ns ms : List Int) (hi : IntsAre xa.toList ns) (hj : IntsAre xb.toList ms) :
  Meets (Builtin.«tuple.__le__» ⟨[.ref l, .ref b], []⟩)
   (fun _ R s => s.heap.get? l = some { cls := .type "tuple", dict := da, data := .seq xa na, slots := sa } /\ s.heap.get? b = some { cls := .type "tuple", dict := db, data := .seq xb nb, slots := sb } /\
    R (.ok (.ret (.bool (lexLe ns ms)))) s) :=
 .of_wp fun prog w A R s h => by
  obtain ⟨hp, g, d, tk, os⟩ := s; obtain ⟨hl, hb, h⟩ := h
  have f2 := AutoSeq1.sub_tuple_tuple
  have z1 : xa.size = ns.length := by rw [<- hi.length]; simp
  have z2 : xb.size = ms.length := by rw [<- hj.length]; simp
  wp_walk using wpAny_loadPart' hl, wpAny_loadPart' hb, wpAny_forIn_list _ (fun rest b s' => b.1 = none /\ s' = ⟨hp, g, d, tk, os⟩ /\ ∃ (vs ws : List Value) (np mp : List Int), rest = vs.zip ws /\
   IntsAre vs np /\ IntsAre ws mp /\ np.length + xb.size = mp.length + xa.size /\ R (.ok (.ret (.bool (lexLe np mp)))) ⟨hp, g, d, tk, os⟩) _
  case turn =>
   rintro ⟨y, x⟩ rest b s' ⟨hb', rfl, vs, ws, np, mp, hz, hvi, hwi, hlen, hR⟩
   cases hvi with
   | nil => rw [List.zip_nil_left] at hz; cases hz
   | cons a t hvi' => cases hwi with
    | nil => rw [List.zip_nil_right] at hz; cases hz
    | cons c u hwi' =>
     rw [List.zip_cons_cons] at hz
     injection hz with hyx hrest
     injection hyx with hy hx
     subst hy hx
     unfold lexLe at hR
     simp only [List.length_cons] at hlen
     obtain ⟨e, he, hiff⟩ := eqAt_int A.in1 ⟨hp, g, d, tk, os⟩ a t c u
     refine wpAny_bind (he prog w _ _ ?_)
     cases e with
     | true =>
      rw [if_pos (hiff.mp rfl)] at hR
      wp_walk
      exact ⟨rfl, rfl, _, _, _, _, hrest, hvi', hwi', by omega, hR⟩
     | false =>
      rw [if_neg (fun q => absurd (hiff.mpr q) Bool.false_ne_true)] at hR
      have hri := rcLe_int A.in1 ⟨hp, g, d, tk, os⟩ a t c u prog w
      wp_walk using hri
      exact ⟨_, rfl, by simpa using hR⟩
  case fin =>
   rintro ⟨b1, b2⟩ s' ⟨hb', rfl, vs, ws, np, mp, hz, hvi, hwi, hlen, hR⟩
   simp only at hb'
   subst hb'
   have hv : lexLe np mp = decide (xa.size <= xb.size) := by
    cases hvi with
    | nil =>
     simp only [List.length_nil] at hlen
     unfold lexLe
     exact (decide_eq_true (by omega)).symm
    | cons a t hv => cases hwi with
     | nil =>
      simp only [List.length_nil, List.length_cons] at hlen
      unfold lexLe
      exact (decide_eq_false (by omega)).symm
     | cons c u hw => rw [List.zip_cons_cons] at hz; cases hz
   rw [hv] at hR
   wp_walk
   exact ⟨_, rfl, by simpa [Builtin.Tuple.tupleCompareSizes] using hR⟩
  case h => exact ⟨rfl, rfl, xa.toList, xb.toList, ns, ms, rfl, hi, hj, by omega, h⟩
end
section
variable {prog : Program} {w : World} {A : Around} {E : Value -> Shared -> Prop} {s : Shared}
theorem le_tupInts {l b : Addr} {xa xb : Array Value} {ns ms : List Int} {Q : Value -> Shared -> Prop} (hl : IsTup s.heap l xa) (hb : IsTup s.heap b xb) (hi : IntsAre xa.toList ns) (hj : IntsAre xb.toList ms) (hu : A.units < cLine)
  (h : Q (.bool (lexLe ns ms)) s) : wpAny (model prog w) A (compareOp .LtE (.ref l) (.ref b)) Q E s := by
 obtain ⟨⟨cls, dd, data, sl⟩, ho, hc, n, hd⟩ := id hl
 obtain ⟨⟨cls2, dd2, data2, sl2⟩, ho2, hc2, n2, hd2⟩ := id hb
 simp only at hc hd hc2 hd2
 subst hc hd hc2 hd2
 exact richCompare_meets_room (op := .LtE) ⟨_, ho, rfl⟩ ⟨_, ho2, rfl⟩ PySem.F.slot_tuple_le PySem.F.entry_tuple_le (PySem.F.args_tuple_le_2 _ _) (tuple_le_ints l b xa xb n n2 dd dd2 sl sl2 ns ms hi hj)
  ⟨ho, ho2, show Value.bool (lexLe ns ms) ≠ Value.notImplemented /\ Q (.bool (lexLe ns ms)) s from ⟨(fun x => nomatch x), h⟩⟩ hu
end
end HT
namespace L2
open PySem PySem.W PySem.Spec PySem.Calls PyProof.Rows
section
variable {X : Cx}
def rLeT (K : Fg_) : R2 := fun x y H Q => ∃ a b ns ms, x = .ref a /\ y = .ref b /\ SqT K H a (ns.map V.int) /\ SqT K H b (ms.map V.int) /\ Q (.bl (HT.lexLe ns ms)) H
theorem op_leTK {K : Fg_} {k : Nat} (hr : Room k X.A) (hK : X.K = K := by rfl) : OpR X (compareOp .LtE) (rLeT K) := by
 subst hK
 intro pins s σ H x y v u Q I rx ry h
 obtain ⟨a, b, ns, ms, rfl, rfl, ha, hb, q⟩ := h
 cases rx
 cases ry
 obtain ⟨its, r1, p1, _⟩ := I.tuple ha
 obtain ⟨its2, r2, p2, _⟩ := I.tuple hb
 exact HT.le_tupInts p1 p2 (show IntsAre its.toArray.toList ns from intsAre_of r1) (show IntsAre its2.toArray.toList ms from intsAre_of r2) hr.units0 ⟨.bl (HT.lexLe ns ms), H, I, rfl, q⟩
def tThawV (H0 : Hp) (t : TE) : TE := fun σ H Q => t σ H fun v H1 => ∃ a o kvs, H1 a = some (.frz o (.dK kvs)) /\ (∀ o u, H0 a ≠ some (.frz o u)) /\ Q v (upd H1 a (.dK kvs))
theorem pe_thaw {e : Expr} {t : TE} (h : PE X e t) : PE X e (tThawV X.H₀ t) := by
 intro pins s σ H Q I q
 exact thn (h pins s σ H _ I q) fun v s1 ⟨x, H1, I1, r1, a, o, kvs, h1, h2, h3⟩ => ⟨x, _, I1.thaw h1 h2, r1, h3⟩
theorem ap_thawV {H0 : Hp} {t : TE} {σ : St} {H : Hp} {Q : VK} : tThawV H0 t σ H Q = t σ H fun v H1 => ∃ a o kvs, H1 a = some (.frz o (.dK kvs)) /\ (∀ o u, H0 a ≠ some (.frz o u)) /\ Q v (upd H1 a (.dK kvs)) := rfl
def rIndexS : V -> List V -> Hp -> VK -> Prop := fun x vs H Q => ∃ (z y : Str) (i : Nat) (r : List Nat), x = .str z /\ vs = [.str y] /\ Builtin.Str.occurrences z y 0 z.length 1 = i :: r /\ Q (.int i) H
theorem mt_indexS : MtM X "str.index" rIndexS := by
 intro pins s σ H x vs v us Q I rx rv h
 obtain ⟨z, y, i, r, rfl, rfl, ho, q⟩ := h
 obtain ⟨t, rfl⟩ := rx
 obtain ⟨u, rfl, ru⟩ := rv.one
 obtain ⟨t', rfl⟩ := ru
 exact SC.index ho ⟨.int i, H, I.tok _, ⟨_, rfl⟩, q⟩
def rSlX : V -> Option Int -> Option Int -> Hp -> VK -> Prop := fun x lo hi H Q => ∃ z : Str, x = .str z /\ z.length <= sizeLine /\ Q (.str (Txt.slice z lo hi)) H
theorem sl_strX : SlR X rSlX := by
 intro pins s σ H x v vl vu lo hi sl Q I rx hs pl pu h
 obtain ⟨z, rfl, hz, q⟩ := h
 obtain ⟨t, rfl⟩ := rx
 have part : ∀ {v : Value} {o : Option Int}, IsPart v o -> ∃ l, v = partValue l /\ l.map (·.1) = o := fun {v o} h => by
  cases h with
  | none => exact ⟨none, rfl, rfl⟩
  | int i t => exact ⟨some (i, t), rfl, rfl⟩
 obtain ⟨l, rfl, rfl⟩ := part pl
 obtain ⟨u, rfl, rfl⟩ := part pu
 refine ⟨"str", _, slot_str_getitem.lookup, typeIs_str s z t, ?_⟩
 refine wpAny_getItem_str_slice (st := none) hs rfl ?_
 have hl := Txt.slice_le z (l.map (·.1)) (u.map (·.1))
 unfold Txt.slice at hl q
 unfold sliceMade
 split
 ·rename_i hne
  rw [if_pos (by exact hne)] at q
  exact ⟨.str z, H, I, ⟨_, rfl⟩, q⟩
 ·rename_i hne
  rw [if_neg (by exact hne)] at hl q
  exact ⟨Nat.le_trans hl hz, .str _, H, I.tok _, ⟨_, rfl⟩, q⟩
end
end L2
local macro_rules | `(tactic| walk_at "capok") => `(tactic| first | exact L2.CapOk.nil | (refine L2.CapOk.own ?_; walk_at "capok") | (refine L2.CapOk.take (by with_unfolding_all rfl) (by first | exact Or.inl (by with_unfolding_all rfl) | exact Or.inr (by with_unfolding_all rfl)) (by first | exact Or.inl (by with_unfolding_all rfl) | exact Or.inr (by with_unfolding_all rfl)) (by with_unfolding_all rfl) ?_; walk_at "capok"))
local macro_rules | `(tactic| walk_at "compok") => `(tactic| (refine ⟨?c1, ?c3, ?c0, ?c4, ?c5, ?c6, ?c7⟩; (case c1 => with_unfolding_all rfl); (case c3 => walk_at "capok"); (case c0 => rfl); (case c4 => decide +kernel); (case c5 => decide +kernel); (case c6 => with_unfolding_all rfl); (case c7 => (intro _; rfl))))
local macro_rules | `(tactic| walk_at "rd") => `(tactic| simp only [L2.ap_iStr, L2.ap_fldK, L2.ap_sFld, L2.ap_methD, L2.ap_make, L2.ap_dget2, L2.ap_dput, L2.ap_dnewK, L2.ap_dictOf, L2.ap_leS, L2.ap_rIsC, L2.ap_ixT, L2.ap_ixS, L2.ap_rIn, L2.ap_lenS, L2.ap_rSortT, L2.ap_new0, L2.ap_dictPairs, L2.ap_iVals, L2.ap_rVals, L2.ap_tSortK, L2.ap_rSortK, L2.ap_eqR, L2.ap_neR, L2.ap_iItems, L2.ap_rItems, L2.ap_eqM, L2.ap_tSortM, L2.ap_thawV, L2.ap_iZip, L2.ap_seq, L2.ap_next, L2.ap_asg, L2.ap_name, L2.ap_var, L2.ap_c, L2.ap_op, L2.ap_un, L2.ap_rI, L2.ap_rI0, L2.ap_rU, L2.ap_rEq, L2.ap_rNe, L2.ap_ret, L2.ap_drop, L2.ap_test, L2.ap_tB, L2.ap_and, L2.ap_or, L2.ap_not, L2.ap_andV, L2.ap_notV, L2.ap_ifE, L2.ap_call, L2.ap_nil, L2.ap_cons, L2.ap_cb, L2.ap_lst, L2.ap_tup, L2.ap_chain, L2.ap_sl, L2.ap_noPart, L2.ap_part, L2.ap_gNil, L2.ap_gCons, L2.ap_gTup, L2.ap_bm, L2.ap_bm0, L2.ap_ixL, L2.ap_slL, L2.ap_rLen, L2.ap_rSum, L2.ap_rAny, L2.ap_rAll, L2.ap_rListOf, L2.ap_rIsT, L2.ap_append, L2.ap_rCat, L2.ap_for, L2.ap_iList, L2.ap_iTup, L2.ap_iRng1, L2.ap_comp, L2.ap_noIf, L2.ap_rMax, L2.ap_rMin, L2.scal_int, L2.scal_str, L2.scal_bl, L2.start_eq, List.map_cons, List.map_nil, List.length_cons, List.length_nil, List.cons_append, List.nil_append, List.append_nil, List.replicate_succ, List.replicate_zero, Nat.reduceAdd, Nat.reduceSub, Nat.sub_self, List.set_cons_zero, List.set_cons_succ, List.getElem?_cons_zero, List.getElem?_cons_succ, Option.some.injEq, L2.V.int.injEq, L2.V.bl.injEq, L2.V.str.injEq, L2.V.ref.injEq, L2.V.ty.injEq, List.cons.injEq, exists_eq_left', exists_eq_left, exists_and_left, exists_eq', exists_eq, true_and, and_true, and_assoc, exists_const, Bool.not_true, Bool.not_false, if_true, if_false, Bool.false_eq_true, decide_true, decide_false, reduceCtorEq, Bool.not_eq_true', decide_eq_true_eq, decide_eq_false_iff_not])
local macro_rules | `(tactic| walk_at "rdi") => `(tactic| simp only [L2.ap_iStr, L2.ap_fldK, L2.ap_sFld, L2.ap_methD, L2.ap_make, L2.ap_dget2, L2.ap_dput, L2.ap_dnewK, L2.ap_dictOf, L2.ap_leS, L2.ap_rIsC, L2.ap_ixT, L2.ap_ixS, L2.ap_rIn, L2.ap_lenS, L2.ap_rSortT, L2.ap_new0, L2.ap_dictPairs, L2.ap_iVals, L2.ap_rVals, L2.ap_tSortK, L2.ap_rSortK, L2.ap_eqR, L2.ap_neR, L2.ap_iItems, L2.ap_rItems, L2.ap_eqM, L2.ap_tSortM, L2.ap_thawV, L2.ap_iZip, L2.ap_next, L2.ap_asg, L2.ap_name, L2.ap_var, L2.ap_c, L2.ap_op, L2.ap_un, L2.ap_rI, L2.ap_rI0, L2.ap_rU, L2.ap_rEq, L2.ap_rNe, L2.ap_ret, L2.ap_drop, L2.ap_if, L2.ap_test, L2.ap_tB, L2.ap_and, L2.ap_or, L2.ap_not, L2.ap_andV, L2.ap_notV, L2.ap_ifE, L2.ap_call, L2.ap_nil, L2.ap_cons, L2.ap_cb, L2.ap_lst, L2.ap_tup, L2.ap_chain, L2.ap_sl, L2.ap_noPart, L2.ap_part, L2.ap_gNil, L2.ap_gCons, L2.ap_gTup, L2.ap_bm, L2.ap_bm0, L2.ap_ixL, L2.ap_slL, L2.ap_rLen, L2.ap_rSum, L2.ap_rAny, L2.ap_rAll, L2.ap_rListOf, L2.ap_rIsT, L2.ap_append, L2.ap_rCat, L2.ap_comp, L2.ap_iList, L2.ap_iTup, L2.ap_iRng1, L2.ap_noIf, L2.ap_rMax, L2.ap_rMin, L2.scal_int, L2.scal_str, L2.scal_bl, L2.start_eq, List.map_cons, List.map_nil, List.length_cons, List.length_nil, List.cons_append, List.nil_append, List.append_nil, List.replicate_succ, List.replicate_zero, Nat.reduceAdd, Nat.reduceSub, Nat.sub_self, List.set_cons_zero, List.set_cons_succ, List.getElem?_cons_zero, List.getElem?_cons_succ, Option.some.injEq, L2.V.int.injEq, L2.V.bl.injEq, L2.V.str.injEq, L2.V.ref.injEq, L2.V.ty.injEq, List.cons.injEq, exists_eq_left', exists_eq_left, exists_and_left, exists_eq', exists_eq, true_and, and_true, and_assoc, exists_const, Bool.not_true, Bool.not_false, if_true, if_false, Bool.false_eq_true, decide_true, decide_false, reduceCtorEq, Bool.not_eq_true', decide_eq_true_eq, decide_eq_false_iff_not])
local macro_rules | `(tactic| walk_at "rda") => `(tactic| simp only [L2.ap_iStr, L2.ap_fldK, L2.ap_sFld, L2.ap_methD, L2.ap_make, L2.ap_dget2, L2.ap_dput, L2.ap_dnewK, L2.ap_dictOf, L2.ap_leS, L2.ap_rIsC, L2.ap_ixT, L2.ap_ixS, L2.ap_rIn, L2.ap_lenS, L2.ap_rSortT, L2.ap_new0, L2.ap_dictPairs, L2.ap_iVals, L2.ap_rVals, L2.ap_tSortK, L2.ap_rSortK, L2.ap_eqR, L2.ap_neR, L2.ap_iItems, L2.ap_rItems, L2.ap_eqM, L2.ap_tSortM, L2.ap_thawV, L2.ap_iZip, L2.ap_seq, L2.ap_next, L2.ap_asg, L2.ap_name, L2.ap_var, L2.ap_c, L2.ap_op, L2.ap_un, L2.ap_rI, L2.ap_rI0, L2.ap_rU, L2.ap_rEq, L2.ap_rNe, L2.ap_ret, L2.ap_drop, L2.ap_if, L2.ap_test, L2.ap_tB, L2.ap_and, L2.ap_or, L2.ap_not, L2.ap_andV, L2.ap_notV, L2.ap_ifE, L2.ap_call, L2.ap_nil, L2.ap_cons, L2.ap_cb, L2.ap_lst, L2.ap_tup, L2.ap_chain, L2.ap_sl, L2.ap_noPart, L2.ap_part, L2.ap_gNil, L2.ap_gCons, L2.ap_gTup, L2.ap_bm, L2.ap_bm0, L2.ap_ixL, L2.ap_slL, L2.ap_rLen, L2.ap_rSum, L2.ap_rAny, L2.ap_rAll, L2.ap_rListOf, L2.ap_rIsT, L2.ap_append, L2.ap_rCat, L2.ap_for, L2.ap_iList, L2.ap_iTup, L2.ap_iRng1, L2.ap_comp, L2.ap_noIf, L2.ap_rMax, L2.ap_rMin, L2.scal_int, L2.scal_str, L2.scal_bl, L2.start_eq, List.map_cons, List.map_nil, List.length_cons, List.length_nil, List.cons_append, List.nil_append, List.append_nil, List.replicate_succ, List.replicate_zero, Nat.reduceAdd, Nat.reduceSub, Nat.sub_self, List.set_cons_zero, List.set_cons_succ, List.getElem?_cons_zero, List.getElem?_cons_succ, Option.some.injEq, L2.V.int.injEq, L2.V.bl.injEq, L2.V.str.injEq, L2.V.ref.injEq, L2.V.ty.injEq, List.cons.injEq, exists_eq_left', exists_eq_left, exists_and_left, exists_eq', exists_eq, true_and, and_true, and_assoc, exists_const, Bool.not_true, Bool.not_false, if_true, if_false, Bool.false_eq_true, decide_true, decide_false, reduceCtorEq, Bool.not_eq_true', decide_eq_true_eq, decide_eq_false_iff_not])
namespace My
open PySem L2 PyProof.Rows
def top (i : Nat) : Stmt := PySem.Challenge.pw_lotledger_k50_bought_and_brought.main.body.getD i (.Pass ⟨0, 0, 0, 0⟩)
abbrev s__law_cell_at : Stmt := top 72
abbrev s__law_mixed : Stmt := top 73
abbrev s__law_chunks : Stmt := top 74
abbrev s__law_wares : Stmt := top 77
abbrev s_Book___init__ : Stmt := inClass (top 67) 0
abbrev s__law_small : Stmt := top 75
abbrev s__law_days : Stmt := top 78
abbrev s_cost_of_parts : Stmt := top 70
abbrev s_cost_in : Stmt := top 50
abbrev s_Sale_gain : Stmt := inClass (top 66) 1
abbrev s_Book_sums : Stmt := inClass (top 67) 17
abbrev s_Sale___init__ : Stmt := inClass (top 66) 0
abbrev s_copy_of_sale : Stmt := top 69
abbrev s_Book_sales : Stmt := inClass (top 67) 15
abbrev s_Lot_told : Stmt := inClass (top 45) 1
abbrev s_Book_given : Stmt := inClass (top 67) 16
abbrev s__law_sums_good : Stmt := top 83
abbrev s_Eldest_word : Stmt := inClass (top 57) 0
abbrev s_Newest_word : Stmt := inClass (top 58) 0
abbrev s_Dearest_word : Stmt := inClass (top 59) 0
abbrev s_Mean_word : Stmt := inClass (top 60) 0
abbrev s_way_by : Stmt := top 61
abbrev s_is_whole_number : Stmt := top 27
abbrev s_check_number : Stmt := top 28
abbrev s_is_name : Stmt := top 30
abbrev s_check_name : Stmt := top 29
abbrev s_Entry___init__ : Stmt := inClass (top 20) 0
abbrev s_Gift___init__ : Stmt := inClass (top 23) 0
abbrev s_check_trade : Stmt := top 31
abbrev s_Buy___init__ : Stmt := inClass (top 21) 0
abbrev s__law_entry : Stmt := top 82
abbrev s_Book_row_of : Stmt := inClass (top 67) 14
abbrev s_pieces_in : Stmt := top 49
abbrev s_Book_held : Stmt := inClass (top 67) 13
abbrev s__law_pieces : Stmt := top 76
abbrev s__law_whole : Stmt := top 79
abbrev s__law_is_row : Stmt := top 80
abbrev s__law_rows_good : Stmt := top 81
abbrev s_Book_keep_row : Stmt := inClass (top 67) 12
abbrev s_place_in_row : Stmt := top 47
abbrev s_Lot___init__ : Stmt := inClass (top 45) 0
abbrev s_Lot_with_more : Stmt := inClass (top 45) 3
abbrev s_row_with : Stmt := top 46
abbrev s_Book_put : Stmt := inClass (top 67) 10
abbrev s_Book_lay_on : Stmt := inClass (top 67) 4
abbrev s_Book_do_buy : Stmt := inClass (top 67) 3
abbrev s_Book_do_gift : Stmt := inClass (top 67) 5
abbrev s_Book_do_by_kind : Stmt := inClass (top 67) 2
abbrev s_place_of : Stmt := top 39
abbrev s_held_with : Stmt := top 35
abbrev s_held_with_more : Stmt := top 36
abbrev s_Buy_held_behind : Stmt := inClass (top 21) 3
abbrev s_Gift_held_behind : Stmt := inClass (top 23) 3
abbrev s_Book_do : Stmt := inClass (top 67) 1
abbrev s_Buy_word : Stmt := inClass (top 21) 1
abbrev s_Gift_word : Stmt := inClass (top 23) 1
abbrev s_law : Stmt := top 84
structure Adr where
 _law_cell_at : Addr
 _law_mixed : Addr
 _law_chunks : Addr
 _law_wares : Addr
 Book___init__ : Addr
 _law_small : Addr
 _law_days : Addr
 cost_of_parts : Addr
 cost_in : Addr
 Sale_gain : Addr
 Book_sums : Addr
 Sale___init__ : Addr
 copy_of_sale : Addr
 Book_sales : Addr
 Lot_told : Addr
 Book_given : Addr
 _law_sums_good : Addr
 Eldest_word : Addr
 Newest_word : Addr
 Dearest_word : Addr
 Mean_word : Addr
 way_by : Addr
 is_whole_number : Addr
 check_number : Addr
 is_name : Addr
 check_name : Addr
 Entry___init__ : Addr
 Gift___init__ : Addr
 check_trade : Addr
 Buy___init__ : Addr
 _law_entry : Addr
 Book_row_of : Addr
 pieces_in : Addr
 Book_held : Addr
 _law_pieces : Addr
 _law_whole : Addr
 _law_is_row : Addr
 _law_rows_good : Addr
 Book_keep_row : Addr
 place_in_row : Addr
 Lot___init__ : Addr
 Lot_with_more : Addr
 row_with : Addr
 Book_put : Addr
 Book_lay_on : Addr
 Book_do_buy : Addr
 Book_do_gift : Addr
 Book_do_by_kind : Addr
 place_of : Addr
 held_with : Addr
 held_with_more : Addr
 Buy_held_behind : Addr
 Gift_held_behind : Addr
 Book_do : Addr
 Buy_word : Addr
 Gift_word : Addr
 law : Addr
 C_Book : Addr
 C_Sale : Addr
 C_Lot : Addr
 C_Eldest : Addr
 C_Newest : Addr
 C_Dearest : Addr
 C_Mean : Addr
 C_Entry : Addr
 C_Gift : Addr
 C_Buy : Addr
 C_Way : Addr
 t_MOST_LETTERS : Tok
 t_MOST_DAY : Tok
 t_MOST_NUMBER : Tok
 t_MOST_PIECES : Tok
 t_MOST_GIFT_COST : Tok
 t_MOST_PRICE : Tok
 t_MOST_FEE : Tok
 cT : Addr
 PT : Addr
structure Fds where
 _law_cell_at : FuncData
 _law_mixed : FuncData
 _law_chunks : FuncData
 _law_wares : FuncData
 Book___init__ : FuncData
 _law_small : FuncData
 _law_days : FuncData
 cost_of_parts : FuncData
 cost_in : FuncData
 Sale_gain : FuncData
 Book_sums : FuncData
 Sale___init__ : FuncData
 copy_of_sale : FuncData
 Book_sales : FuncData
 Lot_told : FuncData
 Book_given : FuncData
 _law_sums_good : FuncData
 Eldest_word : FuncData
 Newest_word : FuncData
 Dearest_word : FuncData
 Mean_word : FuncData
 way_by : FuncData
 is_whole_number : FuncData
 check_number : FuncData
 is_name : FuncData
 check_name : FuncData
 Entry___init__ : FuncData
 Gift___init__ : FuncData
 check_trade : FuncData
 Buy___init__ : FuncData
 _law_entry : FuncData
 Book_row_of : FuncData
 pieces_in : FuncData
 Book_held : FuncData
 _law_pieces : FuncData
 _law_whole : FuncData
 _law_is_row : FuncData
 _law_rows_good : FuncData
 Book_keep_row : FuncData
 place_in_row : FuncData
 Lot___init__ : FuncData
 Lot_with_more : FuncData
 row_with : FuncData
 Book_put : FuncData
 Book_lay_on : FuncData
 Book_do_buy : FuncData
 Book_do_gift : FuncData
 Book_do_by_kind : FuncData
 place_of : FuncData
 held_with : FuncData
 held_with_more : FuncData
 Buy_held_behind : FuncData
 Gift_held_behind : FuncData
 Book_do : FuncData
 Buy_word : FuncData
 Gift_word : FuncData
 law : FuncData
structure Txt (K : Fg_) (mg : Str -> Option Value) (A : Adr) (D : Fds) : Prop where
 m__law_cell_at : mg "_law_cell_at" = some (.ref A._law_cell_at)
 k__law_cell_at : PySem.W.keepIn K (.ref A._law_cell_at) = true
 F__law_cell_at : Fun K "_law_cell_at" "_law_cell_at" s__law_cell_at A._law_cell_at D._law_cell_at
 m__law_mixed : mg "_law_mixed" = some (.ref A._law_mixed)
 k__law_mixed : PySem.W.keepIn K (.ref A._law_mixed) = true
 F__law_mixed : Fun K "_law_mixed" "_law_mixed" s__law_mixed A._law_mixed D._law_mixed
 m__law_chunks : mg "_law_chunks" = some (.ref A._law_chunks)
 k__law_chunks : PySem.W.keepIn K (.ref A._law_chunks) = true
 F__law_chunks : Fun K "_law_chunks" "_law_chunks" s__law_chunks A._law_chunks D._law_chunks
 m__law_wares : mg "_law_wares" = some (.ref A._law_wares)
 k__law_wares : PySem.W.keepIn K (.ref A._law_wares) = true
 F__law_wares : Fun K "_law_wares" "_law_wares" s__law_wares A._law_wares D._law_wares
 F_Book___init__ : Fun K "__init__" "Book.__init__" s_Book___init__ A.Book___init__ D.Book___init__
 m__law_small : mg "_law_small" = some (.ref A._law_small)
 k__law_small : PySem.W.keepIn K (.ref A._law_small) = true
 F__law_small : Fun K "_law_small" "_law_small" s__law_small A._law_small D._law_small
 m__law_days : mg "_law_days" = some (.ref A._law_days)
 k__law_days : PySem.W.keepIn K (.ref A._law_days) = true
 F__law_days : Fun K "_law_days" "_law_days" s__law_days A._law_days D._law_days
 m_cost_of_parts : mg "cost_of_parts" = some (.ref A.cost_of_parts)
 k_cost_of_parts : PySem.W.keepIn K (.ref A.cost_of_parts) = true
 F_cost_of_parts : Fun K "cost_of_parts" "cost_of_parts" s_cost_of_parts A.cost_of_parts D.cost_of_parts
 m_cost_in : mg "cost_in" = some (.ref A.cost_in)
 k_cost_in : PySem.W.keepIn K (.ref A.cost_in) = true
 F_cost_in : Fun K "cost_in" "cost_in" s_cost_in A.cost_in D.cost_in
 F_Sale_gain : Fun K "gain" "Sale.gain" s_Sale_gain A.Sale_gain D.Sale_gain
 F_Book_sums : Fun K "sums" "Book.sums" s_Book_sums A.Book_sums D.Book_sums
 F_Sale___init__ : Fun K "__init__" "Sale.__init__" s_Sale___init__ A.Sale___init__ D.Sale___init__
 m_copy_of_sale : mg "copy_of_sale" = some (.ref A.copy_of_sale)
 k_copy_of_sale : PySem.W.keepIn K (.ref A.copy_of_sale) = true
 F_copy_of_sale : Fun K "copy_of_sale" "copy_of_sale" s_copy_of_sale A.copy_of_sale D.copy_of_sale
 F_Book_sales : Fun K "sales" "Book.sales" s_Book_sales A.Book_sales D.Book_sales
 F_Lot_told : Fun K "told" "Lot.told" s_Lot_told A.Lot_told D.Lot_told
 F_Book_given : Fun K "given" "Book.given" s_Book_given A.Book_given D.Book_given
 m__law_sums_good : mg "_law_sums_good" = some (.ref A._law_sums_good)
 k__law_sums_good : PySem.W.keepIn K (.ref A._law_sums_good) = true
 F__law_sums_good : Fun K "_law_sums_good" "_law_sums_good" s__law_sums_good A._law_sums_good D._law_sums_good
 F_Eldest_word : Fun K "word" "Eldest.word" s_Eldest_word A.Eldest_word D.Eldest_word
 F_Newest_word : Fun K "word" "Newest.word" s_Newest_word A.Newest_word D.Newest_word
 F_Dearest_word : Fun K "word" "Dearest.word" s_Dearest_word A.Dearest_word D.Dearest_word
 F_Mean_word : Fun K "word" "Mean.word" s_Mean_word A.Mean_word D.Mean_word
 m_way_by : mg "way_by" = some (.ref A.way_by)
 k_way_by : PySem.W.keepIn K (.ref A.way_by) = true
 F_way_by : Fun K "way_by" "way_by" s_way_by A.way_by D.way_by
 m_is_whole_number : mg "is_whole_number" = some (.ref A.is_whole_number)
 k_is_whole_number : PySem.W.keepIn K (.ref A.is_whole_number) = true
 F_is_whole_number : Fun K "is_whole_number" "is_whole_number" s_is_whole_number A.is_whole_number D.is_whole_number
 m_check_number : mg "check_number" = some (.ref A.check_number)
 k_check_number : PySem.W.keepIn K (.ref A.check_number) = true
 F_check_number : Fun K "check_number" "check_number" s_check_number A.check_number D.check_number
 m_is_name : mg "is_name" = some (.ref A.is_name)
 k_is_name : PySem.W.keepIn K (.ref A.is_name) = true
 F_is_name : Fun K "is_name" "is_name" s_is_name A.is_name D.is_name
 m_check_name : mg "check_name" = some (.ref A.check_name)
 k_check_name : PySem.W.keepIn K (.ref A.check_name) = true
 F_check_name : Fun K "check_name" "check_name" s_check_name A.check_name D.check_name
 F_Entry___init__ : Fun K "__init__" "Entry.__init__" s_Entry___init__ A.Entry___init__ D.Entry___init__
 F_Gift___init__ : Fun K "__init__" "Gift.__init__" s_Gift___init__ A.Gift___init__ D.Gift___init__
 m_check_trade : mg "check_trade" = some (.ref A.check_trade)
 k_check_trade : PySem.W.keepIn K (.ref A.check_trade) = true
 F_check_trade : Fun K "check_trade" "check_trade" s_check_trade A.check_trade D.check_trade
 F_Buy___init__ : FunD K "__init__" "Buy.__init__" s_Buy___init__ A.Buy___init__ D.Buy___init__ [V.int 0]
 m__law_entry : mg "_law_entry" = some (.ref A._law_entry)
 k__law_entry : PySem.W.keepIn K (.ref A._law_entry) = true
 F__law_entry : Fun K "_law_entry" "_law_entry" s__law_entry A._law_entry D._law_entry
 F_Book_row_of : Fun K "row_of" "Book.row_of" s_Book_row_of A.Book_row_of D.Book_row_of
 m_pieces_in : mg "pieces_in" = some (.ref A.pieces_in)
 k_pieces_in : PySem.W.keepIn K (.ref A.pieces_in) = true
 F_pieces_in : Fun K "pieces_in" "pieces_in" s_pieces_in A.pieces_in D.pieces_in
 F_Book_held : Fun K "held" "Book.held" s_Book_held A.Book_held D.Book_held
 m__law_pieces : mg "_law_pieces" = some (.ref A._law_pieces)
 k__law_pieces : PySem.W.keepIn K (.ref A._law_pieces) = true
 F__law_pieces : Fun K "_law_pieces" "_law_pieces" s__law_pieces A._law_pieces D._law_pieces
 m__law_whole : mg "_law_whole" = some (.ref A._law_whole)
 k__law_whole : PySem.W.keepIn K (.ref A._law_whole) = true
 F__law_whole : Fun K "_law_whole" "_law_whole" s__law_whole A._law_whole D._law_whole
 m__law_is_row : mg "_law_is_row" = some (.ref A._law_is_row)
 k__law_is_row : PySem.W.keepIn K (.ref A._law_is_row) = true
 F__law_is_row : Fun K "_law_is_row" "_law_is_row" s__law_is_row A._law_is_row D._law_is_row
 m__law_rows_good : mg "_law_rows_good" = some (.ref A._law_rows_good)
 k__law_rows_good : PySem.W.keepIn K (.ref A._law_rows_good) = true
 F__law_rows_good : Fun K "_law_rows_good" "_law_rows_good" s__law_rows_good A._law_rows_good D._law_rows_good
 F_Book_keep_row : Fun K "keep_row" "Book.keep_row" s_Book_keep_row A.Book_keep_row D.Book_keep_row
 m_place_in_row : mg "place_in_row" = some (.ref A.place_in_row)
 k_place_in_row : PySem.W.keepIn K (.ref A.place_in_row) = true
 F_place_in_row : Fun K "place_in_row" "place_in_row" s_place_in_row A.place_in_row D.place_in_row
 F_Lot___init__ : Fun K "__init__" "Lot.__init__" s_Lot___init__ A.Lot___init__ D.Lot___init__
 F_Lot_with_more : Fun K "with_more" "Lot.with_more" s_Lot_with_more A.Lot_with_more D.Lot_with_more
 m_row_with : mg "row_with" = some (.ref A.row_with)
 k_row_with : PySem.W.keepIn K (.ref A.row_with) = true
 F_row_with : Fun K "row_with" "row_with" s_row_with A.row_with D.row_with
 F_Book_put : Fun K "put" "Book.put" s_Book_put A.Book_put D.Book_put
 F_Book_lay_on : Fun K "lay_on" "Book.lay_on" s_Book_lay_on A.Book_lay_on D.Book_lay_on
 F_Book_do_buy : Fun K "do_buy" "Book.do_buy" s_Book_do_buy A.Book_do_buy D.Book_do_buy
 F_Book_do_gift : Fun K "do_gift" "Book.do_gift" s_Book_do_gift A.Book_do_gift D.Book_do_gift
 F_Book_do_by_kind : Fun K "do_by_kind" "Book.do_by_kind" s_Book_do_by_kind A.Book_do_by_kind D.Book_do_by_kind
 m_place_of : mg "place_of" = some (.ref A.place_of)
 k_place_of : PySem.W.keepIn K (.ref A.place_of) = true
 F_place_of : Fun K "place_of" "place_of" s_place_of A.place_of D.place_of
 m_held_with : mg "held_with" = some (.ref A.held_with)
 k_held_with : PySem.W.keepIn K (.ref A.held_with) = true
 F_held_with : Fun K "held_with" "held_with" s_held_with A.held_with D.held_with
 m_held_with_more : mg "held_with_more" = some (.ref A.held_with_more)
 k_held_with_more : PySem.W.keepIn K (.ref A.held_with_more) = true
 F_held_with_more : Fun K "held_with_more" "held_with_more" s_held_with_more A.held_with_more D.held_with_more
 F_Buy_held_behind : Fun K "held_behind" "Buy.held_behind" s_Buy_held_behind A.Buy_held_behind D.Buy_held_behind
 F_Gift_held_behind : Fun K "held_behind" "Gift.held_behind" s_Gift_held_behind A.Gift_held_behind D.Gift_held_behind
 F_Book_do : Fun K "do" "Book.do" s_Book_do A.Book_do D.Book_do
 F_Buy_word : Fun K "word" "Buy.word" s_Buy_word A.Buy_word D.Buy_word
 F_Gift_word : Fun K "word" "Gift.word" s_Gift_word A.Gift_word D.Gift_word
 m_law : mg "law" = some (.ref A.law)
 k_law : PySem.W.keepIn K (.ref A.law) = true
 F_law : Fun K "law" "law" s_law A.law D.law
 b_len : mg "len" = none
 b_range : mg "range" = none
 b_max : mg "max" = none
 b_min : mg "min" = none
 b_sorted : mg "sorted" = none
 b_sum : mg "sum" = none
 b_list : mg "list" = none
 b_isinstance : mg "isinstance" = none
 b_int : mg "int" = none
 b_bool : mg "bool" = none
 b_all : mg "all" = none
 b_str : mg "str" = none
 b_dict : mg "dict" = none
 b_zip : mg "zip" = none
 b_any : mg "any" = none
 m_Book : mg "Book" = some (.ref A.C_Book)
 m_Sale : mg "Sale" = some (.ref A.C_Sale)
 m_Lot : mg "Lot" = some (.ref A.C_Lot)
 m_Eldest : mg "Eldest" = some (.ref A.C_Eldest)
 m_Newest : mg "Newest" = some (.ref A.C_Newest)
 m_Dearest : mg "Dearest" = some (.ref A.C_Dearest)
 m_Mean : mg "Mean" = some (.ref A.C_Mean)
 m_Entry : mg "Entry" = some (.ref A.C_Entry)
 m_Gift : mg "Gift" = some (.ref A.C_Gift)
 m_Buy : mg "Buy" = some (.ref A.C_Buy)
 m_Way : mg "Way" = some (.ref A.C_Way)
 g_MOST_LETTERS : mg "MOST_LETTERS" = some (.int 8 A.t_MOST_LETTERS)
 g_MOST_DAY : mg "MOST_DAY" = some (.int 1000000 A.t_MOST_DAY)
 g_MOST_NUMBER : mg "MOST_NUMBER" = some (.int 1000000 A.t_MOST_NUMBER)
 g_MOST_PIECES : mg "MOST_PIECES" = some (.int 1000000000 A.t_MOST_PIECES)
 g_MOST_GIFT_COST : mg "MOST_GIFT_COST" = some (.int 1000000000000000000 A.t_MOST_GIFT_COST)
 g_MOST_PRICE : mg "MOST_PRICE" = some (.int 1000000000 A.t_MOST_PRICE)
 g_MOST_FEE : mg "MOST_FEE" = some (.int 1000000000 A.t_MOST_FEE)
 cl_Book : Cls K A.C_Book
 ty_Book : InsTy K A.C_Book
 n_Book_way : NoAttr K A.C_Book "way"
 n_Book_rows : NoAttr K A.C_Book "rows"
 n_Book_last_place : NoAttr K A.C_Book "last_place"
 n_Book_paid : NoAttr K A.C_Book "paid"
 n_Book_brought : NoAttr K A.C_Book "brought"
 n_Book_sales_done : NoAttr K A.C_Book "sales_done"
 n_Book_givings_done : NoAttr K A.C_Book "givings_done"
 cl_Sale : Cls K A.C_Sale
 ty_Sale : InsTy K A.C_Sale
 n_Sale_number : NoAttr K A.C_Sale "number"
 n_Sale_day : NoAttr K A.C_Sale "day"
 n_Sale_ware : NoAttr K A.C_Sale "ware"
 n_Sale_proceeds : NoAttr K A.C_Sale "proceeds"
 n_Sale_parts : NoAttr K A.C_Sale "parts"
 n_Sale_laid_on : NoAttr K A.C_Sale "laid_on"
 cl_Lot : Cls K A.C_Lot
 ty_Lot : InsTy K A.C_Lot
 n_Lot_number : NoAttr K A.C_Lot "number"
 n_Lot_since : NoAttr K A.C_Lot "since"
 n_Lot_pieces : NoAttr K A.C_Lot "pieces"
 n_Lot_cost : NoAttr K A.C_Lot "cost"
 cl_Eldest : Cls K A.C_Eldest
 ty_Eldest : InsTy K A.C_Eldest
 cl_Newest : Cls K A.C_Newest
 ty_Newest : InsTy K A.C_Newest
 cl_Dearest : Cls K A.C_Dearest
 ty_Dearest : InsTy K A.C_Dearest
 cl_Mean : Cls K A.C_Mean
 ty_Mean : InsTy K A.C_Mean
 cl_Entry : Cls K A.C_Entry
 ty_Entry : InsTy K A.C_Entry
 n_Entry_day : NoAttr K A.C_Entry "day"
 n_Entry_number : NoAttr K A.C_Entry "number"
 n_Entry_ware : NoAttr K A.C_Entry "ware"
 cl_Gift : Cls K A.C_Gift
 ty_Gift : InsTy K A.C_Gift
 n_Gift_day : NoAttr K A.C_Gift "day"
 n_Gift_number : NoAttr K A.C_Gift "number"
 n_Gift_ware : NoAttr K A.C_Gift "ware"
 n_Gift_pieces : NoAttr K A.C_Gift "pieces"
 n_Gift_cost : NoAttr K A.C_Gift "cost"
 n_Gift_since : NoAttr K A.C_Gift "since"
 cl_Buy : Cls K A.C_Buy
 ty_Buy : InsTy K A.C_Buy
 n_Buy_day : NoAttr K A.C_Buy "day"
 n_Buy_number : NoAttr K A.C_Buy "number"
 n_Buy_ware : NoAttr K A.C_Buy "ware"
 n_Buy_pieces : NoAttr K A.C_Buy "pieces"
 n_Buy_price : NoAttr K A.C_Buy "price"
 n_Buy_fee : NoAttr K A.C_Buy "fee"
 n_Buy_cost : NoAttr K A.C_Buy "cost"
 cl_Way : Cls K A.C_Way
 ty_Way : InsTy K A.C_Way
 mk_Sale : Mk K A.C_Sale A.Sale___init__
 mk_Gift : Mk K A.C_Gift A.Gift___init__
 mk_Buy : Mk K A.C_Buy A.Buy___init__
 mk_Lot : Mk K A.C_Lot A.Lot___init__
 mk_Book : Mk K A.C_Book A.Book___init__
 mk0_Eldest : Mk0 K A.C_Eldest
 mk0_Newest : Mk0 K A.C_Newest
 mk0_Dearest : Mk0 K A.C_Dearest
 mk0_Mean : Mk0 K A.C_Mean
 me_Sale_gain : Meth K A.C_Sale "gain" A.Sale_gain
 me_Lot_told : Meth K A.C_Lot "told" A.Lot_told
 me_Book_sums : Meth K A.C_Book "sums" A.Book_sums
 me_Book_sales : Meth K A.C_Book "sales" A.Book_sales
 me_Book_given : Meth K A.C_Book "given" A.Book_given
 me_Eldest_word : Meth K A.C_Eldest "word" A.Eldest_word
 me_Newest_word : Meth K A.C_Newest "word" A.Newest_word
 me_Dearest_word : Meth K A.C_Dearest "word" A.Dearest_word
 me_Mean_word : Meth K A.C_Mean "word" A.Mean_word
 me_Book_held : Meth K A.C_Book "held" A.Book_held
 me_Book_row_of : Meth K A.C_Book "row_of" A.Book_row_of
 me_Lot_with_more : Meth K A.C_Lot "with_more" A.Lot_with_more
 me_Book_keep_row : Meth K A.C_Book "keep_row" A.Book_keep_row
 me_Book_put : Meth K A.C_Book "put" A.Book_put
 me_Book_lay_on : Meth K A.C_Book "lay_on" A.Book_lay_on
 me_Book_do_buy : Meth K A.C_Book "do_buy" A.Book_do_buy
 me_Book_do_gift : Meth K A.C_Book "do_gift" A.Book_do_gift
 me_Book_do_by_kind : Meth K A.C_Book "do_by_kind" A.Book_do_by_kind
 me_Buy_held_behind : Meth K A.C_Buy "held_behind" A.Buy_held_behind
 me_Gift_held_behind : Meth K A.C_Gift "held_behind" A.Gift_held_behind
 me_Book_do : Meth K A.C_Book "do" A.Book_do
 me_Buy_word : Meth K A.C_Buy "word" A.Buy_word
 me_Gift_word : Meth K A.C_Gift "word" A.Gift_word
 cf_Entry___init__ : ClsFn K A.C_Entry "__init__" A.Entry___init__
 lamc : D.law.code = .ref A.cT
 lamC : PySem.W.codeHdIn K A.cT A.PT = true
 ki_Lot : PySem.W.kitOne K (.ref A.C_Lot) (.ref A.C_Lot) = some true
 ki_BB : PySem.W.kitOne K (.ref A.C_Buy) (.ref A.C_Buy) = some true
 ki_GB : PySem.W.kitOne K (.ref A.C_Gift) (.ref A.C_Buy) = some false
 ki_GG : PySem.W.kitOne K (.ref A.C_Gift) (.ref A.C_Gift) = some true
theorem sc__law_cell_at : FnScope ["_law_script", "_law_k"] ["_law_script", "_law_k"] (defScope s__law_cell_at) := ⟨rfl, rfl, rfl, by decide +kernel, rfl, by decide +kernel, by decide +kernel⟩
theorem sc__law_mixed : FnScope ["_law_cell", "_law_k", "_law_number"] ["_law_cell", "_law_k"] (defScope s__law_mixed) := ⟨rfl, rfl, rfl, by decide +kernel, rfl, by decide +kernel, by decide +kernel⟩
theorem sc__law_chunks : FnScope ["_law_script", "_law_many", "_law_chunks_here", "_law_rest", "_law_by_digits", "_law_k", "_law_cell", "_law_number"] ["_law_script", "_law_many"] (defScope s__law_chunks) := ⟨rfl, rfl, rfl, by decide +kernel, rfl, by decide +kernel, by decide +kernel⟩
theorem sc__law_wares : FnScope ["_law_number", "_law_wares_here", "_law_k", "_law_name", "_law_j"] ["_law_number"] (defScope s__law_wares) := ⟨rfl, rfl, rfl, by decide +kernel, rfl, by decide +kernel, by decide +kernel⟩
theorem sc_Book___init__ : FnScope ["self", "way"] ["self", "way"] (defScope s_Book___init__) := ⟨rfl, rfl, rfl, by decide +kernel, rfl, by decide +kernel, by decide +kernel⟩
theorem sc__law_small : FnScope ["_law_number", "_law_most"] ["_law_number", "_law_most"] (defScope s__law_small) := ⟨rfl, rfl, rfl, by decide +kernel, rfl, by decide +kernel, by decide +kernel⟩
theorem sc__law_days : FnScope ["_law_chunks_here", "_law_found", "_law_used", "_law_number", "_law_sort", "_law_day", "_law_name"] ["_law_chunks_here"] (defScope s__law_days) := ⟨rfl, rfl, rfl, by decide +kernel, rfl, by decide +kernel, by decide +kernel⟩
theorem sc_cost_of_parts : FnScope ["parts"] ["parts"] (defScope s_cost_of_parts) := ⟨rfl, rfl, rfl, by decide +kernel, rfl, by decide +kernel, by decide +kernel⟩
theorem sc_cost_in : FnScope ["lots"] ["lots"] (defScope s_cost_in) := ⟨rfl, rfl, rfl, by decide +kernel, rfl, by decide +kernel, by decide +kernel⟩
theorem sc_Sale_gain : FnScope ["self"] ["self"] (defScope s_Sale_gain) := ⟨rfl, rfl, rfl, by decide +kernel, rfl, by decide +kernel, by decide +kernel⟩
theorem sc_Book_sums : FnScope ["self"] ["self"] (defScope s_Book_sums) := ⟨rfl, rfl, rfl, by decide +kernel, rfl, by decide +kernel, by decide +kernel⟩
theorem sc_copy_of_sale : FnScope ["sale"] ["sale"] (defScope s_copy_of_sale) := ⟨rfl, rfl, rfl, by decide +kernel, rfl, by decide +kernel, by decide +kernel⟩
theorem sc_Book_sales : FnScope ["self"] ["self"] (defScope s_Book_sales) := ⟨rfl, rfl, rfl, by decide +kernel, rfl, by decide +kernel, by decide +kernel⟩
theorem sc_Lot_told : FnScope ["self"] ["self"] (defScope s_Lot_told) := ⟨rfl, rfl, rfl, by decide +kernel, rfl, by decide +kernel, by decide +kernel⟩
theorem sc_Book_given : FnScope ["self"] ["self"] (defScope s_Book_given) := ⟨rfl, rfl, rfl, by decide +kernel, rfl, by decide +kernel, by decide +kernel⟩
theorem sc__law_sums_good : FnScope ["_law_book", "_law_paid", "_law_brought", "_law_due"] ["_law_book", "_law_paid", "_law_brought"] (defScope s__law_sums_good) := ⟨rfl, rfl, rfl, by decide +kernel, rfl, by decide +kernel, by decide +kernel⟩
theorem sc_Eldest_word : FnScope ["self"] ["self"] (defScope s_Eldest_word) := ⟨rfl, rfl, rfl, by decide +kernel, rfl, by decide +kernel, by decide +kernel⟩
theorem sc_Newest_word : FnScope ["self"] ["self"] (defScope s_Newest_word) := ⟨rfl, rfl, rfl, by decide +kernel, rfl, by decide +kernel, by decide +kernel⟩
theorem sc_Dearest_word : FnScope ["self"] ["self"] (defScope s_Dearest_word) := ⟨rfl, rfl, rfl, by decide +kernel, rfl, by decide +kernel, by decide +kernel⟩
theorem sc_Mean_word : FnScope ["self"] ["self"] (defScope s_Mean_word) := ⟨rfl, rfl, rfl, by decide +kernel, rfl, by decide +kernel, by decide +kernel⟩
theorem sc_way_by : FnScope ["word", "way"] ["word"] (defScope s_way_by) := ⟨rfl, rfl, rfl, by decide +kernel, rfl, by decide +kernel, by decide +kernel⟩
theorem sc_is_whole_number : FnScope ["value"] ["value"] (defScope s_is_whole_number) := ⟨rfl, rfl, rfl, by decide +kernel, rfl, by decide +kernel, by decide +kernel⟩
theorem sc_check_number : FnScope ["what", "value", "least", "most"] ["what", "value", "least", "most"] (defScope s_check_number) := ⟨rfl, rfl, rfl, by decide +kernel, rfl, by decide +kernel, by decide +kernel⟩
theorem sc_is_name : FnScope ["value"] ["value"] (defScope s_is_name) := ⟨rfl, rfl, rfl, by decide +kernel, rfl, by decide +kernel, by decide +kernel⟩
theorem sc_check_name : FnScope ["what", "value"] ["what", "value"] (defScope s_check_name) := ⟨rfl, rfl, rfl, by decide +kernel, rfl, by decide +kernel, by decide +kernel⟩
theorem sc_Entry___init__ : FnScope ["self", "day", "number", "ware"] ["self", "day", "number", "ware"] (defScope s_Entry___init__) := ⟨rfl, rfl, rfl, by decide +kernel, rfl, by decide +kernel, by decide +kernel⟩
theorem sc_Gift___init__ : FnScope ["self", "day", "number", "ware", "pieces", "cost", "since"] ["self", "day", "number", "ware", "pieces", "cost", "since"] (defScope s_Gift___init__) := ⟨rfl, rfl, rfl, by decide +kernel, rfl, by decide +kernel, by decide +kernel⟩
theorem sc_check_trade : FnScope ["pieces", "price", "fee"] ["pieces", "price", "fee"] (defScope s_check_trade) := ⟨rfl, rfl, rfl, by decide +kernel, rfl, by decide +kernel, by decide +kernel⟩
theorem sc_Buy___init__ : FnScope ["self", "day", "number", "ware", "pieces", "price", "fee"] ["self", "day", "number", "ware", "pieces", "price", "fee"] (defScope s_Buy___init__) := ⟨rfl, rfl, rfl, by decide +kernel, rfl, by decide +kernel, by decide +kernel⟩
theorem sc__law_entry : FnScope ["_law_ware", "_law_spot", "_law_day", "_law_name", "_law_number", "_law_pieces_here", "_law_rest", "_law_price", "_law_fee", "_law_entry_here", "_law_since", "_law_cost"] ["_law_ware", "_law_spot"] (defScope s__law_entry) := ⟨rfl, rfl, rfl, by decide +kernel, rfl, by decide +kernel, by decide +kernel⟩
theorem sc_Book_row_of : FnScope ["self", "ware"] ["self", "ware"] (defScope s_Book_row_of) := ⟨rfl, rfl, rfl, by decide +kernel, rfl, by decide +kernel, by decide +kernel⟩
theorem sc_pieces_in : FnScope ["lots"] ["lots"] (defScope s_pieces_in) := ⟨rfl, rfl, rfl, by decide +kernel, rfl, by decide +kernel, by decide +kernel⟩
theorem sc_Book_held : FnScope ["self"] ["self"] (defScope s_Book_held) := ⟨rfl, rfl, rfl, by decide +kernel, rfl, by decide +kernel, by decide +kernel⟩
theorem sc__law_pieces : FnScope ["_law_row"] ["_law_row"] (defScope s__law_pieces) := ⟨rfl, rfl, rfl, by decide +kernel, rfl, by decide +kernel, by decide +kernel⟩
theorem sc__law_whole : FnScope ["_law_found"] ["_law_found"] (defScope s__law_whole) := ⟨rfl, rfl, rfl, by decide +kernel, rfl, by decide +kernel, by decide +kernel⟩
theorem sc__law_is_row : FnScope ["_law_found", "_law_rows", "_law_lot", "_law_row"] ["_law_found", "_law_rows"] (defScope s__law_is_row) := ⟨rfl, rfl, rfl, by decide +kernel, rfl, by decide +kernel, by decide +kernel⟩
theorem sc__law_rows_good : FnScope ["_law_book", "_law_rows", "_law_wares_here", "_law_due", "_law_ware", "_law_row"] ["_law_book", "_law_rows", "_law_wares_here"] (defScope s__law_rows_good) := ⟨rfl, rfl, rfl, by decide +kernel, rfl, by decide +kernel, by decide +kernel⟩
theorem sc_Book_keep_row : FnScope ["self", "ware", "row"] ["self", "ware", "row"] (defScope s_Book_keep_row) := ⟨rfl, rfl, rfl, by decide +kernel, rfl, by decide +kernel, by decide +kernel⟩
theorem sc_place_in_row : FnScope ["lot"] ["lot"] (defScope s_place_in_row) := ⟨rfl, rfl, rfl, by decide +kernel, rfl, by decide +kernel, by decide +kernel⟩
theorem sc_Lot___init__ : FnScope ["self", "number", "since", "pieces", "cost"] ["self", "number", "since", "pieces", "cost"] (defScope s_Lot___init__) := ⟨rfl, rfl, rfl, by decide +kernel, rfl, by decide +kernel, by decide +kernel⟩
theorem sc_Lot_with_more : FnScope ["self", "pieces", "cost"] ["self", "pieces", "cost"] (defScope s_Lot_with_more) := ⟨rfl, rfl, rfl, by decide +kernel, rfl, by decide +kernel, by decide +kernel⟩
theorem sc_row_with : FnScope ["lots", "lot"] ["lots", "lot"] (defScope s_row_with) := ⟨rfl, rfl, rfl, by decide +kernel, rfl, by decide +kernel, by decide +kernel⟩
theorem sc_Book_put : FnScope ["self", "ware", "lots", "row", "lot"] ["self", "ware", "lots"] (defScope s_Book_put) := ⟨rfl, rfl, rfl, by decide +kernel, rfl, by decide +kernel, by decide +kernel⟩
theorem sc_Book_lay_on : FnScope ["self", "entry"] ["self", "entry"] (defScope s_Book_lay_on) := ⟨rfl, rfl, rfl, by decide +kernel, rfl, by decide +kernel, by decide +kernel⟩
theorem sc_Book_do_buy : FnScope ["self", "entry", "cost"] ["self", "entry"] (defScope s_Book_do_buy) := ⟨rfl, rfl, rfl, by decide +kernel, rfl, by decide +kernel, by decide +kernel⟩
theorem sc_Book_do_gift : FnScope ["self", "entry"] ["self", "entry"] (defScope s_Book_do_gift) := ⟨rfl, rfl, rfl, by decide +kernel, rfl, by decide +kernel, by decide +kernel⟩
theorem sc_Book_do_by_kind : FnScope ["self", "entry"] ["self", "entry"] (defScope s_Book_do_by_kind) := ⟨rfl, rfl, rfl, by decide +kernel, rfl, by decide +kernel, by decide +kernel⟩
theorem sc_place_of : FnScope ["entry"] ["entry"] (defScope s_place_of) := ⟨rfl, rfl, rfl, by decide +kernel, rfl, by decide +kernel, by decide +kernel⟩
theorem sc_held_with : FnScope ["held", "ware", "pieces", "changed"] ["held", "ware", "pieces"] (defScope s_held_with) := ⟨rfl, rfl, rfl, by decide +kernel, rfl, by decide +kernel, by decide +kernel⟩
theorem sc_held_with_more : FnScope ["held", "ware", "pieces"] ["held", "ware", "pieces"] (defScope s_held_with_more) := ⟨rfl, rfl, rfl, by decide +kernel, rfl, by decide +kernel, by decide +kernel⟩
theorem sc_Buy_held_behind : FnScope ["self", "held"] ["self", "held"] (defScope s_Buy_held_behind) := ⟨rfl, rfl, rfl, by decide +kernel, rfl, by decide +kernel, by decide +kernel⟩
theorem sc_Gift_held_behind : FnScope ["self", "held"] ["self", "held"] (defScope s_Gift_held_behind) := ⟨rfl, rfl, rfl, by decide +kernel, rfl, by decide +kernel, by decide +kernel⟩
theorem sc_Book_do : FnScope ["self", "entry"] ["self", "entry"] (defScope s_Book_do) := ⟨rfl, rfl, rfl, by decide +kernel, rfl, by decide +kernel, by decide +kernel⟩
theorem sc_Buy_word : FnScope ["self"] ["self"] (defScope s_Buy_word) := ⟨rfl, rfl, rfl, by decide +kernel, rfl, by decide +kernel, by decide +kernel⟩
theorem sc_Gift_word : FnScope ["self"] ["self"] (defScope s_Gift_word) := ⟨rfl, rfl, rfl, by decide +kernel, rfl, by decide +kernel, by decide +kernel⟩
theorem sc_law : FnScope ["_law_script", "_law_way", "_law_chunks_here", "_law_wares_here", "_law_book", "_law_rows", "_law_paid", "_law_brought", "_law_spot", "_law_ware", "_law_entry_here", "_law_lot", "_law_ahead", "_law_more", "_law_strange"] ["_law_script"] (defScope s_law) := ⟨rfl, rfl, rfl, by decide +kernel, rfl, by decide +kernel, by decide +kernel⟩
section
variable {P : Program} {w : World} {K : Fg_} {mg : Str -> Option Value} {base : Heap} {A : Adr} {D : Fds}
theorem b__law_cell_at (T : Txt K mg A D) : Binds K D._law_cell_at ["_law_script", "_law_k"] [] := T.F__law_cell_at.binds (ps := ["_law_script", "_law_k"]) fun _ _ _ _ _ _ us hl => match us, hl with | [_, _], _ => rfl
theorem b__law_mixed (T : Txt K mg A D) : Binds K D._law_mixed ["_law_cell", "_law_k"] [] := T.F__law_mixed.binds (ps := ["_law_cell", "_law_k"]) fun _ _ _ _ _ _ us hl => match us, hl with | [_, _], _ => rfl
theorem b__law_chunks (T : Txt K mg A D) : Binds K D._law_chunks ["_law_script", "_law_many"] [] := T.F__law_chunks.binds (ps := ["_law_script", "_law_many"]) fun _ _ _ _ _ _ us hl => match us, hl with | [_, _], _ => rfl
theorem b__law_wares (T : Txt K mg A D) : Binds K D._law_wares ["_law_number"] [] := T.F__law_wares.binds (ps := ["_law_number"]) fun _ _ _ _ _ _ us hl => match us, hl with | [_], _ => rfl
theorem b_Book___init__ (T : Txt K mg A D) : Binds K D.Book___init__ ["self", "way"] [] := T.F_Book___init__.binds (ps := ["self", "way"]) fun _ _ _ _ _ _ us hl => match us, hl with | [_, _], _ => rfl
theorem b__law_small (T : Txt K mg A D) : Binds K D._law_small ["_law_number", "_law_most"] [] := T.F__law_small.binds (ps := ["_law_number", "_law_most"]) fun _ _ _ _ _ _ us hl => match us, hl with | [_, _], _ => rfl
theorem b__law_days (T : Txt K mg A D) : Binds K D._law_days ["_law_chunks_here"] [] := T.F__law_days.binds (ps := ["_law_chunks_here"]) fun _ _ _ _ _ _ us hl => match us, hl with | [_], _ => rfl
theorem b_cost_of_parts (T : Txt K mg A D) : Binds K D.cost_of_parts ["parts"] [] := T.F_cost_of_parts.binds (ps := ["parts"]) fun _ _ _ _ _ _ us hl => match us, hl with | [_], _ => rfl
theorem b_cost_in (T : Txt K mg A D) : Binds K D.cost_in ["lots"] [] := T.F_cost_in.binds (ps := ["lots"]) fun _ _ _ _ _ _ us hl => match us, hl with | [_], _ => rfl
theorem b_Sale_gain (T : Txt K mg A D) : Binds K D.Sale_gain ["self"] [] := T.F_Sale_gain.binds (ps := ["self"]) fun _ _ _ _ _ _ us hl => match us, hl with | [_], _ => rfl
theorem b_Book_sums (T : Txt K mg A D) : Binds K D.Book_sums ["self"] [] := T.F_Book_sums.binds (ps := ["self"]) fun _ _ _ _ _ _ us hl => match us, hl with | [_], _ => rfl
theorem b_copy_of_sale (T : Txt K mg A D) : Binds K D.copy_of_sale ["sale"] [] := T.F_copy_of_sale.binds (ps := ["sale"]) fun _ _ _ _ _ _ us hl => match us, hl with | [_], _ => rfl
theorem b_Book_sales (T : Txt K mg A D) : Binds K D.Book_sales ["self"] [] := T.F_Book_sales.binds (ps := ["self"]) fun _ _ _ _ _ _ us hl => match us, hl with | [_], _ => rfl
theorem b_Lot_told (T : Txt K mg A D) : Binds K D.Lot_told ["self"] [] := T.F_Lot_told.binds (ps := ["self"]) fun _ _ _ _ _ _ us hl => match us, hl with | [_], _ => rfl
theorem b_Book_given (T : Txt K mg A D) : Binds K D.Book_given ["self"] [] := T.F_Book_given.binds (ps := ["self"]) fun _ _ _ _ _ _ us hl => match us, hl with | [_], _ => rfl
theorem b__law_sums_good (T : Txt K mg A D) : Binds K D._law_sums_good ["_law_book", "_law_paid", "_law_brought"] [] := T.F__law_sums_good.binds (ps := ["_law_book", "_law_paid", "_law_brought"]) fun _ _ _ _ _ _ us hl => match us, hl with | [_, _, _], _ => rfl
theorem b_Eldest_word (T : Txt K mg A D) : Binds K D.Eldest_word ["self"] [] := T.F_Eldest_word.binds (ps := ["self"]) fun _ _ _ _ _ _ us hl => match us, hl with | [_], _ => rfl
theorem b_Newest_word (T : Txt K mg A D) : Binds K D.Newest_word ["self"] [] := T.F_Newest_word.binds (ps := ["self"]) fun _ _ _ _ _ _ us hl => match us, hl with | [_], _ => rfl
theorem b_Dearest_word (T : Txt K mg A D) : Binds K D.Dearest_word ["self"] [] := T.F_Dearest_word.binds (ps := ["self"]) fun _ _ _ _ _ _ us hl => match us, hl with | [_], _ => rfl
theorem b_Mean_word (T : Txt K mg A D) : Binds K D.Mean_word ["self"] [] := T.F_Mean_word.binds (ps := ["self"]) fun _ _ _ _ _ _ us hl => match us, hl with | [_], _ => rfl
theorem b_way_by (T : Txt K mg A D) : Binds K D.way_by ["word"] [] := T.F_way_by.binds (ps := ["word"]) fun _ _ _ _ _ _ us hl => match us, hl with | [_], _ => rfl
theorem b_is_whole_number (T : Txt K mg A D) : Binds K D.is_whole_number ["value"] [] := T.F_is_whole_number.binds (ps := ["value"]) fun _ _ _ _ _ _ us hl => match us, hl with | [_], _ => rfl
theorem b_check_number (T : Txt K mg A D) : Binds K D.check_number ["what", "value", "least", "most"] [] := T.F_check_number.binds (ps := ["what", "value", "least", "most"]) fun _ _ _ _ _ _ us hl => match us, hl with | [_, _, _, _], _ => rfl
theorem b_is_name (T : Txt K mg A D) : Binds K D.is_name ["value"] [] := T.F_is_name.binds (ps := ["value"]) fun _ _ _ _ _ _ us hl => match us, hl with | [_], _ => rfl
theorem b_check_name (T : Txt K mg A D) : Binds K D.check_name ["what", "value"] [] := T.F_check_name.binds (ps := ["what", "value"]) fun _ _ _ _ _ _ us hl => match us, hl with | [_, _], _ => rfl
theorem b_Entry___init__ (T : Txt K mg A D) : Binds K D.Entry___init__ ["self", "day", "number", "ware"] [] := T.F_Entry___init__.binds (ps := ["self", "day", "number", "ware"]) fun _ _ _ _ _ _ us hl => match us, hl with | [_, _, _, _], _ => rfl
theorem b_Gift___init__ (T : Txt K mg A D) : Binds K D.Gift___init__ ["self", "day", "number", "ware", "pieces", "cost", "since"] [] := T.F_Gift___init__.binds (ps := ["self", "day", "number", "ware", "pieces", "cost", "since"]) fun _ _ _ _ _ _ us hl => match us, hl with | [_, _, _, _, _, _, _], _ => rfl
theorem b_check_trade (T : Txt K mg A D) : Binds K D.check_trade ["pieces", "price", "fee"] [] := T.F_check_trade.binds (ps := ["pieces", "price", "fee"]) fun _ _ _ _ _ _ us hl => match us, hl with | [_, _, _], _ => rfl
theorem b__law_entry (T : Txt K mg A D) : Binds K D._law_entry ["_law_ware", "_law_spot"] [] := T.F__law_entry.binds (ps := ["_law_ware", "_law_spot"]) fun _ _ _ _ _ _ us hl => match us, hl with | [_, _], _ => rfl
theorem b_Book_row_of (T : Txt K mg A D) : Binds K D.Book_row_of ["self", "ware"] [] := T.F_Book_row_of.binds (ps := ["self", "ware"]) fun _ _ _ _ _ _ us hl => match us, hl with | [_, _], _ => rfl
theorem b_pieces_in (T : Txt K mg A D) : Binds K D.pieces_in ["lots"] [] := T.F_pieces_in.binds (ps := ["lots"]) fun _ _ _ _ _ _ us hl => match us, hl with | [_], _ => rfl
theorem b_Book_held (T : Txt K mg A D) : Binds K D.Book_held ["self"] [] := T.F_Book_held.binds (ps := ["self"]) fun _ _ _ _ _ _ us hl => match us, hl with | [_], _ => rfl
theorem b__law_pieces (T : Txt K mg A D) : Binds K D._law_pieces ["_law_row"] [] := T.F__law_pieces.binds (ps := ["_law_row"]) fun _ _ _ _ _ _ us hl => match us, hl with | [_], _ => rfl
theorem b__law_whole (T : Txt K mg A D) : Binds K D._law_whole ["_law_found"] [] := T.F__law_whole.binds (ps := ["_law_found"]) fun _ _ _ _ _ _ us hl => match us, hl with | [_], _ => rfl
theorem b__law_is_row (T : Txt K mg A D) : Binds K D._law_is_row ["_law_found", "_law_rows"] [] := T.F__law_is_row.binds (ps := ["_law_found", "_law_rows"]) fun _ _ _ _ _ _ us hl => match us, hl with | [_, _], _ => rfl
theorem b__law_rows_good (T : Txt K mg A D) : Binds K D._law_rows_good ["_law_book", "_law_rows", "_law_wares_here"] [] := T.F__law_rows_good.binds (ps := ["_law_book", "_law_rows", "_law_wares_here"]) fun _ _ _ _ _ _ us hl => match us, hl with | [_, _, _], _ => rfl
theorem b_Book_keep_row (T : Txt K mg A D) : Binds K D.Book_keep_row ["self", "ware", "row"] [] := T.F_Book_keep_row.binds (ps := ["self", "ware", "row"]) fun _ _ _ _ _ _ us hl => match us, hl with | [_, _, _], _ => rfl
theorem b_place_in_row (T : Txt K mg A D) : Binds K D.place_in_row ["lot"] [] := T.F_place_in_row.binds (ps := ["lot"]) fun _ _ _ _ _ _ us hl => match us, hl with | [_], _ => rfl
theorem b_Lot___init__ (T : Txt K mg A D) : Binds K D.Lot___init__ ["self", "number", "since", "pieces", "cost"] [] := T.F_Lot___init__.binds (ps := ["self", "number", "since", "pieces", "cost"]) fun _ _ _ _ _ _ us hl => match us, hl with | [_, _, _, _, _], _ => rfl
theorem b_Lot_with_more (T : Txt K mg A D) : Binds K D.Lot_with_more ["self", "pieces", "cost"] [] := T.F_Lot_with_more.binds (ps := ["self", "pieces", "cost"]) fun _ _ _ _ _ _ us hl => match us, hl with | [_, _, _], _ => rfl
theorem b_row_with (T : Txt K mg A D) : Binds K D.row_with ["lots", "lot"] [] := T.F_row_with.binds (ps := ["lots", "lot"]) fun _ _ _ _ _ _ us hl => match us, hl with | [_, _], _ => rfl
theorem b_Book_put (T : Txt K mg A D) : Binds K D.Book_put ["self", "ware", "lots"] [] := T.F_Book_put.binds (ps := ["self", "ware", "lots"]) fun _ _ _ _ _ _ us hl => match us, hl with | [_, _, _], _ => rfl
theorem b_Book_lay_on (T : Txt K mg A D) : Binds K D.Book_lay_on ["self", "entry"] [] := T.F_Book_lay_on.binds (ps := ["self", "entry"]) fun _ _ _ _ _ _ us hl => match us, hl with | [_, _], _ => rfl
theorem b_Book_do_buy (T : Txt K mg A D) : Binds K D.Book_do_buy ["self", "entry"] [] := T.F_Book_do_buy.binds (ps := ["self", "entry"]) fun _ _ _ _ _ _ us hl => match us, hl with | [_, _], _ => rfl
theorem b_Book_do_gift (T : Txt K mg A D) : Binds K D.Book_do_gift ["self", "entry"] [] := T.F_Book_do_gift.binds (ps := ["self", "entry"]) fun _ _ _ _ _ _ us hl => match us, hl with | [_, _], _ => rfl
theorem b_Book_do_by_kind (T : Txt K mg A D) : Binds K D.Book_do_by_kind ["self", "entry"] [] := T.F_Book_do_by_kind.binds (ps := ["self", "entry"]) fun _ _ _ _ _ _ us hl => match us, hl with | [_, _], _ => rfl
theorem b_place_of (T : Txt K mg A D) : Binds K D.place_of ["entry"] [] := T.F_place_of.binds (ps := ["entry"]) fun _ _ _ _ _ _ us hl => match us, hl with | [_], _ => rfl
theorem b_held_with (T : Txt K mg A D) : Binds K D.held_with ["held", "ware", "pieces"] [] := T.F_held_with.binds (ps := ["held", "ware", "pieces"]) fun _ _ _ _ _ _ us hl => match us, hl with | [_, _, _], _ => rfl
theorem b_held_with_more (T : Txt K mg A D) : Binds K D.held_with_more ["held", "ware", "pieces"] [] := T.F_held_with_more.binds (ps := ["held", "ware", "pieces"]) fun _ _ _ _ _ _ us hl => match us, hl with | [_, _, _], _ => rfl
theorem b_Buy_held_behind (T : Txt K mg A D) : Binds K D.Buy_held_behind ["self", "held"] [] := T.F_Buy_held_behind.binds (ps := ["self", "held"]) fun _ _ _ _ _ _ us hl => match us, hl with | [_, _], _ => rfl
theorem b_Gift_held_behind (T : Txt K mg A D) : Binds K D.Gift_held_behind ["self", "held"] [] := T.F_Gift_held_behind.binds (ps := ["self", "held"]) fun _ _ _ _ _ _ us hl => match us, hl with | [_, _], _ => rfl
theorem b_Book_do (T : Txt K mg A D) : Binds K D.Book_do ["self", "entry"] [] := T.F_Book_do.binds (ps := ["self", "entry"]) fun _ _ _ _ _ _ us hl => match us, hl with | [_, _], _ => rfl
theorem b_Buy_word (T : Txt K mg A D) : Binds K D.Buy_word ["self"] [] := T.F_Buy_word.binds (ps := ["self"]) fun _ _ _ _ _ _ us hl => match us, hl with | [_], _ => rfl
theorem b_Gift_word (T : Txt K mg A D) : Binds K D.Gift_word ["self"] [] := T.F_Gift_word.binds (ps := ["self"]) fun _ _ _ _ _ _ us hl => match us, hl with | [_], _ => rfl
theorem b_Buy___init___7 (T : Txt K mg A D) : ∃ ds, Binds K D.Buy___init__ ["self", "day", "number", "ware", "pieces", "price", "fee"] ds /\ Vals (([V.int 0] : List V).drop 1) ds := T.F_Buy___init__.binds (ps := ["self", "day", "number", "ware", "pieces", "price", "fee"]) 1 fun Td kV doc pm an cdv ct its us h1 h2 => match its, h1, h2 with
 | [i0], _, h2 => by
  have h3 : us.length = 7 := by simpa using h2
  exact match us, h3 with | [u0, u1, u2, u3, u4, u5, u6], _ => ⟨_, rfl, rfl⟩
end
end My
namespace My
open PySem L2 PyProof.Rows
end My
namespace My
open PySem L2 PyProof.Rows
section
variable {P : Program} {w : World} {K : Fg_} {mg : Str -> Option Value} {base : Heap} {A : Adr} {D : Fds}
def sp__law_whole : Sp := fun vs H Q _ => ∃ i, vs = [.int i] /\ Q (.bl true) H
theorem map_get {ns : List Int} {i : Nat} {y : V} (h : (ns.map V.int)[i]? = some y) : ∃ z, y = V.int z /\ ns[i]? = some z := by
 rw [List.getElem?_map] at h
 cases e : ns[i]? with
 | none => rw [e] at h; cases h
 | some z => rw [e] at h; exact ⟨z, (Option.some.inj h).symm, rfl⟩
theorem tyL {K : Fg_} {H : Hp} {p : Addr} {xs : List V} (h : SqL K H p xs) : tyV K "list" (.ref p) H := .inl ⟨rfl, _, h⟩
end
end My
namespace My
open PySem L2 PyProof.Rows
section
variable {P : Program} {w : World} {K : Fg_} {mg : Str -> Option Value} {base : Heap} {A : Adr} {D : Fds}
theorem ok__law_whole (T : Txt K mg A D) : FnOk P w K mg base CX0 1 A._law_whole D._law_whole ["_law_found"] sp__law_whole := by
 refine T.F__law_whole.ok sc__law_whole (fun vs H Q E h => ?_) (fun cdv A outer s H vs Q E hr h => ?_)
 ·obtain ⟨i, rfl, _⟩ := h; rfl
 ·obtain ⟨i, rfl, k⟩ := h
  refine ⟨_, (pss_one (ps_ret (pe_and (pe_callB (call_isTK (K := K)) (by rfl) T.b_isinstance (by decide +kernel) (pa_cons (pv 0) (pa_cons (pe_ty "int" (by rfl) T.b_int (by decide +kernel)) pa_nil))) (pe_one (pe_not (pe_callB (call_isTK (K := K)) (by rfl) T.b_isinstance (by decide +kernel) (pa_cons (pv 0) (pa_cons (pe_ty "bool" (by rfl) T.b_bool (by decide +kernel)) pa_nil)))))))), ?_⟩
  walk_at "rd"
  refine ⟨_, .int i, true, by with_unfolding_all rfl, ?_⟩
  walk_at "rd"
  refine ⟨_, .int i, false, by with_unfolding_all rfl, ?_⟩
  walk_at "rd"
  exact k
end
end My
namespace My
open PySem L2 PyProof.Rows
section
variable {P : Program} {w : World} {K : Fg_} {mg : Str -> Option Value} {base : Heap} {A : Adr} {D : Fds}
def sp__law_cell_at (K : Fg_) : Sp := fun vs H Q _ => ∃ (a : Addr) (ns : List Int) (k : Nat), vs = [.ref a, .int k] /\ SqL K H a (ns.map V.int) /\ Q (.int (ns.getD k 0)) H
theorem ok__law_cell_at (T : Txt K mg A D) : FnOk P w K mg base CX0 1 A._law_cell_at D._law_cell_at ["_law_script", "_law_k"] (sp__law_cell_at K) := by
 refine T.F__law_cell_at.ok sc__law_cell_at (fun vs H Q E h => ?_) (fun cdv A outer s H vs Q E hr h => ?_)
 ·obtain ⟨a, ns, k', rfl, _⟩ := h; rfl
 ·obtain ⟨a, ns, k', rfl, hS, k⟩ := h
  refine ⟨_, (pss_cons (ps_if (pt_cmpR (op_lt) (pv 1) (pe_callB (call_lenK (K := K)) (by rfl) T.b_len (by decide +kernel) (pa_cons (pv 0) pa_nil)) (nomark _)) (pss_one (ps_ret (pe_ix (ix_listK (K := K)) (pv 0) (pv 1) (fun _ _ => rfl)))) pss_nil)
   (pss_one (ps_ret pe_int))), ?_⟩
  walk_at "rda"
  refine ⟨_, .inl hS, ?_⟩
  rw [List.length_map]
  by_cases h : k' < ns.length
  ·rw [if_pos (by omega)]
   refine ⟨_, hS, _, atI_nat (j := k') (v := .int (ns.getD k' 0)) ?_, k⟩
   rw [List.getElem?_map, List.getElem?_eq_getElem h, List.getD_eq_getElem?_getD, List.getElem?_eq_getElem h]
   rfl
  ·rw [if_neg (by omega)]
   rw [List.getD_eq_getElem?_getD, List.getElem?_eq_none (by omega)] at k
   exact k
end
end My
namespace My
open PySem L2 PyProof.Rows
section
variable {P : Program} {w : World} {K : Fg_} {mg : Str -> Option Value} {base : Heap} {A : Adr} {D : Fds}
def Nm (z : Str) : Prop := 1 <= z.length /\ z.length <= 8 /\ ∀ c ∈ z.cps.toList, 97 <= c /\ c <= 122
def sp_is_whole_number : Sp := fun vs H Q _ => ∃ i : Int, vs = [.int i] /\ Q (.bl true) H
theorem ok_is_whole_number (T : Txt K mg A D) : FnOk P w K mg base CX0 1 A.is_whole_number D.is_whole_number ["value"] sp_is_whole_number := by
 refine T.F_is_whole_number.ok sc_is_whole_number (fun vs H Q E h => ?_) (fun cdv A outer s H vs Q E hr h => ?_)
 ·obtain ⟨i, rfl, _⟩ := h; rfl
 ·obtain ⟨i, rfl, k⟩ := h
  refine ⟨_, (pss_one (ps_ret (pe_and (pe_callB (call_isTK (K := K)) (by rfl) T.b_isinstance (by decide +kernel) (pa_cons (pv 0) (pa_cons (pe_ty "int" (by rfl) T.b_int (by decide +kernel)) pa_nil))) (pe_one (pe_not (pe_callB (call_isTK (K := K)) (by rfl) T.b_isinstance (by decide +kernel) (pa_cons (pv 0) (pa_cons (pe_ty "bool" (by rfl) T.b_bool (by decide +kernel)) pa_nil)))))))), ?_⟩
  walk_at "rd"
  refine ⟨_, .int i, true, by with_unfolding_all rfl, ?_⟩
  walk_at "rd"
  refine ⟨_, .int i, false, by with_unfolding_all rfl, ?_⟩
  walk_at "rd"
  exact k
def sp_check_number : Sp := fun vs H Q _ => ∃ (z : Str) (i lo hi : Int), vs = [.str z, .int i, .int lo, .int hi] /\ lo <= i /\ i <= hi /\ Q .non H
theorem ok_check_number (T : Txt K mg A D) : FnOk P w K mg base CX0 2 A.check_number D.check_number ["what", "value", "least", "most"] sp_check_number := by
 refine T.F_check_number.ok sc_check_number (fun vs H Q E h => ?_) (fun cdv A outer s H vs Q E hr h => ?_)
 ·obtain ⟨z, i, lo, hi, rfl, _⟩ := h; rfl
 ·obtain ⟨z, i, lo, hi, rfl, h1, h2, k⟩ := h
  refine ⟨_, (pss_one (ps_if (PW.pt (pw_or (pt_not (pt_val (pe_call (ok_is_whole_number (K := K) T) (hr.mono (by decide)) (by rfl) T.m_is_whole_number T.k_is_whole_number (b_is_whole_number T) .nil pass0 (pa_cons (pv 1) pa_nil)))) (pw_or (pt_cmpR (op_lt) (pv 1) (pv 2) (nomark _)) (pw_or1 (pt_cmpR (op_gt) (pv 1) (pv 3) (nomark _)))))) (pss_one (ps_never)) pss_nil)), ?_⟩
  walk_at "rda"
  refine ⟨i, rfl, ?_⟩
  walk_at "rda"
  rw [if_neg (by omega), if_neg (by omega)]
  exact k
def sp_is_name : Sp := fun vs H Q _ => ∃ z : Str, vs = [.str z] /\ Nm z /\ ∀ H', Same H H' -> Q (.bl true) H'
theorem ok_is_name (T : Txt K mg A D) : FnOk P w K mg base CX0 1 A.is_name D.is_name ["value"] sp_is_name := by
 refine T.F_is_name.ok sc_is_name (fun vs H Q E h => ?_) (fun cdv A outer s H vs Q E hr h => ?_)
 ·obtain ⟨z, rfl, _⟩ := h; rfl
 ·obtain ⟨z, rfl, ⟨n1, n2, n3⟩, k⟩ := h
  refine ⟨_, (pss_cons (ps_if (PW.pt (pw_or (pt_not (pt_val (pe_callB (call_isTK (K := K)) (by rfl) T.b_isinstance (by decide +kernel) (pa_cons (pv 0) (pa_cons (pe_ty "str" (by rfl) T.b_str (by decide +kernel)) pa_nil))))) (pw_or (pt_cmpR (op_lt) (pe_callB call_len_str (by rfl) T.b_len (by decide +kernel) (pa_cons (pv 0) pa_nil)) pe_int (nomark _)) (pw_or1 (pt_cmpR (op_gt) (pe_callB call_len_str (by rfl) T.b_len (by decide +kernel) (pa_cons (pv 0) pa_nil)) (pe_glob (v := V.int 8) (by rfl) T.g_MOST_LETTERS ⟨_, rfl⟩) (nomark _)))))) (pss_one (ps_ret pe_bl)) pss_nil)
   (pss_one (ps_ret (pe_callB (call_allK (K := K) rfl) (by rfl) T.b_all (by decide +kernel) (pa_cons (pe_comp (cap := [Option.none]) (N' := ["sign"]) rfl (by walk_at "compok") (pi_str (pv 0)) (fun _ _ _ _ => (pg_name (i := 0) (show (["sign"] : List Str).Nodup from by decide +kernel) rfl (Or.inl rfl) (Or.inr rfl))) (fun _ _ _ _ => pts_nil) (fun _ _ _ _ => (pe_chain (op_le_str) (op_le_str) pe_str (pv 0) pe_str))) pa_nil))))), ?_⟩
  walk_at "rda"
  refine ⟨_, .str z, true, by with_unfolding_all rfl, ?_⟩
  walk_at "rda"
  have hz : z.length <= sizeLine := by rw [sizeLine_eq]; omega
  refine ⟨hz, ?_⟩
  rw [if_neg (by omega)]
  refine ⟨hz, ?_⟩
  rw [if_neg (by omega)]
  refine CompP.str (fun σ => ∃ v, σ = [v]) (fun _ => true) (fun _ => .bl true) ⟨Option.none, rfl⟩ hz ?_ ?_
  ·rintro x hx σ H5 R1 R2 ⟨v, rfl⟩ sm k1 k2
   obtain ⟨c, hc, rfl⟩ := List.mem_map.mp hx
   obtain ⟨c1, c2⟩ := n3 c hc
   walk_at "rd"
   have ea : (Str.ofString "a").cps.toList = [97] := by decide +kernel
   have ez : (Str.ofString "z").cps.toList = [122] := by decide +kernel
   rw [ea, ez]
   have h1 : ¬ [c] < [97] := fun h => by
    rcases List.cons_lt_cons_iff.mp h with h | h
    ·omega
    ·exact absurd h.2 (List.not_lt_nil _)
   have h2 : ¬ [122] < [c] := fun h => by
    rcases List.cons_lt_cons_iff.mp h with h | h
    ·omega
    ·exact absurd h.2 (List.not_lt_nil _)
   rw [if_pos h1, decide_eq_false h2]
   exact k1 rfl _ _ ⟨_, rfl⟩ (Same.refl _)
  ·intro Da H' hD sm e
   rw [filt_true] at e
   walk_at "rda"
   refine ⟨(L2.signs z).map fun _ => true, SqL.of (by rw [e, List.map_map]; rfl), ?_⟩
   have : ((L2.signs z).map fun _ => true).all id = true := by simp
   rw [this]
   exact k H' sm
def sp_check_name : Sp := fun vs H Q _ => ∃ (t z : Str), vs = [.str t, .str z] /\ Nm z /\ ∀ H', Same H H' -> Q .non H'
theorem ok_check_name (T : Txt K mg A D) : FnOk P w K mg base CX0 2 A.check_name D.check_name ["what", "value"] sp_check_name := by
 refine T.F_check_name.ok sc_check_name (fun vs H Q E h => ?_) (fun cdv A outer s H vs Q E hr h => ?_)
 ·obtain ⟨t, z, rfl, _⟩ := h; rfl
 ·obtain ⟨t, z, rfl, hn, k⟩ := h
  refine ⟨_, (pss_one (ps_if (pt_not (pt_val (pe_call (ok_is_name (K := K) T) (hr.mono (by decide)) (by rfl) T.m_is_name T.k_is_name (b_is_name T) .nil pass0 (pa_cons (pv 1) pa_nil)))) (pss_one (ps_never)) pss_nil)), ?_⟩
  walk_at "rda"
  refine ⟨z, rfl, hn, fun H' sm => ?_⟩
  walk_at "rda"
  exact k H' sm
def sp_check_trade : Sp := fun vs H Q _ => ∃ (p r f : Int), vs = [.int p, .int r, .int f] /\ (1 <= p /\ p <= 1000000000) /\ (0 <= r /\ r <= 1000000000) /\ (0 <= f /\ f <= 1000000000) /\ Q .non H
theorem ok_check_trade (T : Txt K mg A D) : FnOk P w K mg base CX0 3 A.check_trade D.check_trade ["pieces", "price", "fee"] sp_check_trade := by
 refine T.F_check_trade.ok sc_check_trade (fun vs H Q E h => ?_) (fun cdv A outer s H vs Q E hr h => ?_)
 ·obtain ⟨p, r, f, rfl, _⟩ := h; rfl
 ·obtain ⟨p, r, f, rfl, h1, h2, h3, k⟩ := h
  refine ⟨_, (pss_cons (ps_expr (pe_call (ok_check_number (K := K) T) (hr.mono (by decide)) (by rfl) T.m_check_number T.k_check_number (b_check_number T) .nil pass0 (pa_cons pe_str (pa_cons (pv 0) (pa_cons pe_int (pa_cons (pe_glob (v := V.int 1000000000) (by rfl) T.g_MOST_PIECES ⟨_, rfl⟩) pa_nil))))))
   (pss_cons (ps_expr (pe_call (ok_check_number (K := K) T) (hr.mono (by decide)) (by rfl) T.m_check_number T.k_check_number (b_check_number T) .nil pass0 (pa_cons pe_str (pa_cons (pv 1) (pa_cons pe_int (pa_cons (pe_glob (v := V.int 1000000000) (by rfl) T.g_MOST_PRICE ⟨_, rfl⟩) pa_nil))))))
   (pss_one (ps_expr (pe_call (ok_check_number (K := K) T) (hr.mono (by decide)) (by rfl) T.m_check_number T.k_check_number (b_check_number T) .nil pass0 (pa_cons pe_str (pa_cons (pv 2) (pa_cons pe_int (pa_cons (pe_glob (v := V.int 1000000000) (by rfl) T.g_MOST_FEE ⟨_, rfl⟩) pa_nil))))))))), ?_⟩
  walk_at "rda"
  refine ⟨_, _, _, _, rfl, h1.1, h1.2, ?_⟩
  walk_at "rda"
  refine ⟨_, _, _, _, rfl, h2.1, h2.2, ?_⟩
  walk_at "rda"
  refine ⟨_, _, _, _, rfl, h3.1, h3.2, ?_⟩
  exact k
theorem putF_at {f : Str} {v : V} {fs : List (Str × V)} (ns : List Str) (e : fs.map (·.1) = ns) (h : ns.contains f = false) : putF f v fs = fs ++ [(f, v)] := putF_new f v (e ▸ h)
def fsE (d n : Int) (w : Str) : List (Str × V) := [("day", .int d), ("number", .int n), ("ware", .str w)]
structure Base (d n : Int) (w : Str) : Prop where
 d0 : 0 <= d
 d1 : d <= 1000000
 n0 : 0 <= n
 n1 : n <= 1000000
 w : Nm w
structure CE (K : Fg_) (C : Addr) : Prop where
 c : Cls K C
 d : NoAttr K C "day"
 n : NoAttr K C "number"
 w : NoAttr K C "ware"
structure New (B H : Hp) (x : Addr) (C dx : Addr) (fs : List (Str × V)) : Prop where
 s : Same B H
 n : B x = Option.none
 h : H x = some (.ins C dx fs)
theorem New.put {B H : Hp} {x C dx : Addr} {fs gs : List (Str × V)} (h : New B H x C dx fs) (e : gs = gs) : New B (upd H x (.ins C dx gs)) x C dx gs := ⟨h.s.upd h.n, h.n, upd_same⟩
theorem New.same {B H H' : Hp} {x C dx : Addr} {fs : List (Str × V)} (h : New B H x C dx fs) (e : Same H H') : New B H' x C dx fs := ⟨h.s.trans e, h.n, e _ _ h.h⟩
def sp_Entry___init__ (K : Fg_) : Sp := fun vs H Q _ => ∃ (x : Addr) (d n : Int) (w : Str) (B : Hp) (C dx : Addr), vs = [.ref x, .int d, .int n, .str w] /\ New B H x C dx [] /\ CE K C /\ Base d n w /\
 ∀ H', New B H' x C dx (fsE d n w) -> Q .non H'
theorem ok_Entry___init__ (T : Txt K mg A D) : FnOk P w K mg base CX0 3 A.Entry___init__ D.Entry___init__ ["self", "day", "number", "ware"] (sp_Entry___init__ K) := by
 refine T.F_Entry___init__.ok sc_Entry___init__ (fun vs H Q E h => ?_) (fun cdv A outer s H vs Q E hr h => ?_)
 ·obtain ⟨x, d, n, w, B, C, dx, rfl, _⟩ := h; rfl
 ·obtain ⟨x, d, n, w, B, C, dx, rfl, hN, hC, hB, k⟩ := h
  refine ⟨_, (pss_cons (ps_expr (pe_call (ok_check_number (K := K) T) (hr.mono (by decide)) (by rfl) T.m_check_number T.k_check_number (b_check_number T) .nil pass0 (pa_cons pe_str (pa_cons (pv 1) (pa_cons pe_int (pa_cons (pe_glob (v := V.int 1000000) (by rfl) T.g_MOST_DAY ⟨_, rfl⟩) pa_nil))))))
   (pss_cons (ps_expr (pe_call (ok_check_number (K := K) T) (hr.mono (by decide)) (by rfl) T.m_check_number T.k_check_number (b_check_number T) .nil pass0 (pa_cons pe_str (pa_cons (pv 2) (pa_cons pe_int (pa_cons (pe_glob (v := V.int 1000000) (by rfl) T.g_MOST_NUMBER ⟨_, rfl⟩) pa_nil))))))
   (pss_cons (ps_expr (pe_call (ok_check_name (K := K) T) (hr.mono (by decide)) (by rfl) T.m_check_name T.k_check_name (b_check_name T) .nil pass0 (pa_cons pe_str (pa_cons (pv 3) pa_nil))))
   (pss_cons (ps_fldK (K := K) (pv 0) (pv 1) rfl)
   (pss_cons (ps_fldK (K := K) (pv 0) (pv 2) rfl)
   (pss_one (ps_fldK (K := K) (pv 0) (pv 3) rfl))))))), ?_⟩
  walk_at "rda"
  refine ⟨_, _, _, _, rfl, hB.d0, hB.d1, ?_⟩
  walk_at "rda"
  refine ⟨_, _, _, _, rfl, hB.n0, hB.n1, ?_⟩
  walk_at "rda"
  refine ⟨_, _, rfl, hB.w, fun H' sm => ?_⟩
  walk_at "rda"
  have hN := hN.same sm
  refine ⟨C, dx, _, hN.h, hC.c, hC.d, by decide, ?_⟩
  rw [putF_new _ _ (by decide +kernel)]
  have hN := hN.put (gs := [] ++ [(Str.ofString "day", V.int d)]) rfl
  refine ⟨C, dx, _, hN.h, hC.c, hC.n, by simp, ?_⟩
  rw [putF_at (f := Str.ofString "number") ["day"] (by rfl) (by decide +kernel)]
  have hN := hN.put (gs := ([] ++ [(Str.ofString "day", V.int d)]) ++ [(Str.ofString "number", V.int n)]) rfl
  refine ⟨C, dx, _, hN.h, hC.c, hC.w, by simp, ?_⟩
  rw [putF_at (f := Str.ofString "ware") ["day", "number"] (by rfl) (by decide +kernel)]
  exact k _ (hN.put rfl)
end
end My
namespace My
open PySem L2 PyProof.Rows
section
variable {P : Program} {w : World} {K : Fg_} {mg : Str -> Option Value} {base : Heap} {A : Adr} {D : Fds}
structure LotD where
 n : Int
 s : Int
 p : Int
 c : Int
def LotD.fs (d : LotD) : List (Str × V) := [("number", .int d.n), ("since", .int d.s), ("pieces", .int d.p), ("cost", .int d.c)]
def LotD.is (d : LotD) : List Int := [d.n, d.s, d.p, d.c]
def LotD.vs (d : LotD) : List V := [.int d.n, .int d.s, .int d.p, .int d.c]
def IsLot (A : Adr) (H : Hp) (x : Addr) (d : LotD) : Prop := ∃ dx, H x = some (.ins A.C_Lot dx d.fs)
theorem IsLot.same {H H' : Hp} {x : Addr} {d : LotD} (h : IsLot A H x d) (s : Same H H') : IsLot A H' x d := let ⟨dx, e⟩ := h; ⟨dx, s _ _ e⟩
theorem IsLot.but {H H' : Hp} {D : Addr} {x : Addr} {d : LotD} (h : IsLot A H x d) (hne : x ≠ D) (s : But D H H') : IsLot A H' x d := let ⟨dx, e⟩ := h; ⟨dx, s _ _ hne e⟩
def Bd (i : Int) : Prop := -(2 ^ 500) < i /\ i < 2 ^ 500
theorem Bd.mul {i j : Int} (h : Bd i) (h' : Bd j) : CMulU i j := by
 have h1 := h.1; have h2 := h.2; have h3 := h'.1; have h4 := h'.2
 refine CMulU.big ?_ ?_
 ·have : i.natAbs < 2 ^ 500 := by omega
  exact Nat.lt_of_lt_of_le this (Nat.pow_le_pow_right (by decide) (by decide))
 ·have : j.natAbs < 2 ^ 500 := by omega
  exact Nat.lt_of_lt_of_le this (Nat.pow_le_pow_right (by decide) (by decide))
theorem new_mk {H : Hp} {x C dx : Addr} (hx : H x = Option.none) (hdx : H dx = Option.none) : New H (upd (upd H dx (.own x)) x (.ins C dx [])) x C dx [] := ⟨(Same.new hdx).upd hx, hx, upd_same⟩
def sp_Lot___init__ (A : Adr) : Sp := fun vs H Q _ => ∃ (x : Addr) (d : LotD) (B : Hp) (dx : Addr), vs = .ref x :: d.vs /\ New B H x A.C_Lot dx [] /\ ∀ H', New B H' x A.C_Lot dx d.fs -> Q .non H'
theorem ok_Lot___init__ (T : Txt K mg A D) : FnOk P w K mg base CX0 1 A.Lot___init__ D.Lot___init__ ["self", "number", "since", "pieces", "cost"] (sp_Lot___init__ A) := by
 refine T.F_Lot___init__.ok sc_Lot___init__ (fun vs H Q E h => ?_) (fun cdv A' outer s H vs Q E hr h => ?_)
 ·obtain ⟨x, d, B, dx, rfl, _⟩ := h; rfl
 ·obtain ⟨x, ⟨n, s, p, c⟩, B, dx, rfl, hN, k⟩ := h
  refine ⟨_, (pss_cons (ps_fldK (K := K) (pv 0) (pv 1) rfl)
   (pss_cons (ps_fldK (K := K) (pv 0) (pv 2) rfl)
   (pss_cons (ps_fldK (K := K) (pv 0) (pv 3) rfl)
   (pss_one (ps_fldK (K := K) (pv 0) (pv 4) rfl))))), ?_⟩
  simp only [LotD.vs]
  walk_at "rda"
  refine ⟨_, dx, _, hN.h, T.cl_Lot, T.n_Lot_number, by decide, ?_⟩
  rw [putF_new _ _ (by decide +kernel)]
  have hN := hN.put (gs := [] ++ [(Str.ofString "number", V.int n)]) rfl
  refine ⟨_, dx, _, hN.h, T.cl_Lot, T.n_Lot_since, by simp, ?_⟩
  rw [putF_at (f := Str.ofString "since") ["number"] (by rfl) (by decide +kernel)]
  have hN := hN.put (gs := ([] ++ [(Str.ofString "number", V.int n)]) ++ [(Str.ofString "since", V.int s)]) rfl
  refine ⟨_, dx, _, hN.h, T.cl_Lot, T.n_Lot_pieces, by simp, ?_⟩
  rw [putF_at (f := Str.ofString "pieces") ["number", "since"] (by rfl) (by decide +kernel)]
  have hN := hN.put (gs := (([] ++ [(Str.ofString "number", V.int n)]) ++ [(Str.ofString "since", V.int s)]) ++ [(Str.ofString "pieces", V.int p)]) rfl
  refine ⟨_, dx, _, hN.h, T.cl_Lot, T.n_Lot_cost, by simp, ?_⟩
  rw [putF_at (f := Str.ofString "cost") ["number", "since", "pieces"] (by rfl) (by decide +kernel)]
  exact k _ (hN.put rfl)
def sp_Lot_told (A : Adr) : Sp := fun vs H Q _ => ∃ (x : Addr) (d : LotD), vs = [.ref x] /\ IsLot A H x d /\ ∀ t, H t = Option.none -> Q (.ref t) (upd H t (.tup d.vs))
theorem ok_Lot_told (T : Txt K mg A D) : FnOk P w K mg base CX0 1 A.Lot_told D.Lot_told ["self"] (sp_Lot_told A) := by
 refine T.F_Lot_told.ok sc_Lot_told (fun vs H Q E h => ?_) (fun cdv A' outer s H vs Q E hr h => ?_)
 ·obtain ⟨x, d, rfl, _⟩ := h; rfl
 ·obtain ⟨x, ⟨n, s, p, c⟩, rfl, ⟨dx, hx⟩, k⟩ := h
  refine ⟨_, (pss_one (ps_ret (pe_tup (pa_cons (pe_fldK (K := K) (pv 0) rfl) (pa_cons (pe_fldK (K := K) (pv 0) rfl) (pa_cons (pe_fldK (K := K) (pv 0) rfl) (pa_cons (pe_fldK (K := K) (pv 0) rfl) pa_nil))))))), ?_⟩
  walk_at "rda"
  refine ⟨_, dx, _, hx, T.cl_Lot, T.n_Lot_number, _, by rfl, ?_⟩
  refine ⟨_, dx, _, hx, T.cl_Lot, T.n_Lot_since, _, by rfl, ?_⟩
  refine ⟨_, dx, _, hx, T.cl_Lot, T.n_Lot_pieces, _, by rfl, ?_⟩
  refine ⟨_, dx, _, hx, T.cl_Lot, T.n_Lot_cost, _, by rfl, ?_⟩
  exact ⟨by rw [sizeLine_eq]; decide, fun t ht => k t ht⟩
theorem spLot_of {R : Hp -> Prop} {E : XK} {H : Hp} {x dx : Addr} (d : LotD) (hx : H x = Option.none) (hdx : H dx = Option.none) (k : ∀ H', Same H H' -> IsLot A H' x d -> R H') :
  sp_Lot___init__ A (.ref x :: d.vs) (upd (upd H dx (.own x)) x (.ins A.C_Lot dx [])) (fun v H2 => v = .non /\ R H2) E :=
 ⟨x, d, H, dx, rfl, new_mk hx hdx, fun H' hN => ⟨rfl, k H' hN.s ⟨dx, hN.h⟩⟩⟩
end
end My
namespace My
open PySem L2 PyProof.Rows
section
variable {P : Program} {w : World} {K : Fg_} {mg : Str -> Option Value} {base : Heap} {A : Adr} {D : Fds}
local macro_rules | `(tactic| walk_at "nx") => `(tactic| ((try dsimp only); rw [ap_seq]; walk_at "rdi"))
abbrev RL := List (Addr × LotD)
def refsR (rs : RL) : List V := rs.map fun r => V.ref r.1
def RowAt (H : Hp) (rs : RL) : Prop := ∀ r ∈ rs, H r.1 = some (.tup r.2.vs)
def LotAt (A : Adr) (H : Hp) (rs : RL) : Prop := ∀ r ∈ rs, IsLot A H r.1 r.2
theorem RowAt.same {H H' : Hp} {rs : RL} (h : RowAt H rs) (s : Same H H') : RowAt H' rs := fun r hr => s _ _ (h r hr)
theorem LotAt.same {H H' : Hp} {rs : RL} (h : LotAt A H rs) (s : Same H H') : LotAt A H' rs := fun r hr => (h r hr).same s
structure Good (d : LotD) : Prop where
 n : 0 <= d.n /\ d.n <= 1000000
 s : 0 <= d.s /\ d.s <= 1000000
 p : 1 <= d.p /\ d.p <= 1000000000
 c : 0 <= d.c /\ d.c <= 1000000000000000000
theorem refsR_get {rs : RL} {i : Nat} {y : V} (h : (refsR rs)[i]? = some y) : ∃ r, rs[i]? = some r /\ y = .ref r.1 := by
 unfold refsR at h
 rw [List.getElem?_map] at h
 cases e : rs[i]? with
 | none => rw [e] at h; cases h
 | some r => rw [e] at h; exact ⟨r, rfl, (Option.some.inj h).symm⟩
theorem refsR_len (rs : RL) : (refsR rs).length = rs.length := by unfold refsR; rw [List.length_map]
theorem get_mem {rs : RL} {i : Nat} {r : Addr × LotD} (h : rs[i]? = some r) : r ∈ rs := List.mem_of_getElem? h
theorem refs_of (F : V -> Hp -> Addr × LotD -> Prop) {acc : List V} {H : Hp} : ∀ {ds : List LotD}, acc.length = ds.length -> (∀ (i : Nat) v, acc[i]? = some v -> ∃ b d, ds[i]? = some d /\ v = .ref b /\ F v H (b, d)) ->
  ∃ rs : RL, acc = refsR rs /\ rs.map (·.2) = ds /\ ∀ r ∈ rs, F (.ref r.1) H r := by
 induction acc with
 | nil =>
  intro ds hl _
  cases ds with
  | nil => exact ⟨[], rfl, rfl, fun r h => by cases h⟩
  | cons _ _ => simp at hl
 | cons v acc ih =>
  intro ds hl h
  cases ds with
  | nil => simp at hl
  | cons d ds =>
   obtain ⟨b, d', e, rfl, hf⟩ := h 0 v rfl
   cases e
   obtain ⟨rs, e1, e2, e3⟩ := ih (ds := ds) (by simpa using hl) fun i v hv => h (i + 1) v hv
   refine ⟨(b, d) :: rs, by rw [e1]; rfl, by rw [List.map_cons, e2], fun r hr => ?_⟩
   rcases List.mem_cons.mp hr with rfl | hr
   ·exact hf
   ·exact e3 r hr
end
end My
namespace My
open PySem L2 PyProof.Rows
section
variable {P : Program} {w : World} {K : Fg_} {mg : Str -> Option Value} {base : Heap} {A : Adr} {D : Fds}
local macro_rules | `(tactic| walk_at "nx") => `(tactic| ((try dsimp only); rw [ap_seq]; walk_at "rdi"))
theorem cp_of {e : Int} (h1 : 0 <= e) (h2 : e <= 1000000) : CPow 10 e := ⟨h1, h2, by decide⟩
theorem cp2_of {e : Int} (h1 : 0 <= e) (h2 : e <= 1000000) : CPow 2 e := ⟨h1, h2, by decide⟩
def sp__law_mixed : Sp := fun vs H Q _ => ∃ (c : Int) (k : Int), vs = [.int c, .int k] /\ 0 <= k /\ k <= 1000 /\ ∀ r : Int, 0 <= r -> r < 2305843009213693921 -> Q (.int r) H
theorem ok__law_mixed (T : Txt K mg A D) : FnOk P w K mg base CX0 1 A._law_mixed D._law_mixed ["_law_cell", "_law_k"] sp__law_mixed := by
 refine T.F__law_mixed.ok sc__law_mixed (fun vs H Q E h => ?_) (fun cdv A' outer s H vs Q E hr h => ?_)
 ·obtain ⟨c, k, rfl, _⟩ := h; rfl
 ·obtain ⟨c, k', rfl, hk0, hk, k⟩ := h
  refine ⟨_, (pss_cons (ps_set (i := 2) sc__law_mixed.nd rfl (Or.inl rfl) (pe_op op_mod (pe_op op_mulU (pe_op op_add (pe_op op_add (pe_op op_mod (pv 0) (pe_op op_pow pe_int pe_int)) (pe_op op_mulU (pe_op op_mulU pe_int (pv 1)) (pv 1))) (pv 1)) pe_int) pe_int))
   (pss_one (ps_ret (pe_op op_mod (pe_op op_add (pe_op op_mulU (pv 2) pe_int) pe_int) pe_int)))), ?_⟩
  walk_at "rd"
  have h1 : 0 <= 7919 * k' * k' /\ 7919 * k' * k' <= 7919 * 1000 * 1000 := ⟨Int.mul_nonneg (by omega) (by omega), Int.mul_le_mul (by omega) (by omega) (by omega) (by omega)⟩
  have h2 : 0 <= c % 10 ^ Int.toNat 30 /\ c % 10 ^ Int.toNat 30 < 10 ^ 30 := ⟨Int.emod_nonneg _ (by decide), Int.emod_lt_of_pos _ (by decide)⟩
  generalize 7919 * k' * k' = u at h1
  generalize c % 10 ^ Int.toNat 30 = v at h2
  have h3 : 0 <= (v + u + k') * 48271 % 2305843009213693951 /\ (v + u + k') * 48271 % 2305843009213693951 < 2305843009213693951 := ⟨Int.emod_nonneg _ (by decide), Int.emod_lt_of_pos _ (by decide)⟩
  refine ⟨cp_of (by decide) (by decide), by decide, CMulU.l (by decide) (by decide), CMulU.r (by omega) (by omega), CMulU.r (by decide) (by decide), by decide, (Bd.mul ⟨by omega, by omega⟩ ⟨by decide, by decide⟩), by decide, k _ (Int.emod_nonneg _ (by decide)) (Int.emod_lt_of_pos _ (by decide))⟩
def sp__law_small : Sp := fun vs H Q _ => ∃ n m : Int, vs = [.int n, .int m] /\ 0 < m /\ ∀ r H', 0 <= r -> r < m -> Same H H' -> Q (.int r) H'
theorem ok__law_small (T : Txt K mg A D) : FnOk P w K mg base CX0 1 A._law_small D._law_small ["_law_number", "_law_most"] sp__law_small := by
 refine T.F__law_small.ok sc__law_small (fun vs H Q E h => ?_) (fun cdv A' outer s H vs Q E hr h => ?_)
 ·obtain ⟨n, m, rfl, _⟩ := h; rfl
 ·obtain ⟨n, m, rfl, hm, k⟩ := h
  refine ⟨_, (pss_one (ps_ret (pe_ix (ix_listK (K := K)) (pe_lst (pa_cons (pe_op op_mod (pe_op op_fdivB (pv 0) pe_int) (pe_callB (call_minK rfl) (by rfl) T.b_min (by decide +kernel) (pa_cons (pv 1) (pa_cons pe_int pa_nil)))) (pa_cons (pe_op op_mod (pe_op op_fdivB (pv 0) pe_int) (pv 1)) pa_nil))) (pe_op op_mod (pv 0) pe_int) (fun _ _ => rfl)))), ?_⟩
  walk_at "rd"
  have hm8 : 0 < if 8 < m then 8 else m := by split <;> omega
  have c2 : CDivB n 2 := ⟨by decide, by decide⟩
  refine ⟨c2, hm8, c2, hm, by rw [sizeLine_eq]; decide, fun p hp => ⟨by decide, _, SqL.of upd_same, ?_⟩⟩
  rcases (show n % 2 = 0 \/ n % 2 = 1 by omega) with e | e
  ·rw [e]
   refine ⟨_, rfl, k _ _ (Int.emod_nonneg _ (by omega)) ?_ (Same.new hp)⟩
   have := Int.emod_lt_of_pos (n / 2) hm8
   split at this <;> (try split) <;> omega
  ·rw [e]
   exact ⟨_, rfl, k _ _ (Int.emod_nonneg _ (by omega)) (Int.emod_lt_of_pos _ hm) (Same.new hp)⟩
def sp__law_chunks (K : Fg_) : Sp := fun vs H Q _ => ∃ (a : Addr) (ns : List Int), vs = [.ref a, .int 25] /\ SqL K H a (ns.map V.int) /\ ns.length <= 63 /\
 ∀ (p : Addr) (xs : List Int) H', Same H H' -> H p = Option.none -> H' p = some (.lst (xs.map V.int)) -> xs.length = 25 -> Q (.ref p) H'
theorem ok__law_chunks (T : Txt K mg A D) : FnOk P w K mg base CX0 2 A._law_chunks D._law_chunks ["_law_script", "_law_many"] (sp__law_chunks K) := by
 refine T.F__law_chunks.ok sc__law_chunks (fun vs H Q E h => ?_) (fun cdv A' outer s0 H vs Q E hr h => ?_)
 ·obtain ⟨a, ns, rfl, _⟩ := h; rfl
 ·obtain ⟨a, ns, rfl, hS, hl, k⟩ := h
  refine ⟨_, (pss_cons (ps_set (i := 2) sc__law_chunks.nd rfl (Or.inl rfl) (pe_lst pa_nil))
   (pss_cons (ps_set (i := 3) sc__law_chunks.nd rfl (Or.inl rfl) (pe_call (ok__law_cell_at (K := K) T) (hr.mono (by decide)) (by rfl) T.m__law_cell_at T.k__law_cell_at (b__law_cell_at T) .nil pass0 (pa_cons (pv 0) (pa_cons pe_int pa_nil))))
   (pss_cons (ps_set (i := 4) sc__law_chunks.nd rfl (Or.inl rfl) (pe_cmpR (op_eq) (pe_op op_mod (pv 3) pe_int) pe_int (nomark _)))
   (pss_cons (ps_set (i := 3) sc__law_chunks.nd rfl (Or.inl rfl) (pe_op op_fdivB (pv 3) pe_int))
   (pss_cons (ps_for PassesOwn.never rfl (pi_range1 (by rfl) T.b_range (pa_cons (pv 1) pa_nil)) (pg_name (i := 5) sc__law_chunks.nd rfl (Or.inl rfl))
    (pss_one (ps_if (pt_val (pv 4)) (pss_cons (ps_expr (pe_bmK (K := K) PySem.F.plainAttrs_list PySem.F.slot_list_append PySem.F.type_list_append mt_append (pv 2) (pa_cons (pe_op op_mod (pv 3) (pe_op op_pow pe_int pe_int)) pa_nil)))
     (pss_cons (ps_set (i := 3) sc__law_chunks.nd rfl (Or.inl rfl) (pe_op op_fdivB (pv 3) (pe_op op_pow pe_int pe_int)))
     (pss_one (ps_if (pt_cmpR (op_eq) (pv 3) pe_int (nomark _)) (pss_one (ps_set (i := 3) sc__law_chunks.nd rfl (Or.inl rfl) (pe_call (ok__law_cell_at (K := K) T) (hr.mono (by decide)) (by rfl) T.m__law_cell_at T.k__law_cell_at (b__law_cell_at T) .nil pass0 (pa_cons (pv 0) (pa_cons (pe_op op_add pe_int (pe_op op_mod (pv 5) pe_int)) pa_nil))))) pss_nil)))) (pss_cons (ps_set (i := 6) sc__law_chunks.nd rfl (Or.inl rfl) (pe_call (ok__law_cell_at (K := K) T) (hr.mono (by decide)) (by rfl) T.m__law_cell_at T.k__law_cell_at (b__law_cell_at T) .nil pass0 (pa_cons (pv 0) (pa_cons (pe_op op_mod (pv 5) (pe_callB (call_maxK rfl) (by rfl) T.b_max (by decide +kernel) (pa_cons pe_int (pa_cons (pe_callB (call_minK rfl) (by rfl) T.b_min (by decide +kernel) (pa_cons (pe_callB (call_lenK (K := K)) (by rfl) T.b_len (by decide +kernel) (pa_cons (pv 0) pa_nil)) (pa_cons pe_int pa_nil))) pa_nil)))) pa_nil))))
     (pss_cons (ps_set (i := 7) sc__law_chunks.nd rfl (Or.inl rfl) (pe_op op_add (pe_call (ok__law_mixed (K := K) T) (hr.mono (by decide)) (by rfl) T.m__law_mixed T.k__law_mixed (b__law_mixed T) .nil pass0 (pa_cons (pv 6) (pa_cons (pe_op op_mulU pe_int (pv 5)) pa_nil))) (pe_op op_mulU (pe_call (ok__law_mixed (K := K) T) (hr.mono (by decide)) (by rfl) T.m__law_mixed T.k__law_mixed (b__law_mixed T) .nil pass0 (pa_cons (pv 6) (pa_cons (pe_op op_add (pe_op op_mulU pe_int (pv 5)) pe_int) pa_nil))) (pe_op op_pow pe_int pe_int))))
     (pss_one (ps_expr (pe_bmK (K := K) PySem.F.plainAttrs_list PySem.F.slot_list_append PySem.F.type_list_append mt_append (pv 2) (pa_cons (pe_op op_add (pv 7) (pe_op op_mulU (pe_op op_mulU (pe_call (ok__law_mixed (K := K) T) (hr.mono (by decide)) (by rfl) T.m__law_mixed T.k__law_mixed (b__law_mixed T) .nil pass0 (pa_cons (pv 6) (pa_cons (pe_op op_add (pe_op op_mulU pe_int (pv 5)) pe_int) pa_nil))) (pe_op op_pow pe_int pe_int)) (pe_op op_pow pe_int pe_int))) pa_nil)))))))))
   (pss_one (ps_ret (pv 2)))))))), ?_⟩
  simp only [start_eq]
  walk_at "nx"
  refine ⟨by rw [sizeLine_eq]; decide, fun p hp => ?_⟩
  have s1 := Same.new (o := .lst []) hp
  have h1 : (upd H p (.lst [])) p = some (.lst []) := upd_same
  generalize upd H p (.lst []) = H1 at s1 h1
  walk_at "nx"
  refine ⟨a, ns, 0, rfl, s1.seq hS, ?_⟩
  walk_at "nx"
  refine ⟨by decide, ?_⟩
  walk_at "nx"
  refine ⟨⟨by decide, by decide⟩, ?_⟩
  rw [ap_seq, ap_for]
  walk_at "rdi"
  refine ⟨by decide, by decide, ?_⟩
  rw [show Int.toNat 25 = 25 from rfl]
  generalize decide (List.getD ns 0 0 % 2 = 1) = b
  generalize List.getD ns 0 0 / 2 = rest0
  refine ForP.range (lo := 0) (n := 25) (fun i σ H2 => ∃ (xs : List Int) (rest : Int) (v5 v6 v7 : Option V), xs.length = i /\ σ = [some (.ref a), some (.int 25), some (.ref p), some (.int rest), some (.bl b), v5, v6, v7] /\ Same H H2 /\ H2 p = some (.lst (xs.map V.int)))
   ⟨[], _, _, _, _, rfl, rfl, s1, h1⟩ ?_ ?_
  ·rintro i σ H2 hi ⟨xs, rest, v5, v6, v7, hxl, rfl, s2, h2⟩
   have hsz : (xs.map V.int).length < sizeLine := by rw [List.length_map, sizeLine_eq]; omega
   walk_at "rdi"
   cases b with
   | true =>
    rw [if_pos rfl]
    walk_at "nx"
    refine ⟨tyL (SqL.of h2), cp_of (by decide) (by decide), by decide, _, h2, hsz, ?_⟩
    obtain ⟨H3, e3⟩ : ∃ H3, upd H2 p (.lst (xs.map V.int ++ [V.int (rest % 10 ^ Int.toNat 50)])) = H3 := ⟨_, rfl⟩
    have s3 : Same H H3 := e3 ▸ s2.upd hp
    have h3 : H3 p = some (.lst ((xs ++ [rest % 10 ^ Int.toNat 50]).map V.int)) := by rw [<- e3, upd_same, List.map_append]; rfl
    have l3 : (xs ++ [rest % 10 ^ Int.toNat 50]).length = i + 1 := by rw [List.length_append, hxl]; rfl
    rw [e3]
    walk_at "nx"
    refine ⟨cp_of (by decide) (by decide), ⟨by decide, by decide⟩, ?_⟩
    refine ite2 (fun _ => ⟨by decide, a, ns, (1 + (0 + (i : Int)) % 62).toNat, ?_, s3.seq hS, _, l3, _, rfl, s3, h3⟩) fun _ => ⟨_, l3, s3, h3⟩
    rw [Int.toNat_of_nonneg (by omega)]
   | false =>
    rw [if_neg (by decide)]
    walk_at "nx"
    refine ⟨_, .inl (s2.seq hS), ?_⟩
    rw [List.length_map]
    have hm : 0 < (if (if (63 : Int) < (ns.length : Int) then (63 : Int) else (ns.length : Int)) > 1 then (if (63 : Int) < (ns.length : Int) then (63 : Int) else (ns.length : Int)) else 1) := by split <;> omega
    generalize (if (if (63 : Int) < (ns.length : Int) then (63 : Int) else (ns.length : Int)) > 1 then (if (63 : Int) < (ns.length : Int) then (63 : Int) else (ns.length : Int)) else 1) = m at hm
    refine ⟨hm, a, ns, ((0 + (i : Int)) % m).toNat, ?_, s2.seq hS, ?_⟩
    ·rw [Int.toNat_of_nonneg (Int.emod_nonneg _ (by omega))]
    generalize List.getD ns _ 0 = cl
    walk_at "nx"
    have hk : ∀ j : Int, 0 <= j -> j <= 2 -> 0 <= 3 * (0 + (i : Int)) + j /\ 3 * (0 + (i : Int)) + j <= 1000 := fun j h1 h2 => by omega
    have b61 : ∀ r : Int, 0 <= r -> r < 2305843009213693921 -> CMulU r (2 ^ Int.toNat 61) := fun r h1 h2 => CMulU.r (by decide) (by decide)
    have c3 : CMulU 3 (0 + (i : Int)) := CMulU.l (by decide) (by decide)
    refine ⟨c3, _, _, rfl, by omega, by omega, fun r1 h11 h12 => ⟨c3, _, _, rfl, (hk 1 (by decide) (by decide)).1, (hk 1 (by decide) (by decide)).2, fun r2 h21 h22 => ⟨cp2_of (by decide) (by decide), _, rfl, b61 r2 h21 h22, _, rfl, tyL (SqL.of h2), c3, _, _, rfl, (hk 2 (by decide) (by decide)).1, (hk 2 (by decide) (by decide)).2, fun r3 h31 h32 =>
     ⟨cp2_of (by decide) (by decide), _, rfl, b61 r3 h31 h32, cp2_of (by decide) (by decide), CMulU.r (by decide) (by decide), _, h2, hsz, xs ++ [_], by rw [List.length_append, hxl]; rfl, s2.upd hp, by rw [upd_same, List.map_append]; rfl⟩⟩⟩⟩
  ·rintro σ H2 ⟨xs, rest, v5, v6, v7, hxl, rfl, s2, h2⟩
   walk_at "rda"
   exact k p xs H2 s2 hp h2 hxl
end
end My
namespace My
open PySem L2 PyProof.Rows
section
variable {P : Program} {w : World} {K : Fg_} {mg : Str -> Option Value} {base : Heap} {A : Adr} {D : Fds}
local macro_rules | `(tactic| walk_at "nx") => `(tactic| ((try dsimp only); rw [ap_seq]; walk_at "rdi"))
theorem inV_ints (x : Int) (ns : List Int) : inV (.int x) (ns.map V.int) = decide (x ∈ ns) := by
 induction ns with
 | nil => rfl
 | cons n ns ih =>
  show (eqV (.int n) (.int x) || inV (.int x) (ns.map V.int)) = _
  rw [ih]
  show ((n == x) || decide (x ∈ ns)) = _
  by_cases e : n = x
  ·simp [e]
  ·have e' : ¬ x = n := fun z => e z.symm
   simp [e, e']
theorem flat_ints (ns : List Int) : (ns.map V.int).all flatV = true := by
 rw [List.all_eq_true]
 intro x hx
 obtain ⟨i, _, rfl⟩ := List.mem_map.mp hx
 rfl
theorem nodup_le : ∀ {l k : List Int}, l.Nodup -> (∀ x ∈ l, x ∈ k) -> l.length <= k.length
 | [], _, _, _ => Nat.zero_le _
 | x :: l, k, h, s => by
  have h' := List.nodup_cons.mp h
  have hx : x ∈ k := s x (.head _)
  have := nodup_le (l := l) (k := k.erase x) h'.2 fun y hy => (List.mem_erase_of_ne (fun e => by subst e; exact h'.1 hy)).mpr (s y (.tail _ hy))
  rw [List.length_erase_of_mem hx] at this
  have hp : 0 < k.length := List.length_pos_of_mem hx
  rw [List.length_cons]
  omega
theorem steps_le {kn : List Int} {n0 : Int} {k : Nat} (h0 : 0 <= n0) (h1 : n0 < 1000001) (hk : kn.length <= 100) (h : ∀ j : Nat, j < k -> (n0 + j) % 1000001 ∈ kn) : k <= 200 -> k <= kn.length := by
 intro hk2
 have hn : ((List.range k).map fun j : Nat => (n0 + j) % 1000001).Nodup := by
  rw [List.nodup_iff_pairwise_ne, List.pairwise_map]
  refine List.Pairwise.imp_of_mem (R := fun a b => a < b) (fun {a b} ha hb hab e => ?_) List.pairwise_lt_range
  have h2 := List.mem_range.mp ha
  have h3 := List.mem_range.mp hb
  omega
 have := nodup_le hn fun x hx => by
  obtain ⟨j, hj, rfl⟩ := List.mem_map.mp hx
  exact h j (List.mem_range.mp hj)
 simpa using this
theorem perm_pull {f : Addr × LotD -> V} : ∀ {zs ys : List V}, zs.Perm ys -> ∀ {rs : RL}, ys = rs.map f -> ∃ rs' : RL, zs = rs'.map f /\ rs'.Perm rs := by
 intro zs ys h
 induction h with
 | nil => intro rs e; exact ⟨[], rfl, by cases rs with | nil => exact .nil | cons _ _ => cases e⟩
 | cons x _ ih =>
  intro rs e
  cases rs with
  | nil => cases e
  | cons r rs =>
   rw [List.map_cons] at e
   obtain ⟨e1, e2⟩ := List.cons.inj e
   obtain ⟨rs', a1, a2⟩ := ih e2
   exact ⟨r :: rs', by rw [List.map_cons, <- a1, e1], a2.cons r⟩
 | swap x y l =>
  intro rs e
  cases rs with
  | nil => cases e
  | cons r rs => cases rs with
   | nil => cases e
   | cons r2 rs =>
    rw [List.map_cons, List.map_cons] at e
    obtain ⟨e1, e2⟩ := List.cons.inj e
    obtain ⟨e3, e4⟩ := List.cons.inj e2
    exact ⟨r2 :: r :: rs, by rw [List.map_cons, List.map_cons, e1, e3, e4], .swap _ _ _⟩
 | trans _ _ ih1 ih2 =>
  intro rs e
  obtain ⟨r2, a1, a2⟩ := ih2 e
  obtain ⟨r3, b1, b2⟩ := ih1 a1
  exact ⟨r3, b1, b2.trans a2⟩
def LotD.key (d : LotD) : List Int := [d.s, d.n]
def Bef (d e : LotD) : Prop := d.s < e.s \/ (d.s = e.s /\ d.n < e.n)
theorem key_bef {d e : LotD} (h : lexB d.key e.key false = true) : Bef d e := by
 unfold LotD.key at h
 rw [lexB] at h
 by_cases e1 : d.s = e.s
 ·rw [if_pos e1, lexB] at h
  by_cases e2 : d.n = e.n
  ·rw [if_pos e2, lexB] at h
   cases h
  ·rw [if_neg e2] at h
   exact .inr ⟨e1, of_decide_eq_true h⟩
 ·rw [if_neg e1] at h
  exact .inl (of_decide_eq_true h)
def kfOf (H : Hp) : V -> List Int
 | .ref b => match H b with
  | some (.tup [.int n, .int s, _, _]) => [s, n]
  | _ => []
 | _ => []
theorem kfOf_at {H : Hp} {b : Addr} {d : LotD} (h : H b = some (.tup d.vs)) : kfOf H (.ref b) = d.key := by
 unfold kfOf
 simp only [h]
 rfl
end
end My
namespace My
open PySem L2 PyProof.Rows
section
variable {P : Program} {w : World} {K : Fg_} {mg : Str -> Option Value} {base : Heap} {A : Adr} {D : Fds}
inductive E2 where
 | buy (d n : Int) (w : Str) (p r f : Int)
 | gift (d n : Int) (w : Str) (p c s : Int)
def Rg (lo hi x : Int) : Prop := lo <= x /\ x <= hi
def E2.good : E2 -> Prop
 | .buy d n w p r f => Base d n w /\ Rg 1 1000000000 p /\ Rg 0 1000000000 r /\ Rg 0 1000000000 f
 | .gift d n w p c s => Base d n w /\ Rg 1 1000000000 p /\ Rg 0 1000000000000000000 c /\ Rg 0 d s
def E2.fs : E2 -> List (Str × V)
 | .buy d n w p r f => [("day", .int d), ("number", .int n), ("ware", .str w), ("pieces", .int p), ("price", .int r), ("fee", .int f), ("cost", .int (p * r + f))]
 | .gift d n w p c s => [("day", .int d), ("number", .int n), ("ware", .str w), ("pieces", .int p), ("cost", .int c), ("since", .int s)]
def E2.args : E2 -> List V
 | .buy d n w p r f => [.int d, .int n, .str w, .int p, .int r, .int f]
 | .gift d n w p c s => [.int d, .int n, .str w, .int p, .int c, .int s]
def E2.cls (A : Adr) : E2 -> Addr
 | .buy .. => A.C_Buy
 | .gift .. => A.C_Gift
def E2.day : E2 -> Int
 | .buy d .. => d
 | .gift d .. => d
def E2.num : E2 -> Int
 | .buy _ n .. => n
 | .gift _ n .. => n
def E2.ware : E2 -> Str
 | .buy _ _ w .. => w
 | .gift _ _ w .. => w
def E2.lot : E2 -> LotD
 | .buy d n _ p r f => ⟨n, d, p, p * r + f⟩
 | .gift _ n _ p c s => ⟨n, s, p, c⟩
def E2.isBuy : E2 -> Bool
 | .buy .. => true
 | .gift .. => false
def IsE2 (A : Adr) (H : Hp) (x : Addr) (e : E2) : Prop := ∃ dx, H x = some (.ins (e.cls A) dx e.fs)
theorem IsE2.same {H H' : Hp} {x : Addr} {e : E2} (h : IsE2 A H x e) (s : Same H H') : IsE2 A H' x e := let ⟨dx, q⟩ := h; ⟨dx, s _ _ q⟩
def spIni2 (A : Adr) (b : Bool) : Sp := fun vs H Q _ => ∃ (x : Addr) (e : E2) (B : Hp) (dx : Addr), e.isBuy = b /\ vs = .ref x :: e.args /\ New B H x (e.cls A) dx [] /\ e.good /\
 ∀ H', New B H' x (e.cls A) dx e.fs -> Q .non H'
theorem ce_Buy (T : Txt K mg A D) : CE K A.C_Buy := ⟨T.cl_Buy, T.n_Buy_day, T.n_Buy_number, T.n_Buy_ware⟩
theorem ce_Gift (T : Txt K mg A D) : CE K A.C_Gift := ⟨T.cl_Gift, T.n_Gift_day, T.n_Gift_number, T.n_Gift_ware⟩
theorem ok_Buy___init__ (T : Txt K mg A D) : FnOk P w K mg base CX0 4 A.Buy___init__ D.Buy___init__ ["self", "day", "number", "ware", "pieces", "price", "fee"] (spIni2 A true) := by
 refine T.F_Buy___init__.ok sc_Buy___init__ (fun vs H Q E h => ?_) (fun cdv A' outer s0 H vs Q E hr h => ?_)
 ·obtain ⟨x, e, B, dx, hk, rfl, _⟩ := h
  cases e <;> first | rfl | cases hk
 ·obtain ⟨x, e, B, dx, hk, rfl, hN, hg, k⟩ := h
  cases e with
  | gift => cases hk
  | buy d n w p r f =>
  refine ⟨_, (pss_cons (ps_expr (pe_clsCall T.cf_Entry___init__ (ok_Entry___init__ (K := K) T) (hr.mono (by decide)) (by rfl) T.m_Entry T.F_Entry___init__.kp (b_Entry___init__ T) .nil pass0 (pa_cons (pv 0) (pa_cons (pv 1) (pa_cons (pv 2) (pa_cons (pv 3) pa_nil))))))
   (pss_cons (ps_expr (pe_call (ok_check_trade (K := K) T) (hr.mono (by decide)) (by rfl) T.m_check_trade T.k_check_trade (b_check_trade T) .nil pass0 (pa_cons (pv 4) (pa_cons (pv 5) (pa_cons (pv 6) pa_nil)))))
   (pss_cons (ps_fldK (K := K) (pv 0) (pv 4) rfl)
   (pss_cons (ps_fldK (K := K) (pv 0) (pv 5) rfl)
   (pss_cons (ps_fldK (K := K) (pv 0) (pv 6) rfl)
   (pss_one (ps_fldK (K := K) (pv 0) (pe_op op_add (pe_op op_mulU (pv 4) (pv 5)) (pv 6)) rfl))))))), ?_⟩
  simp only [E2.args]
  walk_at "rda"
  refine ⟨x, d, n, w, B, _, dx, rfl, hN, ce_Buy T, hg.1, fun H1 hN => ?_⟩
  walk_at "rda"
  refine ⟨_, _, _, rfl, hg.2.1, hg.2.2.1, hg.2.2.2, ?_⟩
  walk_at "rda"
  refine ⟨_, dx, _, hN.h, T.cl_Buy, T.n_Buy_pieces, by simp [fsE], ?_⟩
  rw [putF_at (f := Str.ofString "pieces") ["day", "number", "ware"] (by rfl) (by decide +kernel)]
  have hN := hN.put (gs := (fsE d n w ++ [(Str.ofString "pieces", V.int p)])) rfl
  refine ⟨_, dx, _, hN.h, T.cl_Buy, T.n_Buy_price, by simp [fsE], ?_⟩
  rw [putF_at (f := Str.ofString "price") ["day", "number", "ware", "pieces"] (by rfl) (by decide +kernel)]
  have hN := hN.put (gs := ((fsE d n w ++ [(Str.ofString "pieces", V.int p)]) ++ [(Str.ofString "price", V.int r)])) rfl
  refine ⟨_, dx, _, hN.h, T.cl_Buy, T.n_Buy_fee, by simp [fsE], ?_⟩
  rw [putF_at (f := Str.ofString "fee") ["day", "number", "ware", "pieces", "price"] (by rfl) (by decide +kernel)]
  have hN := hN.put (gs := (((fsE d n w ++ [(Str.ofString "pieces", V.int p)]) ++ [(Str.ofString "price", V.int r)]) ++ [(Str.ofString "fee", V.int f)])) rfl
  refine ⟨CMulU.big (Nat.lt_of_le_of_lt (show p.natAbs <= 1000000000 from by have := hg.2.1; unfold Rg at this; omega) (by decide)) (Nat.lt_of_le_of_lt (show r.natAbs <= 1000000000 from by have := hg.2.2.1; unfold Rg at this; omega) (by decide)), ?_⟩
  refine ⟨_, dx, _, hN.h, T.cl_Buy, T.n_Buy_cost, by simp [fsE], ?_⟩
  rw [putF_at (f := Str.ofString "cost") ["day", "number", "ware", "pieces", "price", "fee"] (by rfl) (by decide +kernel)]
  have hN := hN.put (gs := ((((fsE d n w ++ [(Str.ofString "pieces", V.int p)]) ++ [(Str.ofString "price", V.int r)]) ++ [(Str.ofString "fee", V.int f)]) ++ [(Str.ofString "cost", V.int (p * r + f))])) rfl
  exact k _ hN
theorem ok_Gift___init__ (T : Txt K mg A D) : FnOk P w K mg base CX0 4 A.Gift___init__ D.Gift___init__ ["self", "day", "number", "ware", "pieces", "cost", "since"] (spIni2 A false) := by
 refine T.F_Gift___init__.ok sc_Gift___init__ (fun vs H Q E h => ?_) (fun cdv A' outer s0 H vs Q E hr h => ?_)
 ·obtain ⟨x, e, B, dx, hk, rfl, _⟩ := h
  cases e <;> first | rfl | cases hk
 ·obtain ⟨x, e, B, dx, hk, rfl, hN, hg, k⟩ := h
  cases e with
  | buy => cases hk
  | gift d n w p c s =>
  refine ⟨_, (pss_cons (ps_expr (pe_clsCall T.cf_Entry___init__ (ok_Entry___init__ (K := K) T) (hr.mono (by decide)) (by rfl) T.m_Entry T.F_Entry___init__.kp (b_Entry___init__ T) .nil pass0 (pa_cons (pv 0) (pa_cons (pv 1) (pa_cons (pv 2) (pa_cons (pv 3) pa_nil))))))
   (pss_cons (ps_expr (pe_call (ok_check_number (K := K) T) (hr.mono (by decide)) (by rfl) T.m_check_number T.k_check_number (b_check_number T) .nil pass0 (pa_cons pe_str (pa_cons (pv 4) (pa_cons pe_int (pa_cons (pe_glob (v := V.int 1000000000) (by rfl) T.g_MOST_PIECES ⟨_, rfl⟩) pa_nil))))))
   (pss_cons (ps_expr (pe_call (ok_check_number (K := K) T) (hr.mono (by decide)) (by rfl) T.m_check_number T.k_check_number (b_check_number T) .nil pass0 (pa_cons pe_str (pa_cons (pv 5) (pa_cons pe_int (pa_cons (pe_glob (v := V.int 1000000000000000000) (by rfl) T.g_MOST_GIFT_COST ⟨_, rfl⟩) pa_nil))))))
   (pss_cons (ps_expr (pe_call (ok_check_number (K := K) T) (hr.mono (by decide)) (by rfl) T.m_check_number T.k_check_number (b_check_number T) .nil pass0 (pa_cons pe_str (pa_cons (pv 6) (pa_cons pe_int (pa_cons (pv 1) pa_nil))))))
   (pss_cons (ps_fldK (K := K) (pv 0) (pv 4) rfl)
   (pss_cons (ps_fldK (K := K) (pv 0) (pv 5) rfl)
   (pss_one (ps_fldK (K := K) (pv 0) (pv 6) rfl)))))))), ?_⟩
  simp only [E2.args]
  walk_at "rda"
  refine ⟨x, d, n, w, B, _, dx, rfl, hN, ce_Gift T, hg.1, fun H1 hN => ?_⟩
  walk_at "rda"
  refine ⟨_, _, _, _, rfl, hg.2.1.1, hg.2.1.2, ?_⟩
  walk_at "rda"
  refine ⟨_, _, _, _, rfl, hg.2.2.1.1, hg.2.2.1.2, ?_⟩
  walk_at "rda"
  refine ⟨_, _, _, _, rfl, hg.2.2.2.1, hg.2.2.2.2, ?_⟩
  walk_at "rda"
  refine ⟨_, dx, _, hN.h, T.cl_Gift, T.n_Gift_pieces, by simp [fsE], ?_⟩
  rw [putF_at (f := Str.ofString "pieces") ["day", "number", "ware"] (by rfl) (by decide +kernel)]
  have hN := hN.put (gs := (fsE d n w ++ [(Str.ofString "pieces", V.int p)])) rfl
  refine ⟨_, dx, _, hN.h, T.cl_Gift, T.n_Gift_cost, by simp [fsE], ?_⟩
  rw [putF_at (f := Str.ofString "cost") ["day", "number", "ware", "pieces"] (by rfl) (by decide +kernel)]
  have hN := hN.put (gs := ((fsE d n w ++ [(Str.ofString "pieces", V.int p)]) ++ [(Str.ofString "cost", V.int c)])) rfl
  refine ⟨_, dx, _, hN.h, T.cl_Gift, T.n_Gift_since, by simp [fsE], ?_⟩
  rw [putF_at (f := Str.ofString "since") ["day", "number", "ware", "pieces", "cost"] (by rfl) (by decide +kernel)]
  have hN := hN.put (gs := (((fsE d n w ++ [(Str.ofString "pieces", V.int p)]) ++ [(Str.ofString "cost", V.int c)]) ++ [(Str.ofString "since", V.int s)])) rfl
  exact k _ hN
def spWrd (z : Str) : Sp := fun vs H Q _ => ∃ x : Addr, vs = [.ref x] /\ Q (.str z) H
theorem ok_Buy_word (T : Txt K mg A D) : FnOk P w K mg base CX0 1 A.Buy_word D.Buy_word ["self"] (spWrd "buy") := by
 refine T.F_Buy_word.ok sc_Buy_word (fun vs H Q E h => ?_) (fun cdv A' outer s0 H vs Q E hr h => ?_)
 ·obtain ⟨x, rfl, _⟩ := h; rfl
 ·obtain ⟨x, rfl, k⟩ := h
  refine ⟨_, (pss_one (ps_ret pe_str)), ?_⟩
  walk_at "rda"
  exact k
theorem ok_Gift_word (T : Txt K mg A D) : FnOk P w K mg base CX0 1 A.Gift_word D.Gift_word ["self"] (spWrd "gift") := by
 refine T.F_Gift_word.ok sc_Gift_word (fun vs H Q E h => ?_) (fun cdv A' outer s0 H vs Q E hr h => ?_)
 ·obtain ⟨x, rfl, _⟩ := h; rfl
 ·obtain ⟨x, rfl, k⟩ := h
  refine ⟨_, (pss_one (ps_ret pe_str)), ?_⟩
  walk_at "rda"
  exact k
end
end My
namespace My
open PySem L2 PyProof.Rows
section
variable {P : Program} {w : World} {K : Fg_} {mg : Str -> Option Value} {base : Heap} {A : Adr} {D : Fds}
local macro_rules | `(tactic| walk_at "nx") => `(tactic| ((try dsimp only); rw [ap_seq]; walk_at "rdi"))
abbrev TL := List (Addr × Int × Int × Int)
def refsT (ts : TL) : List V := ts.map fun t => V.ref t.1
def TAt (H : Hp) (ts : TL) : Prop := ∀ t ∈ ts, H t.1 = some (.tup [.int t.2.1, .int t.2.2.1, .int t.2.2.2])
theorem TAt.same {H H' : Hp} {ts : TL} (h : TAt H ts) (s : Same H H') : TAt H' ts := fun r hr => s _ _ (h r hr)
theorem refsT_len (ts : TL) : (refsT ts).length = ts.length := by unfold refsT; rw [List.length_map]
theorem refsT_get {ts : TL} {i : Nat} {y : V} (h : (refsT ts)[i]? = some y) : ∃ t, ts[i]? = some t /\ y = .ref t.1 := by
 unfold refsT at h
 rw [List.getElem?_map] at h
 cases e : ts[i]? with
 | none => rw [e] at h; cases h
 | some r => rw [e] at h; exact ⟨r, rfl, (Option.some.inj h).symm⟩
def BfD (a b : Addr × Int × Int × Int) : Prop := a.2.1 < b.2.1 \/ (a.2.1 = b.2.1 /\ a.2.2.1 < b.2.2.1)
def GdT (t : Addr × Int × Int × Int) : Prop := (0 <= t.2.1 /\ t.2.1 <= 1000000) /\ 0 <= t.2.2.1 /\ t.2.2.1 <= 1000000
structure DaysV (B H : Hp) (pf pu : Addr) (ts : TL) : Prop where
 s : Same B H
 f : H pf = some (.lst (refsT ts))
 k : H pu = some (.lst (ts.map fun t => V.int t.2.2.1))
 t : TAt H ts
 g : ∀ t ∈ ts, GdT t
 u : (ts.map (·.2.2.1)).Nodup
theorem pull {α : Type} {f : α -> V} : ∀ {zs ys : List V}, zs.Perm ys -> ∀ {rs : List α}, ys = rs.map f -> ∃ rs' : List α, zs = rs'.map f /\ rs'.Perm rs := by
 intro zs ys h
 induction h with
 | nil => intro rs e; exact ⟨[], rfl, by cases rs with | nil => exact .nil | cons _ _ => cases e⟩
 | cons x _ ih =>
  intro rs e
  cases rs with
  | nil => cases e
  | cons r rs =>
   rw [List.map_cons] at e
   obtain ⟨e1, e2⟩ := List.cons.inj e
   obtain ⟨rs', a1, a2⟩ := ih e2
   exact ⟨r :: rs', by rw [List.map_cons, <- a1, e1], a2.cons r⟩
 | swap x y l =>
  intro rs e
  cases rs with
  | nil => cases e
  | cons r rs => cases rs with
   | nil => cases e
   | cons r2 rs =>
    rw [List.map_cons, List.map_cons] at e
    obtain ⟨e1, e2⟩ := List.cons.inj e
    obtain ⟨e3, e4⟩ := List.cons.inj e2
    exact ⟨r2 :: r :: rs, by rw [List.map_cons, List.map_cons, e1, e3, e4], .swap _ _ _⟩
 | trans _ _ ih1 ih2 =>
  intro rs e
  obtain ⟨r2, a1, a2⟩ := ih2 e
  obtain ⟨r3, b1, b2⟩ := ih1 a1
  exact ⟨r3, b1, b2.trans a2⟩
def tsT (H : Hp) : V -> List Int
 | .ref b => match H b with
  | some (.tup [.int x, .int y, .int z]) => [x, y, z]
  | _ => []
 | _ => []
theorem tsT_at {H : Hp} {t : Addr × Int × Int × Int} (h : H t.1 = some (.tup [.int t.2.1, .int t.2.2.1, .int t.2.2.2])) : tsT H (.ref t.1) = [t.2.1, t.2.2.1, t.2.2.2] := by
 unfold tsT
 simp only [h]
theorem lex_bfd {a b : Addr × Int × Int × Int} (h : lexB [a.2.1, a.2.2.1, a.2.2.2] [b.2.1, b.2.2.1, b.2.2.2] false = true) (hn : a.2.2.1 ≠ b.2.2.1) : BfD a b := by
 rw [lexB] at h
 by_cases e1 : a.2.1 = b.2.1
 ·rw [if_pos e1, lexB, if_neg hn] at h
  exact .inr ⟨e1, of_decide_eq_true h⟩
 ·rw [if_neg e1] at h
  exact .inl (of_decide_eq_true h)
def sp__law_days (K : Fg_) : Sp := fun vs H Q _ => ∃ (c : Addr) (xs : List Int), vs = [.ref c] /\ SqL K H c (xs.map V.int) /\ xs.length <= 30 /\
 ∀ p ts H', Same H H' -> H p = Option.none -> H' p = some (.lst (refsT ts)) -> TAt H' ts -> (∀ t ∈ ts, GdT t) -> ts.length = xs.length -> (ts.map (·.2.2.1)).Nodup -> ts.Pairwise BfD -> Q (.ref p) H'
theorem ok__law_days (T : Txt K mg A D) : FnOk P w K mg base CX0 2 A._law_days D._law_days ["_law_chunks_here"] (sp__law_days K) := by
 refine T.F__law_days.ok sc__law_days (fun vs H Q E h => ?_) (fun cdv A' outer s0 H vs Q E hr h => ?_)
 ·obtain ⟨c, xs, rfl, _⟩ := h; rfl
 ·obtain ⟨c, xs, rfl, hS, hl, k⟩ := h
  refine ⟨_, (pss_cons (ps_set (i := 1) sc__law_days.nd rfl (Or.inl rfl) (pe_lst pa_nil))
   (pss_cons (ps_set (i := 2) sc__law_days.nd rfl (Or.inl rfl) (pe_lst pa_nil))
   (pss_cons (ps_for PassesOwn.never rfl (pi_listK (K := K) (pv 0)) (pg_name (i := 3) sc__law_days.nd rfl (Or.inl rfl))
    (pss_cons (ps_set (i := 4) sc__law_days.nd rfl (Or.inl rfl) (pe_op op_add (pe_op op_fdivB (pe_op op_mod (pv 3) pe_int) pe_int) (pe_op op_fdivB (pe_op op_mod (pv 3) pe_int) pe_int)))
    (pss_cons (ps_set (i := 5) sc__law_days.nd rfl (Or.inl rfl) (pe_op op_mod (pe_op op_fdivB (pv 3) pe_int) (pe_ix (ix_listK (K := K)) (pe_lst (pa_cons pe_int (pa_cons pe_int (pa_cons (pe_op op_add (pe_op op_pow pe_int pe_int) pe_int) pa_nil)))) (pv 4) (fun _ _ => rfl))))
    (pss_cons (ps_set (i := 3) sc__law_days.nd rfl (Or.inl rfl) (pe_op op_fdivB (pv 3) (pe_op op_add (pe_op op_mulU pe_int (pe_op op_pow pe_int pe_int)) pe_int)))
    (pss_cons (ps_set (i := 6) sc__law_days.nd rfl (Or.inl rfl) (pe_call (ok__law_small (K := K) T) (hr.mono (by decide)) (by rfl) T.m__law_small T.k__law_small (b__law_small T) .nil pass0 (pa_cons (pv 3) (pa_cons (pe_op op_add (pe_op op_pow pe_int pe_int) pe_int) pa_nil))))
    (pss_cons (ps_while PassesOwn.never (pt_cmpR (op_inK (K := K)) (pv 6) (pv 2) (by with_unfolding_all rfl)) (pss_one (ps_set (i := 6) sc__law_days.nd rfl (Or.inl rfl) (pe_op op_mod (pe_op op_add (pv 6) pe_int) (pe_op op_add (pe_op op_pow pe_int pe_int) pe_int)))))
    (pss_cons (ps_expr (pe_bmK (K := K) PySem.F.plainAttrs_list PySem.F.slot_list_append PySem.F.type_list_append mt_append (pv 2) (pa_cons (pv 6) pa_nil)))
    (pss_one (ps_expr (pe_bmK (K := K) PySem.F.plainAttrs_list PySem.F.slot_list_append PySem.F.type_list_append mt_append (pv 1) (pa_cons (pe_tup (pa_cons (pv 5) (pa_cons (pv 6) (pa_cons (pe_op op_fdivB (pv 3) (pe_op op_add (pe_op op_mulU pe_int (pe_op op_pow pe_int pe_int)) pe_int)) pa_nil)))) pa_nil)))))))))))
   (pss_one (ps_ret (pe_callB (call_sortTK (K := K)) (by rfl) T.b_sorted (by decide +kernel) (pa_cons (pv 1) pa_nil))))))), ?_⟩
  simp only [start_eq]
  walk_at "nx"
  refine ⟨by rw [sizeLine_eq]; decide, fun pf hpf => ?_⟩
  have s2 := Same.new (o := .lst []) hpf
  have hf2 : (upd H pf (.lst [])) pf = some (.lst []) := upd_same
  generalize upd H pf _ = H2 at s2 hf2
  walk_at "nx"
  refine ⟨by rw [sizeLine_eq]; decide, fun pu hpu => ?_⟩
  have s3 := s2.trans (Same.new (o := .lst []) hpu)
  have hu3 : (upd H2 pu (.lst [])) pu = some (.lst []) := upd_same
  have hf3 := Same.new (o := .lst []) hpu _ _ hf2
  have hBu := s2.free hpu
  have hne : pf ≠ pu := ne_of_none hf2 hpu
  generalize upd H2 pu _ = H3 at s3 hu3 hf3
  have U0 : DaysV H H3 pf pu [] := ⟨s3, hf3, hu3, fun r h => (List.not_mem_nil h).elim, fun r h => (List.not_mem_nil h).elim, List.nodup_nil⟩
  rw [ap_seq, ap_for]
  walk_at "rdi"
  refine ⟨⟨_, s3.seq hS⟩, ?_⟩
  refine ForP.list (K := K) (a := c) (xs := xs.map V.int) (fun i σ H5 => ∃ (ts : TL) (v3 v4 v5 v6 : Option V), ts.length = i /\ σ = [some (.ref c), some (.ref pf), some (.ref pu), v3, v4, v5, v6] /\ DaysV H H5 pf pu ts)
   ⟨[], _, _, _, _, rfl, rfl, U0⟩ (fun i σ H5 _ ⟨_, _, _, _, _, _, _, U⟩ => U.s.seq hS) ?_ ?_
  ·rintro i y σ H5 hi ⟨ts, v3, v4, v5, v6, htl, rfl, U⟩
   obtain ⟨x, rfl, hxi⟩ := map_get hi
   have hil : i < xs.length := (List.getElem?_eq_some_iff.mp hxi).1
   walk_at "rdi"
   walk_at "nx"
   refine ⟨by decide, ⟨by decide, by decide⟩, by decide, ⟨by decide, by decide⟩, ?_⟩
   have hso : x % 4 / 2 + x % 4 / 3 = 0 \/ x % 4 / 2 + x % 4 / 3 = 1 \/ x % 4 / 2 + x % 4 / 3 = 2 := by omega
   generalize x % 4 / 2 + x % 4 / 3 = so at hso
   walk_at "nx"
   refine ⟨⟨by decide, by decide⟩, cp_of (by decide) (by decide), by rw [sizeLine_eq]; decide, fun pl hpl => ⟨_, SqL.of upd_same, ?_⟩⟩
   obtain ⟨md, hmd, hm0, hm1⟩ : ∃ md : Int, atI [V.int 6, V.int 60, V.int (10 ^ Int.toNat 6 + 1)] so = some (.int md) /\ 0 < md /\ md <= 1000001 := by
    rcases hso with e | e | e <;> subst e
    ·exact ⟨_, rfl, by decide, by decide⟩
    ·exact ⟨_, rfl, by decide, by decide⟩
    ·exact ⟨_, rfl, by decide, by decide⟩
   refine ⟨_, hmd, _, rfl, hm0, ?_⟩
   have hdy : 0 <= x / 4 % md /\ x / 4 % md <= 1000000 := ⟨Int.emod_nonneg _ (by omega), by have := Int.emod_lt_of_pos (x / 4) hm0; omega⟩
   generalize x / 4 % md = dy at hdy
   have sl := Same.new (o := .lst [V.int 6, V.int 60, V.int (10 ^ Int.toNat 6 + 1)]) hpl
   generalize upd H5 pl _ = H6 at sl
   walk_at "nx"
   refine ⟨cp_of (by decide) (by decide), CMulU.l (by decide) (by decide), ⟨by decide, by decide⟩, ?_⟩
   generalize x / (4 * 10 ^ Int.toNat 6 + 4) = x1
   walk_at "nx"
   refine ⟨cp_of (by decide) (by decide), _, _, rfl, by decide, fun x0 H7 hx0 hx1 s7 => ?_⟩
   have e0 : (10 ^ Int.toNat 6 + 1 : Int) = 1000001 := rfl
   rw [e0] at hx1
   have s57 := sl.trans s7
   have hk7 : H7 pu = some (.lst ((ts.map (·.2.2.1)).map V.int)) := by rw [List.map_map]; exact s57 _ _ U.k
   have hf7 := s57 _ _ U.f
   have t7 := U.t.same s57
   have S7 := U.s.trans s57
   dsimp only
   rw [ap_seq]
   refine ⟨fun m σ H' => ∃ kk : Nat, m = ts.length - kk /\ kk <= ts.length /\ H' = H7 /\ (∀ j : Nat, j < kk -> (x0 + j) % 1000001 ∈ ts.map (·.2.2.1)) /\
    σ = [some (.ref c), some (.ref pf), some (.ref pu), some (.int x1), some (.int so), some (.int dy), some (.int ((x0 + kk) % 1000001))],
    ⟨_, 0, rfl, Nat.zero_le _, rfl, fun j hj => absurd hj (Nat.not_lt_zero _), ?_⟩, ?_⟩
   ·rw [Int.emod_eq_of_lt (by omega) (by omega)]; simp
   rintro m σ H' ⟨kk, rfl, hkk, rfl, hin, rfl⟩
   walk_at "rdi"
   refine ⟨_, .inl (SqL.of hk7), rfl, flat_ints _, ?_⟩
   rw [inV_ints]
   by_cases hm' : (x0 + kk) % 1000001 ∈ ts.map (·.2.2.1)
   ·rw [if_pos (decide_eq_true hm')]
    have hin' : ∀ j : Nat, j < kk + 1 -> (x0 + j) % 1000001 ∈ ts.map (·.2.2.1) := fun j hj => by
     by_cases e : j < kk
     ·exact hin j e
     ·obtain rfl : j = kk := by omega
      exact hm'
    have hle := steps_le hx0 hx1 (by rw [List.length_map]; omega) hin' (by omega)
    rw [List.length_map] at hle
    refine ⟨_, fun σ' H2 h => h, cp_of (by decide) (by decide), by decide, ts.length - (kk + 1), by omega, kk + 1, rfl, hle, rfl, hin', ?_⟩
    have : ((x0 + kk) % 1000001 + 1) % (10 ^ Int.toNat 6 + 1) = (x0 + ((kk + 1 : Nat) : Int)) % 1000001 := by
     rw [e0]
     omega
    rw [this]
   ·rw [if_neg (by simpa using hm')]
    obtain ⟨nb, hnb⟩ : ∃ nb, (x0 + (kk : Int)) % 1000001 = nb := ⟨_, rfl⟩
    have bn : 0 <= nb /\ nb < 1000001 := by omega
    rw [hnb] at hm' ⊢
    walk_at "nx"
    refine ⟨.inl ⟨rfl, _, SqL.of hk7⟩, _, hk7, ?_, ?_⟩
    ·rw [List.length_map, List.length_map, sizeLine_eq]; omega
    have hrP : (upd H' pu (.lst ((ts.map (·.2.2.1)).map V.int ++ [V.int nb]))) pf = some (.lst (refsT ts)) := (upd_ne hne).trans hf7
    have hkP : (upd H' pu (.lst ((ts.map (·.2.2.1)).map V.int ++ [V.int nb]))) pu = some (.lst ((ts.map (·.2.2.1)).map V.int ++ [V.int nb])) := upd_same
    have sP : Same H (upd H' pu (.lst ((ts.map (·.2.2.1)).map V.int ++ [V.int nb]))) := S7.upd hBu
    have tP : TAt (upd H' pu (.lst ((ts.map (·.2.2.1)).map V.int ++ [V.int nb]))) ts := fun r hr => by
     have h1 := t7 r hr
     exact (upd_ne fun e => by rw [e, hk7] at h1; cases h1).trans h1
    generalize upd H' pu (.lst ((ts.map (·.2.2.1)).map V.int ++ [V.int nb])) = H8 at hrP hkP sP tP
    refine ⟨.inl ⟨rfl, _, SqL.of hrP⟩, cp_of (by decide) (by decide), CMulU.l (by decide) (by decide), ⟨by decide, by decide⟩, by rw [sizeLine_eq]; decide, fun t ht => ?_⟩
    generalize x1 / (2 * 10 ^ Int.toNat 6 + 2) = x2
    have htr : t ≠ pf := fun e => by rw [e, hrP] at ht; cases ht
    have htk : t ≠ pu := fun e => by rw [e, hkP] at ht; cases ht
    refine ⟨_, Same.new ht _ _ hrP, ?_, ts ++ [(t, dy, nb, x2)], ?_, ?_⟩
    ·rw [refsT_len, sizeLine_eq]; omega
    ·rw [List.length_append, htl]; rfl
    ·refine ⟨(sP.trans (Same.new ht)).upd hpf, ?_, ?_, fun r hr => ?_, fun r hr => ?_, ?_⟩
     ·rw [upd_same]; unfold refsT; rw [List.map_append]; rfl
     ·rw [upd_ne hne.symm, Same.new ht _ _ hkP, List.map_append, List.map_map]; rfl
     ·rcases List.mem_append.mp hr with hr | hr
      ·have h1 := tP r hr
       rw [upd_ne fun e => by rw [e, hrP] at h1; cases h1]
       exact Same.new ht _ _ h1
      ·obtain rfl := List.mem_singleton.mp hr
       exact (upd_ne htr).trans upd_same
     ·rcases List.mem_append.mp hr with hr | hr
      ·exact U.g r hr
      ·obtain rfl := List.mem_singleton.mp hr
       exact ⟨hdy, bn.1, by show nb <= _; omega⟩
     ·rw [List.map_append]
      refine List.nodup_append.mpr ⟨U.u, by simp, fun y hy z hz => ?_⟩
      obtain rfl := List.mem_singleton.mp hz
      exact fun e => hm' (e ▸ hy)
  ·rintro σ H5 ⟨ts, v3, v4, v5, v6, htl, rfl, U⟩
   dsimp only
   walk_at "rdi"
   rw [List.length_map] at htl
   refine ⟨_, SqL.of U.f, by rw [refsT_len]; omega, tsT H5, fun y hy => ?_, fun p zs hp hperm0 hord => ?_⟩
   ·obtain ⟨t, ht, rfl⟩ := List.mem_map.mp hy
    rw [tsT_at (U.t t ht)]
    exact ⟨by simp, t.1, rfl, SqT.of (U.t t ht)⟩
   ·obtain ⟨ts', rfl, hperm⟩ := pull (f := fun t : Addr × Int × Int × Int => V.ref t.1) hperm0 rfl
    have hun : ts.Pairwise fun a b => a.2.2.1 ≠ b.2.2.1 := List.pairwise_map.mp U.u
    have hnd : (ts'.map fun t => t.2.2.1).Nodup := (hperm.map (fun t : Addr × Int × Int × Int => t.2.2.1)).nodup_iff.mpr U.u
    have hun' : ts'.Pairwise fun a b => a.2.2.1 ≠ b.2.2.1 := List.pairwise_map.mp hnd
    have hord := hord 3 (fun y hy => by
     obtain ⟨r, hr, rfl⟩ := List.mem_map.mp hy
     rw [tsT_at (U.t r hr)]
     rfl) (by
     refine List.pairwise_map.mpr (List.pairwise_map.mpr (List.Pairwise.imp_of_mem (fun {a b} ha hb hne z => hne ?_) hun))
     rw [tsT_at (U.t a ha), tsT_at (U.t b hb)] at z
     exact (List.cons.inj (List.cons.inj z).2).1)
    have s6 := Same.new (o := .lst (refsT ts')) hp
    refine k p ts' _ (U.s.trans s6) (U.s.free hp) upd_same (fun r hr => s6 _ _ (U.t r (hperm.mem_iff.mp hr))) (fun r hr => U.g r (hperm.mem_iff.mp hr)) (by rw [hperm.length_eq, htl]) hnd ?_
    refine List.Pairwise.imp_of_mem (fun {a b} ha hb h => ?_) ((List.pairwise_map.mp hord).and hun')
    rw [tsT_at (U.t a (hperm.mem_iff.mp ha)), tsT_at (U.t b (hperm.mem_iff.mp hb))] at h
    exact lex_bfd h.1 h.2
end
end My
namespace My
open PySem L2 PyProof.Rows
section
variable {P : Program} {w : World} {K : Fg_} {mg : Str -> Option Value} {base : Heap} {A : Adr} {D : Fds}
local macro_rules | `(tactic| walk_at "nx") => `(tactic| ((try dsimp only); rw [ap_seq]; walk_at "rdi"))
theorem inV_strs (x : Str) (ns : List Str) : inV (.str x) (ns.map V.str) = decide (x ∈ ns) := by
 induction ns with
 | nil => rfl
 | cons n ns ih =>
  show (eqV (.str n) (.str x) || inV (.str x) (ns.map V.str)) = _
  rw [ih]
  show ((n == x) || decide (x ∈ ns)) = _
  by_cases e : n = x
  ·simp [e]
  ·have e' : ¬ x = n := fun z => e z.symm
   simp [e, e']
theorem flat_strs (ns : List Str) : (ns.map V.str).all flatV = true := by
 rw [List.all_eq_true]
 intro x hx
 obtain ⟨i, _, rfl⟩ := List.mem_map.mp hx
 rfl
def nmO (l : List Nat) (i : Nat) : Str := ⟨(l ++ [97 + i % 26]).toArray⟩
theorem nmO_inj {l : List Nat} {i j : Nat} (h : nmO l i = nmO l j) : i % 26 = j % 26 := by
 have h1 : (l ++ [97 + i % 26]) = (l ++ [97 + j % 26]) := by
  have := congrArg (fun z : Str => z.cps.toList) h
  simpa [nmO] using this
 have h2 := List.append_cancel_left h1
 have h3 := (List.cons.inj h2).1
 omega
theorem occ_at (m : Nat) (hm : m < 26) : ∃ r, PySem.Builtin.Str.occurrences (Str.ofString "abcdefghijklmnopqrstuvwxyz") ⟨#[97 + m]⟩ 0 (Str.ofString "abcdefghijklmnopqrstuvwxyz").length 1 = m :: r := by
 have key : ∀ m : Fin 26, (PySem.Builtin.Str.occurrences (Str.ofString "abcdefghijklmnopqrstuvwxyz") ⟨#[97 + m.1]⟩ 0 (Str.ofString "abcdefghijklmnopqrstuvwxyz").length 1).head? = some m.1 := by decide +kernel
 have h := key ⟨m, hm⟩
 cases e : PySem.Builtin.Str.occurrences (Str.ofString "abcdefghijklmnopqrstuvwxyz") ⟨#[97 + m]⟩ 0 (Str.ofString "abcdefghijklmnopqrstuvwxyz").length 1 with
 | nil => rw [e] at h; cases h
 | cons a r => rw [e] at h; cases h; exact ⟨r, rfl⟩
theorem letter_of (m : Nat) (hm : m < 26) : atI (Str.ofString "abcdefghijklmnopqrstuvwxyz").cps.toList (m : Int) = some (97 + m) := by
 have key : ∀ m : Fin 26, (Str.ofString "abcdefghijklmnopqrstuvwxyz").cps.toList[m.1]? = some (97 + m.1) := by decide +kernel
 exact atI_nat (key ⟨m, hm⟩)
theorem letter_next (m : Nat) (hm : m < 26) : atI (Str.ofString "bcdefghijklmnopqrstuvwxyza").cps.toList (m : Int) = some (97 + (m + 1) % 26) := by
 have key : ∀ m : Fin 26, (Str.ofString "bcdefghijklmnopqrstuvwxyza").cps.toList[m.1]? = some (97 + (m.1 + 1) % 26) := by decide +kernel
 exact atI_nat (key ⟨m, hm⟩)
theorem nmO_len (l : List Nat) (i : Nat) : (nmO l i).length = l.length + 1 := by
 show (l ++ [97 + i % 26]).toArray.size = _
 simp
theorem nmO_cut (l : List Nat) (i : Nat) : Txt.slice (nmO l i) Option.none (some (-1)) = ⟨l.toArray⟩ := by
 have h := nmO_len l i
 show PySem.StrLaws.sliceText (nmO l i) Option.none (some (-1)) = _
 rw [PySem.StrLaws.sliceText_to_neg (by decide) (by rw [h]; omega), h]
 show (⟨_⟩ : Str) = ⟨_⟩
 congr 1
 have e1 : ((-1 : Int) + ((l.length + 1 : Nat) : Int) - 0).toNat = l.length := by omega
 rw [e1]
 show (List.take l.length (List.drop 0 (l ++ [97 + i % 26]).toArray.toList)).toArray = _
 simp
theorem nmO_last (l : List Nat) (i : Nat) : atI (nmO l i).cps.toList (-1) = some (97 + i % 26) := by
 show atI (l ++ [97 + i % 26]).toArray.toList (-1) = _
 unfold atI ixN
 have e : (l ++ [97 + i % 26]).toArray.toList.length = l.length + 1 := by simp
 rw [if_neg (by decide), e, if_pos (by omega), show (-1 + ((l.length + 1 : Nat) : Int)).toNat = l.length by omega]
 show (l ++ [97 + i % 26]).toArray.toList[l.length]? = _
 simp
theorem nmO_next (l : List Nat) (i : Nat) : ((⟨l.toArray⟩ : Str) ++ (⟨#[97 + (i % 26 + 1) % 26]⟩ : Str)) = nmO l (i + 1) := by
 show (⟨l.toArray ++ #[97 + (i % 26 + 1) % 26]⟩ : Str) = ⟨(l ++ [97 + (i + 1) % 26]).toArray⟩
 have : (i % 26 + 1) % 26 = (i + 1) % 26 := by omega
 rw [this]
 simp
theorem nodup_leS : ∀ {l k : List Str}, l.Nodup -> (∀ x ∈ l, x ∈ k) -> l.length <= k.length
 | [], _, _, _ => Nat.zero_le _
 | x :: l, k, h, s => by
  have h' := List.nodup_cons.mp h
  have hx : x ∈ k := s x (.head _)
  have := nodup_leS (l := l) (k := k.erase x) h'.2 fun y hy => (List.mem_erase_of_ne (fun e => by subst e; exact h'.1 hy)).mpr (s y (.tail _ hy))
  rw [List.length_erase_of_mem hx] at this
  have hp : 0 < k.length := List.length_pos_of_mem hx
  rw [List.length_cons]
  omega
theorem stepsS {ws : List Str} {l : List Nat} {m0 k : Nat} (hk : k <= 20) (h : ∀ j, j < k -> nmO l (m0 + j) ∈ ws) : k <= ws.length := by
 have hn : ((List.range k).map fun j => nmO l (m0 + j)).Nodup := by
  rw [List.nodup_iff_pairwise_ne, List.pairwise_map]
  refine List.Pairwise.imp_of_mem (R := fun a b => a < b) (fun {a b} ha hb hab e => ?_) List.pairwise_lt_range
  have h2 := List.mem_range.mp ha
  have h3 := List.mem_range.mp hb
  have := nmO_inj e
  omega
 have := nodup_leS hn fun x hx => by
  obtain ⟨j, hj, rfl⟩ := List.mem_map.mp hx
  exact h j (List.mem_range.mp hj)
 simpa using this
theorem nmO_nm {l : List Nat} {i : Nat} (hl : l.length <= 7) (h : ∀ c ∈ l, 97 <= c /\ c <= 122) : Nm (nmO l i) := by
 refine ⟨by rw [nmO_len]; omega, by rw [nmO_len]; omega, fun c hc => ?_⟩
 have hc : c ∈ (l ++ [97 + i % 26]).toArray.toList := hc
 have hc : c ∈ l ++ [97 + i % 26] := by simpa using hc
 rcases List.mem_append.mp hc with hc | hc
 ·exact h c hc
 ·obtain rfl := List.mem_singleton.mp hc
  omega
theorem nmO_of {z : Str} (h1 : 1 <= z.length) (h2 : z.length <= 8) (h : ∀ c ∈ z.cps.toList, 97 <= c /\ c <= 122) : ∃ l m0, m0 < 26 /\ l.length <= 7 /\ (∀ c ∈ l, 97 <= c /\ c <= 122) /\ z = nmO l m0 := by
 have hne : z.cps.toList ≠ [] := fun e => by
  have : z.cps.toList.length = 0 := by rw [e]; rfl
  have h1 : 1 <= z.cps.size := h1
  rw [Array.length_toList] at this
  omega
 have hsp := List.dropLast_concat_getLast hne
 have hm := h _ (List.getLast_mem hne)
 have hlen : z.cps.toList.dropLast.length <= 7 := by
  have h2 : z.cps.size <= 8 := h2
  simp
  omega
 refine ⟨z.cps.toList.dropLast, z.cps.toList.getLast hne - 97, by omega, hlen, fun c hc => h c ((List.dropLast_sublist _).subset hc), ?_⟩
 unfold nmO
 rw [show 97 + (z.cps.toList.getLast hne - 97) % 26 = z.cps.toList.getLast hne by omega, hsp]
theorem tySS {K : Fg_} {z : Str} {H : Hp} : tyV K "str" (.str z) H := by
 unfold tyV
 simp
def sp__law_wares : Sp := fun vs H Q _ => ∃ n : Int, vs = [.int n] /\ ∀ (p : Addr) (ws : List Str) (H' : Hp), Same H H' -> H p = Option.none -> ws.length = 3 -> (∀ w ∈ ws, Nm w) -> ws.Nodup -> H' p = some (.lst (ws.map V.str)) -> Q (.ref p) H'
theorem ok__law_wares (T : Txt K mg A D) : FnOk P w K mg base CX0 1 A._law_wares D._law_wares ["_law_number"] sp__law_wares := by
 refine T.F__law_wares.ok sc__law_wares (fun vs H Q E h => ?_) (fun cdv A' outer s0 H vs Q E hr h => ?_)
 ·obtain ⟨n, rfl, _⟩ := h; rfl
 ·obtain ⟨n, rfl, k⟩ := h
  refine ⟨_, (pss_cons (ps_set (i := 1) sc__law_wares.nd rfl (Or.inl rfl) (pe_lst pa_nil))
   (pss_cons (ps_for PassesOwn.never rfl (pi_range1 (by rfl) T.b_range (pa_cons pe_int pa_nil)) (pg_name (i := 2) sc__law_wares.nd rfl (Or.inl rfl))
    (pss_cons (ps_set (i := 3) sc__law_wares.nd rfl (Or.inl rfl) pe_str)
    (pss_cons (ps_for PassesOwn.never rfl (pi_range1 (by rfl) T.b_range (pa_cons (pe_op op_add pe_int (pe_op op_mod (pv 0) pe_int)) pa_nil)) (pg_name (i := 4) sc__law_wares.nd rfl (Or.inl rfl))
     (pss_cons (ps_set (i := 0) sc__law_wares.nd rfl (Or.inl rfl) (pe_op op_fdivB (pv 0) pe_int))
     (pss_one (ps_set (i := 3) sc__law_wares.nd rfl (Or.inl rfl) (pe_op op_add_str (pv 3) (pe_ix ix_str pe_str (pe_op op_mod (pv 0) pe_int) (fun _ _ => rfl)))))))
    (pss_cons (ps_while PassesOwn.never (pt_cmpR (op_inK (K := K)) (pv 3) (pv 1) (by with_unfolding_all rfl)) (pss_one (ps_set (i := 3) sc__law_wares.nd rfl (Or.inl rfl) (pe_op op_add_str (pe_slice sl_strX (pv 3) po_none (po_some (pe_un un_neg pe_int))) (pe_ix ix_str pe_str (pe_bmK (K := K) PySem.F.plainAttrs_str PySem.F.slot_str_index PySem.F.type_str_index mt_indexS pe_str (pa_cons (pe_ix ix_str (pv 3) (pe_un un_neg pe_int) (fun _ _ => rfl)) pa_nil)) (fun _ _ => rfl))))))
    (pss_one (ps_expr (pe_bmK (K := K) PySem.F.plainAttrs_list PySem.F.slot_list_append PySem.F.type_list_append mt_append (pv 1) (pa_cons (pv 3) pa_nil))))))))
   (pss_one (ps_ret (pv 1))))), ?_⟩
  simp only [start_eq]
  walk_at "nx"
  refine ⟨by rw [sizeLine_eq]; decide, fun p hp => ?_⟩
  have s1 := Same.new (o := .lst []) hp
  have h1 : (upd H p (.lst [])) p = some (.lst []) := upd_same
  generalize upd H p (.lst []) = H1 at s1 h1
  try dsimp only
  rw [ap_seq, ap_for]
  walk_at "rdi"
  refine ⟨by decide, by decide, ?_⟩
  rw [show Int.toNat 3 = 3 from rfl]
  refine ForP.range (lo := 0) (n := 3) (fun i σ H2 => ∃ (n : Int) (ws : List Str) (v2 v3 v4 : Option V), ws.length = i /\ (∀ w ∈ ws, Nm w) /\ ws.Nodup /\ σ = [some (.int n), some (.ref p), v2, v3, v4] /\ Same H H2 /\ H2 p = some (.lst (ws.map V.str)))
   ⟨n, [], _, _, _, rfl, fun w h => (List.not_mem_nil h).elim, .nil, rfl, s1, h1⟩ ?_ ?_
  ·rintro i σ H2 hi ⟨n, ws, v2, v3, v4, hwl, hwn, hwu, rfl, s2, h2⟩
   walk_at "rdi"
   walk_at "nx"
   try dsimp only
   rw [ap_seq, ap_for]
   walk_at "rdi"
   have hn0 := Int.emod_nonneg n (show (8 : Int) ≠ 0 by decide)
   have hn1 := Int.emod_lt_of_pos n (show (0 : Int) < 8 by decide)
   obtain ⟨q, hq⟩ : ∃ q : Nat, (q : Int) = 1 + n % 8 := ⟨(1 + n % 8).toNat, by omega⟩
   rw [<- hq]
   refine ⟨by decide, by omega, by omega, ?_⟩
   rw [Int.toNat_natCast]
   refine ForP.range (lo := 0) (n := q) (fun j σ H3 => ∃ (n : Int) (z : Str) (v4 : Option V), z.length = j /\ (∀ c ∈ z.cps.toList, 97 <= c /\ c <= 122) /\ σ = [some (.int n), some (.ref p), some (.int (0 + (i : Int))), some (.str z), v4] /\ H3 = H2)
    ⟨n, _, _, by decide +kernel, by decide +kernel, rfl, rfl⟩ ?_ ?_
   ·rintro j σ H3 hj ⟨n, z, v4, hzl, hzc, rfl, rfl⟩
    walk_at "rdi"
    walk_at "nx"
    refine ⟨⟨by decide, by decide⟩, ?_⟩
    have hd0 := Int.emod_nonneg (n / 8) (show (26 : Int) ≠ 0 by decide)
    have hd1 := Int.emod_lt_of_pos (n / 8) (show (0 : Int) < 26 by decide)
    obtain ⟨m, hm⟩ : ∃ m : Nat, (m : Int) = n / 8 % 26 := ⟨(n / 8 % 26).toNat, by omega⟩
    rw [<- hm]
    refine ⟨by decide, by rw [sizeLine_eq]; decide +kernel, _, letter_of m (by omega), by rw [sizeLine_eq]; show z.length + 1 <= _; omega, _, _, ?_, fun c hc => ?_, rfl, rfl⟩
    ·show (z.cps ++ #[97 + m]).size = j + 1
     rw [Array.size_append]
     show z.length + 1 = _
     omega
    ·have hc : c ∈ (z.cps ++ #[97 + m]).toList := hc
     have hc : c ∈ z.cps.toList \/ c = 97 + m := by simpa using hc
     rcases hc with hc | hc
     ·exact hzc c hc
     ·omega
   ·rintro σ H3 ⟨n, z, v4, hzl, hzc, rfl, rfl⟩
    obtain ⟨l, m0, hm0, hll, hlc, rfl⟩ := nmO_of (z := z) (by omega) (by omega) hzc
    dsimp only
    rw [ap_seq]
    refine ⟨fun m σ H' => ∃ kk : Nat, m = ws.length - kk /\ kk <= ws.length /\ H' = H3 /\ (∀ j : Nat, j < kk -> nmO l (m0 + j) ∈ ws) /\
     σ = [some (.int n), some (.ref p), some (.int (0 + (i : Int))), some (.str (nmO l (m0 + kk))), v4],
     ⟨_, 0, rfl, Nat.zero_le _, rfl, fun j hj => absurd hj (Nat.not_lt_zero _), rfl⟩, ?_⟩
    rintro m σ H' ⟨kk, rfl, hkk, rfl, hin, rfl⟩
    walk_at "rdi"
    refine ⟨_, .inl (SqL.of h2), rfl, flat_strs _, ?_⟩
    rw [inV_strs]
    by_cases hm' : nmO l (m0 + kk) ∈ ws
    ·rw [if_pos (decide_eq_true hm')]
     have hin' : ∀ j : Nat, j < kk + 1 -> nmO l (m0 + j) ∈ ws := fun j hj => by
      by_cases e : j < kk
      ·exact hin j e
      ·obtain rfl : j = kk := by omega
       exact hm'
     have hle := stepsS (by omega) hin'
     obtain ⟨r, hr2⟩ := occ_at ((m0 + kk) % 26) (Nat.mod_lt _ (by decide))
     refine ⟨_, fun σ' H2 h => h, _, rfl, by rw [sizeLine_eq, nmO_len]; omega, ?_⟩
     refine ⟨tySS, by rw [sizeLine_eq, nmO_len]; omega, _, nmO_last l _, _, _, _, _, rfl, rfl, hr2, _, rfl, by rw [sizeLine_eq]; decide +kernel, _, letter_next _ (Nat.mod_lt _ (by decide)), _, rfl, ?_, ws.length - (kk + 1), by omega, kk + 1, rfl, hle, rfl, hin', ?_⟩
     ·rw [nmO_cut, sizeLine_eq]
      show l.toArray.size + 1 <= _
      simp
      omega
     ·rw [nmO_cut, nmO_next]
      rfl
    ·rw [if_neg (by simpa using hm')]
     refine ⟨tyL (SqL.of h2), _, h2, by rw [List.length_map, sizeLine_eq]; omega, _, ws ++ [nmO l (m0 + kk)], by rw [List.length_append, hwl]; rfl, fun w hw => ?_, ?_, rfl, s2.upd hp, by rw [upd_same, List.map_append]; rfl⟩
     ·rcases List.mem_append.mp hw with hw | hw
      ·exact hwn w hw
      ·obtain rfl := List.mem_singleton.mp hw
       exact nmO_nm hll hlc
     ·refine List.nodup_append.mpr ⟨hwu, by simp, fun y hy z hz => ?_⟩
      obtain rfl := List.mem_singleton.mp hz
      exact fun e => hm' (e ▸ hy)
  ·rintro σ H2 ⟨n, ws, v2, v3, v4, hwl, hwn, hwu, rfl, s2, h2⟩
   walk_at "rda"
   exact k p ws H2 s2 hp hwl hwn hwu h2
end
end My
namespace My
open PySem L2 PyProof.Rows
section
variable {P : Program} {w : World} {K : Fg_} {mg : Str -> Option Value} {base : Heap} {A : Adr} {D : Fds}
def sp_Lot_with_more (A : Adr) : Sp := fun vs H Q _ => ∃ (x : Addr) (d : LotD) (p c : Int), vs = [.ref x, .int p, .int c] /\ IsLot A H x d /\ ∀ y H', Same H H' -> H y = Option.none -> IsLot A H' y ⟨d.n, d.s, d.p + p, d.c + c⟩ -> Q (.ref y) H'
theorem ok_Lot_with_more (T : Txt K mg A D) : FnOk P w K mg base CX0 3 A.Lot_with_more D.Lot_with_more ["self", "pieces", "cost"] (sp_Lot_with_more A) := by
 refine T.F_Lot_with_more.ok sc_Lot_with_more (fun vs H Q E h => ?_) (fun cdv A' outer s H vs Q E hr h => ?_)
 ·obtain ⟨x, d, p, c, rfl, _⟩ := h; rfl
 ·obtain ⟨x, ⟨n, s, p, c⟩, p', c', rfl, ⟨dx, hx⟩, k⟩ := h
  refine ⟨_, (pss_one (ps_ret (pe_make T.mk_Lot (ok_Lot___init__ (K := K) T) (hr.mono (by decide)) (by rfl) T.m_Lot (b_Lot___init__ T) .nil pass0 (pa_cons (pe_fldK (K := K) (pv 0) rfl) (pa_cons (pe_fldK (K := K) (pv 0) rfl) (pa_cons (pe_op op_add (pe_fldK (K := K) (pv 0) rfl) (pv 1)) (pa_cons (pe_op op_add (pe_fldK (K := K) (pv 0) rfl) (pv 2)) pa_nil))))))), ?_⟩
  walk_at "rda"
  refine ⟨_, dx, _, hx, T.cl_Lot, T.n_Lot_number, _, by rfl, ?_⟩
  refine ⟨_, dx, _, hx, T.cl_Lot, T.n_Lot_since, _, by rfl, ?_⟩
  refine ⟨_, dx, _, hx, T.cl_Lot, T.n_Lot_pieces, _, by rfl, ?_⟩
  refine ⟨_, rfl, _, dx, _, hx, T.cl_Lot, T.n_Lot_cost, _, by rfl, _, rfl, fun y dy hy hdy _ => ?_⟩
  exact spLot_of ⟨n, s, p + p', c + c'⟩ hy hdy fun H' sm hL => k y H' sm hy hL
end
end My
namespace My
open PySem L2 PyProof.Rows
section
variable {P : Program} {w : World} {K : Fg_} {mg : Str -> Option Value} {base : Heap} {A : Adr} {D : Fds}
def toI : V -> Int
 | .int i => i
 | _ => 0
local macro_rules | `(tactic| walk_at "nx") => `(tactic| ((try dsimp only); rw [ap_seq]; walk_at "rdi"))
def sp_place_in_row (A : Adr) : Sp := fun vs H Q _ => ∃ (x : Addr) (d : LotD), vs = [.ref x] /\ IsLot A H x d /\ ∀ t, H t = Option.none -> Q (.ref t) (upd H t (.tup [.int d.s, .int d.n]))
theorem ok_place_in_row (T : Txt K mg A D) : FnOk P w K mg base CX0 1 A.place_in_row D.place_in_row ["lot"] (sp_place_in_row A) := by
 refine T.F_place_in_row.ok sc_place_in_row (fun vs H Q E h => ?_) (fun cdv A' outer s0 H vs Q E hr h => ?_)
 ·obtain ⟨x, d, rfl, _⟩ := h; rfl
 ·obtain ⟨x, d, rfl, ⟨dx, hx⟩, k⟩ := h
  refine ⟨_, (pss_one (ps_ret (pe_tup (pa_cons (pe_fldK (K := K) (pv 0) rfl) (pa_cons (pe_fldK (K := K) (pv 0) rfl) pa_nil))))), ?_⟩
  walk_at "rda"
  refine ⟨_, dx, _, hx, T.cl_Lot, T.n_Lot_since, _, by rfl, _, dx, _, hx, T.cl_Lot, T.n_Lot_number, _, by rfl, ?_⟩
  exact ⟨by rw [sizeLine_eq]; decide, fun t ht => k t ht⟩
theorem acc_bools {ls : RL} {f : Addr × LotD -> Bool} {acc : List V} (hl : acc.length = ls.length) (h : ∀ (i : Nat) v, acc[i]? = some v -> ∃ l, ls[i]? = some l /\ v = .bl (f l)) : acc = (ls.map f).map V.bl := by
 refine List.ext_getElem (by simp [hl]) fun i h1 h2 => ?_
 obtain ⟨l, e1, e2⟩ := h i acc[i] (by simp)
 rw [e2]
 have h3 : i < ls.length := by omega
 have : ls[i] = l := by
  rw [List.getElem?_eq_getElem h3] at e1
  exact Option.some.inj e1
 simp [this]
def moreD (d e : LotD) : LotD := if e.n = d.n then ⟨e.n, e.s, e.p + d.p, e.c + d.c⟩ else e
def kfL (H : Hp) : V -> List Int
 | .ref b => match H b with
  | some (.ins _ _ fs) => [toI ((fs.lookup ("since" : Str)).getD .non), toI ((fs.lookup ("number" : Str)).getD .non)]
  | _ => []
 | _ => []
theorem kfL_at {H : Hp} {b : Addr} {d : LotD} (h : IsLot A H b d) : kfL H (.ref b) = [d.s, d.n] := by
 obtain ⟨dx, e⟩ := h
 unfold kfL
 dsimp only
 rw [e]
 rfl
def sp_row_with (A : Adr) : Sp := fun vs H Q _ => ∃ (q x : Addr) (ls : RL) (d : LotD), vs = [.ref q, .ref x] /\ H q = some (.lst (refsR ls)) /\ LotAt A H ls /\ IsLot A H x d /\ ls.length <= 50 /\ (ls.map (·.2.n)).Nodup /\
 ∀ l ls' H', Same H H' -> H l = Option.none -> H' l = some (.lst (refsR ls')) -> LotAt A H' ls' ->
  (d.n ∈ ls.map (·.2.n) -> ls'.map (·.2) = (ls.map (·.2)).map (moreD d)) -> (d.n ∉ ls.map (·.2.n) -> (ls'.map (·.2)).Perm (ls.map (·.2) ++ [d]) /\ (ls'.map (·.2)).Pairwise fun a b => lexB [a.s, a.n] [b.s, b.n] false = true) -> Q (.ref l) H'
theorem ok_row_with (T : Txt K mg A D) : FnOk P w K mg base CX0 4 A.row_with D.row_with ["lots", "lot"] (sp_row_with A) := by
 refine T.F_row_with.ok sc_row_with (fun vs H Q E h => ?_) (fun cdv A' outer s0 H vs Q E hr h => ?_)
 ·obtain ⟨q, x, ls, d, rfl, _⟩ := h; rfl
 ·obtain ⟨q, x, ls, d, rfl, hq, hL, ⟨dx, hx⟩, hl, hu, k⟩ := h
  refine ⟨_, (pss_cons (ps_if (pt_val (pe_callB (call_anyK (K := K) rfl) (by rfl) T.b_any (by decide +kernel) (pa_cons (pe_comp (cap := [Option.none, some 1]) (N' := ["one", "lot"]) rfl (by walk_at "compok") (pi_listK (K := K) (pv 0)) (fun _ _ _ _ => (pg_name (i := 0) (show (["one", "lot"] : List Str).Nodup from by decide +kernel) rfl (Or.inl rfl) (Or.inr rfl))) (fun _ _ _ _ => pts_nil) (fun _ _ _ _ => (pe_cmpR (op_eq) (pe_fldK (K := K) (pv 0) rfl) (pe_fldK (K := K) (pv 1) rfl) (nomark _)))) pa_nil))) (pss_one (ps_ret (pe_comp (cap := [Option.none, some 1]) (N' := ["one", "lot"]) rfl (by walk_at "compok") (pi_listK (K := K) (pv 0)) (fun _ _ _ _ => (pg_name (i := 0) (show (["one", "lot"] : List Str).Nodup from by decide +kernel) rfl (Or.inl rfl) (Or.inr rfl))) (fun _ _ _ _ => pts_nil) (fun _ _ _ _ => (pe_ifExp (pt_cmpR (op_eq) (pe_fldK (K := K) (pv 0) rfl) (pe_fldK (K := K) (pv 1) rfl) (nomark _)) (pe_methD (pv 0) (.cons T.cl_Lot T.me_Lot_with_more (ok_Lot_with_more (K := K) T) (hr.mono (by decide)) (b_Lot_with_more T) .nil) pass0 (pa_cons (pe_fldK (K := K) (pv 1) rfl) (pa_cons (pe_fldK (K := K) (pv 1) rfl) pa_nil))) (pv 0)))))) pss_nil)
   (pss_one (ps_ret (pe_sortKeyK (K := K) (by rfl) (pe_sortKey (ok_place_in_row (K := K) T) (hr.mono (by decide)) (b_place_in_row T) (by rfl) T.b_sorted (by decide +kernel) (by rfl) T.m_place_in_row (pa_cons (pe_op op_cat (pv 0) (pe_lst (pa_cons (pv 1) pa_nil))) pa_nil)))))), ?_⟩
  simp only [start_eq]
  walk_at "nx"
  have hx0 : IsLot A H x d := ⟨dx, hx⟩
  refine ⟨⟨_, SqL.of hq⟩, ?_⟩
  refine CompP.listE (K := K) (fun σ => ∃ a, σ = [a, some (.ref x)]) (fun i v _ => ∃ l, ls[i]? = some l /\ v = .bl (decide (l.2.n = d.n))) (SqL.of hq) ⟨_, rfl⟩ (by rw [refsR_len, sizeLine_eq]; omega) ?_ ?_
  ·rintro Da i y hy σ H5 R ⟨_, rfl⟩ sm hD _ kk
   obtain ⟨l, hl', rfl⟩ := refsR_get hy
   obtain ⟨dy, hdy⟩ := (hL l (get_mem hl')).same sm
   walk_at "rdi"
   refine ⟨_, dy, _, hdy, T.cl_Lot, T.n_Lot_number, _, by rfl, _, dx, _, sm _ _ hx, T.cl_Lot, T.n_Lot_number, _, by rfl, ?_⟩
   exact ⟨rfl, kk _ _ H5 ⟨_, rfl⟩ (Same.refl _) fun H' _ => ⟨l, hl', by simp⟩⟩
  ·intro Da H1 acc hD sm hA hlen hF
   have hacc : acc = (ls.map fun l => decide (l.2.n = d.n)).map V.bl := acc_bools (by rw [hlen, refsR_len]) hF
   rw [hacc] at hA
   walk_at "rdi"
   refine ⟨_, SqL.of hA, ?_⟩
   have hL1 := hL.same sm
   have hx1 := sm _ _ hx
   have hq1 := sm _ _ hq
   by_cases hm : d.n ∈ ls.map (·.2.n)
   ·obtain ⟨l0, hl0, e0⟩ := List.mem_map.mp hm
    rw [if_pos (List.any_eq_true.mpr ⟨true, List.mem_map.mpr ⟨l0, hl0, decide_eq_true e0⟩, rfl⟩)]
    refine ⟨⟨_, SqL.of hq1⟩, ?_⟩
    refine CompP.listE (K := K) (fun σ => ∃ a, σ = [a, some (.ref x)]) (fun i v H' => ∃ b l, ls[i]? = some l /\ v = .ref b /\ IsLot A H' b (moreD d l.2)) (SqL.of hq1) ⟨_, rfl⟩ (by rw [refsR_len, sizeLine_eq]; omega) ?_ ?_
    ·rintro Db i y hy σ H5 R ⟨_, rfl⟩ sm5 hDb ⟨acc5, hA5⟩ kk
     obtain ⟨l, hl', rfl⟩ := refsR_get hy
     obtain ⟨dy, hdy⟩ := (hL1 l (get_mem hl')).same sm5
     have hx5 := sm5 _ _ hx1
     walk_at "rdi"
     refine ⟨_, dy, _, hdy, T.cl_Lot, T.n_Lot_number, _, by rfl, _, dx, _, hx5, T.cl_Lot, T.n_Lot_number, _, by rfl, rfl, ?_⟩
     by_cases e : l.2.n = d.n
     ·rw [if_pos (by simp [e])]
      refine ⟨_, dy, _, hdy, _, List.mem_cons_self, by rfl, _, dx, _, hx5, T.cl_Lot, T.n_Lot_pieces, _, by rfl, _, dx, _, hx5, T.cl_Lot, T.n_Lot_cost, _, by rfl, l.1, l.2, d.p, d.c, rfl, ⟨dy, hdy⟩, fun z H6 s6 hz hZ => kk (.ref z) _ H6 ⟨_, rfl⟩ s6 fun H' hb => ⟨z, l, hl', rfl, ?_⟩⟩
      unfold moreD
      rw [if_pos e]
      exact hZ.but (fun e => by rw [e, hA5] at hz; cases hz) hb
     ·rw [if_neg (by simp [e])]
      refine kk (.ref l.1) _ H5 ⟨_, rfl⟩ (Same.refl _) fun H' hb => ⟨l.1, l, hl', rfl, ?_⟩
      unfold moreD
      rw [if_neg e]
      exact IsLot.but ⟨dy, hdy⟩ (fun e => by rw [e, hA5] at hdy; cases hdy) hb
    ·intro Db H4 acc4 hDb sm4 hA4 hlen4 hF4
     rw [refsR_len] at hlen4
     obtain ⟨ls', q1, q2, q3⟩ := refs_of (fun _ H r => IsLot A H r.1 r.2) (H := H4) (acc := acc4) (ds := (ls.map (·.2)).map (moreD d)) (by rw [hlen4, List.length_map, List.length_map]) fun i v hv => by
      obtain ⟨b, l, h1, h2, h3⟩ := hF4 i v hv
      exact ⟨b, _, by rw [List.getElem?_map, List.getElem?_map, h1]; rfl, h2, h3⟩
     exact k Db ls' H4 (sm.trans sm4) (sm.free hDb) (q1 ▸ hA4) q3 (fun _ => q2) fun h => (h hm).elim
   ·rw [if_neg (fun h => hm ?_)]
    ·obtain ⟨os, hos⟩ : ∃ os : RL, os = ls ++ [(x, d)] := ⟨_, rfl⟩
     have hosr : refsR ls ++ [V.ref x] = refsR os := by rw [hos]; unfold refsR; rw [List.map_append]; rfl
     refine ⟨by rw [sizeLine_eq]; decide, fun p hp => ⟨_, Same.new hp _ _ hq1, _, upd_same, by rw [refsR_len, sizeLine_eq]; show ls.length + 1 <= _; omega, fun p1 hp1 => ?_⟩⟩
     rw [hosr]
     have s2 := sm.trans ((Same.new (o := .lst [V.ref x]) hp).trans (Same.new (o := .lst (refsR os)) hp1))
     have h2 : (upd (upd H1 p (.lst [V.ref x])) p1 (.lst (refsR os))) p1 = some (.lst (refsR os)) := upd_same
     generalize upd (upd H1 p (.lst [V.ref x])) p1 (.lst (refsR os)) = H2 at s2 h2
     have hO : LotAt A H2 os := fun o ho => by
      rw [hos] at ho
      rcases List.mem_append.mp ho with ho | ho
      ·exact (hL o ho).same s2
      ·obtain rfl := List.mem_singleton.mp ho
       exact hx0.same s2
     have hol : os.length <= 51 := by rw [hos, List.length_append, List.length_singleton]; omega
     have hou : os.Pairwise fun a b => a.2.n ≠ b.2.n := by
      have hnd : (os.map fun r => r.2.n).Nodup := by
       rw [hos, List.map_append]
       refine List.nodup_append.mpr ⟨hu, by simp, fun y hy z hz => ?_⟩
       obtain rfl := List.mem_singleton.mp hz
       exact fun e => hm ((show y = d.n from e) ▸ hy)
      exact List.pairwise_map.mp hnd
     refine ⟨_, SqL.of h2, by rw [refsR_len]; omega, kfL H2, fun y hy => ?_, fun p2 zs H3 s3 hn hz hperm hord => ?_⟩
     ·obtain ⟨o, ho, rfl⟩ := List.mem_map.mp hy
      rw [kfL_at (hO o ho)]
      refine ⟨by simp, fun H5 s5 R hR => ⟨o.1, o.2, rfl, (hO o ho).same s5, fun t ht => hR t _ (Same.new ht) ?_⟩⟩
      rw [kfL_at (hO o ho)]
      exact upd_same
     ·obtain ⟨os', rfl, hpm⟩ := perm_pull (f := fun r => V.ref r.1) hperm rfl
      have hor := hord 2 (fun y hy => by
       obtain ⟨r, hr, rfl⟩ := List.mem_map.mp hy
       rw [kfL_at (hO r hr)]
       rfl) (by
       refine List.pairwise_map.mpr (List.pairwise_map.mpr (List.Pairwise.imp_of_mem (fun {a b} ha hb hne z => hne ?_) hou))
       rw [kfL_at (hO a ha), kfL_at (hO b hb)] at z
       exact (List.cons.inj (List.cons.inj z).2).1)
      refine k p2 os' H3 (s2.trans s3) (s2.free hn) hz (fun r hr => (hO r (hpm.mem_iff.mp hr)).same s3) (fun h => (hm h).elim) fun _ => ⟨?_, ?_⟩
      ·have := hpm.map (·.2)
       rw [hos, List.map_append] at this
       exact this
      ·refine List.pairwise_map.mpr (List.Pairwise.imp_of_mem (fun {a b} ha hb h => ?_) (List.pairwise_map.mp hor))
       rw [kfL_at (hO a (hpm.mem_iff.mp ha)), kfL_at (hO b (hpm.mem_iff.mp hb))] at h
       exact h
    ·obtain ⟨b, hb, eb⟩ := List.any_eq_true.mp h
     obtain ⟨l0, hl0, e0⟩ := List.mem_map.mp hb
     have eb : b = true := eb
     rw [eb] at e0
     exact List.mem_map.mpr ⟨l0, hl0, of_decide_eq_true e0⟩
end
end My
namespace My
open PySem L2 PyProof.Rows
section
variable {P : Program} {w : World} {K : Fg_} {mg : Str -> Option Value} {base : Heap} {A : Adr} {D : Fds}
local macro_rules | `(tactic| walk_at "nx") => `(tactic| ((try dsimp only); rw [ap_seq]; walk_at "rdi"))
theorem acc_ints {ls : RL} {f : Addr × LotD -> Int} {acc : List V} (hl : acc.length = ls.length) (h : ∀ (i : Nat) v, acc[i]? = some v -> ∃ l, ls[i]? = some l /\ v = .int (f l)) : acc = (ls.map f).map V.int := by
 refine List.ext_getElem (by simp [hl]) fun i h1 h2 => ?_
 obtain ⟨l, e1, e2⟩ := h i acc[i] (by simp)
 rw [e2]
 have h3 : i < ls.length := by omega
 have : ls[i] = l := by
  rw [List.getElem?_eq_getElem h3] at e1
  exact Option.some.inj e1
 simp [this]
def sp_cost_in (A : Adr) : Sp := fun vs H Q _ => ∃ (q : Addr) (ls : RL), vs = [.ref q] /\ H q = some (.lst (refsR ls)) /\ LotAt A H ls /\ ls.length <= 100 /\ ∀ H', Same H H' -> Q (.int ((ls.map (·.2)).map LotD.c).sum) H'
theorem ok_cost_in (T : Txt K mg A D) : FnOk P w K mg base CX0 1 A.cost_in D.cost_in ["lots"] (sp_cost_in A) := by
 refine T.F_cost_in.ok sc_cost_in (fun vs H Q E h => ?_) (fun cdv A' outer s0 H vs Q E hr h => ?_)
 ·obtain ⟨q, ls, rfl, _⟩ := h; rfl
 ·obtain ⟨q, ls, rfl, hq, hL, hl, k⟩ := h
  refine ⟨_, (pss_one (ps_ret (pe_callB (call_sumK (K := K) rfl) (by rfl) T.b_sum (by decide +kernel) (pa_cons (pe_comp (cap := [Option.none]) (N' := ["lot"]) rfl (by walk_at "compok") (pi_listK (K := K) (pv 0)) (fun _ _ _ _ => (pg_name (i := 0) (show (["lot"] : List Str).Nodup from by decide +kernel) rfl (Or.inl rfl) (Or.inr rfl))) (fun _ _ _ _ => pts_nil) (fun _ _ _ _ => (pe_fldK (K := K) (pv 0) rfl))) pa_nil)))), ?_⟩
  walk_at "rda"
  refine ⟨⟨_, SqL.of hq⟩, ?_⟩
  refine CompP.listE (K := K) (fun σ => ∃ a, σ = [a]) (fun i v _ => ∃ l, ls[i]? = some l /\ v = .int l.2.c) (SqL.of hq) ⟨_, rfl⟩ (by rw [refsR_len, sizeLine_eq]; omega) ?_ ?_
  ·rintro Da i x hx σ H5 R ⟨_, rfl⟩ sm hD _ kk
   obtain ⟨l, hl', rfl⟩ := refsR_get hx
   obtain ⟨dx, hdx⟩ := (hL l (get_mem hl')).same sm
   walk_at "rdi"
   exact ⟨_, dx, _, hdx, T.cl_Lot, T.n_Lot_cost, _, by rfl, kk _ _ H5 ⟨_, rfl⟩ (Same.refl _) fun H' _ => ⟨l, hl', rfl⟩⟩
  ·intro Da H' acc hD sm hA hlen hF
   rw [acc_ints (f := fun l => l.2.c) (by rw [hlen, refsR_len]) hF] at hA
   have ec : (ls.map (·.2)).map LotD.c = ls.map (fun l => l.2.c) := by rw [List.map_map]; rfl
   rw [ec] at k
   walk_at "rda"
   exact ⟨_, SqL.of hA, k H' sm⟩
def sp_pieces_in (A : Adr) : Sp := fun vs H Q _ => ∃ (q : Addr) (ls : RL), vs = [.ref q] /\ H q = some (.lst (refsR ls)) /\ LotAt A H ls /\ ls.length <= 100 /\ ∀ H', Same H H' -> Q (.int ((ls.map (·.2)).map LotD.p).sum) H'
theorem ok_pieces_in (T : Txt K mg A D) : FnOk P w K mg base CX0 1 A.pieces_in D.pieces_in ["lots"] (sp_pieces_in A) := by
 refine T.F_pieces_in.ok sc_pieces_in (fun vs H Q E h => ?_) (fun cdv A' outer s0 H vs Q E hr h => ?_)
 ·obtain ⟨q, ls, rfl, _⟩ := h; rfl
 ·obtain ⟨q, ls, rfl, hq, hL, hl, k⟩ := h
  refine ⟨_, (pss_one (ps_ret (pe_callB (call_sumK (K := K) rfl) (by rfl) T.b_sum (by decide +kernel) (pa_cons (pe_comp (cap := [Option.none]) (N' := ["lot"]) rfl (by walk_at "compok") (pi_listK (K := K) (pv 0)) (fun _ _ _ _ => (pg_name (i := 0) (show (["lot"] : List Str).Nodup from by decide +kernel) rfl (Or.inl rfl) (Or.inr rfl))) (fun _ _ _ _ => pts_nil) (fun _ _ _ _ => (pe_fldK (K := K) (pv 0) rfl))) pa_nil)))), ?_⟩
  walk_at "rda"
  refine ⟨⟨_, SqL.of hq⟩, ?_⟩
  refine CompP.listE (K := K) (fun σ => ∃ a, σ = [a]) (fun i v _ => ∃ l, ls[i]? = some l /\ v = .int l.2.p) (SqL.of hq) ⟨_, rfl⟩ (by rw [refsR_len, sizeLine_eq]; omega) ?_ ?_
  ·rintro Da i x hx σ H5 R ⟨_, rfl⟩ sm hD _ kk
   obtain ⟨l, hl', rfl⟩ := refsR_get hx
   obtain ⟨dx, hdx⟩ := (hL l (get_mem hl')).same sm
   walk_at "rdi"
   exact ⟨_, dx, _, hdx, T.cl_Lot, T.n_Lot_pieces, _, by rfl, kk _ _ H5 ⟨_, rfl⟩ (Same.refl _) fun H' _ => ⟨l, hl', rfl⟩⟩
  ·intro Da H' acc hD sm hA hlen hF
   rw [acc_ints (f := fun l => l.2.p) (by rw [hlen, refsR_len]) hF] at hA
   have ec : (ls.map (·.2)).map LotD.p = ls.map (fun l => l.2.p) := by rw [List.map_map]; rfl
   rw [ec] at k
   walk_at "rda"
   exact ⟨_, SqL.of hA, k H' sm⟩
end
end My
namespace My
open PySem L2 PyProof.Rows
section
variable {P : Program} {w : World} {K : Fg_} {mg : Str -> Option Value} {base : Heap} {A : Adr} {D : Fds}
structure Held (kvs : List (Key × V)) : Prop where
 k : ∀ kv ∈ kvs, ∃ (z : Str) (i : Int), kv = (Sum.inr z, .int i) /\ 1 <= i
 u : (kvs.map (·.1)).Nodup
def heldI (kvs : List (Key × V)) (z : Str) : Int := match valV kvs (Sum.inr z) with
 | some (.int i) => i
 | _ => 0
theorem val_mem : ∀ {kvs : List (Key × V)} {k : Key} {v : V}, valV kvs k = some v -> (k, v) ∈ kvs
 | [], _, _, h => by cases h
 | p :: kvs, k, v, h => by
  by_cases e : p.1 = k
  ·rw [valV_pos e] at h
   cases h
   rw [<- e]
   exact List.mem_cons_self
  ·rw [valV_neg e] at h
   exact List.mem_cons_of_mem _ (val_mem h)
theorem val_of_mem : ∀ {kvs : List (Key × V)} {k : Key} {v : V}, (kvs.map (·.1)).Nodup -> (k, v) ∈ kvs -> valV kvs k = some v
 | p :: kvs, k, v, hu, h => by
  rw [List.map_cons, List.nodup_cons] at hu
  rcases List.mem_cons.mp h with e | h
  ·subst e
   exact valV_pos rfl
  ·have : p.1 ≠ k := fun e => hu.1 (by rw [e]; exact List.mem_map.mpr ⟨(k, v), h, rfl⟩)
   rw [valV_neg this]
   exact val_of_mem hu.2 h
theorem Held.val {kvs : List (Key × V)} (h : Held kvs) (z : Str) : valV kvs (Sum.inr z) = if 0 < heldI kvs z then some (.int (heldI kvs z)) else Option.none := by
 unfold heldI
 cases e : valV kvs (Sum.inr z) with
 | none => rfl
 | some v =>
  obtain ⟨y, i, ey, hi⟩ := h.k _ (val_mem e)
  cases ey
  rw [if_pos (show (0 : Int) < i by omega)]
theorem Held.nn {kvs : List (Key × V)} (h : Held kvs) (z : Str) : 0 <= heldI kvs z := by
 have := h.val z
 by_cases e : 0 < heldI kvs z
 ·omega
 ·rw [if_neg e] at this
  unfold heldI
  rw [this]
  exact Int.le_refl _
theorem held_nil : Held [] := ⟨fun kv h => (List.not_mem_nil h).elim, .nil⟩
theorem heldI_get {kvs : List (Key × V)} (h : Held kvs) (z : Str) : (valV kvs (Sum.inr z)).getD (.int 0) = .int (heldI kvs z) := by
 rw [h.val z]
 have := h.nn z
 split
 ·rfl
 ·show V.int 0 = V.int (heldI kvs z)
  congr 1
  omega
theorem mem_keys {kvs : List (Key × V)} (h : Held kvs) {k : Key} : k ∈ kvs.map (·.1) ↔ ∃ z, k = Sum.inr z /\ 0 < heldI kvs z := by
 constructor
 ·intro hk
  obtain ⟨kv, hkv, rfl⟩ := List.mem_map.mp hk
  obtain ⟨z, i, e, hi⟩ := h.k kv hkv
  subst e
  refine ⟨z, rfl, ?_⟩
  have := val_of_mem h.u hkv
  unfold heldI
  rw [this]
  show 0 < i
  omega
 ·rintro ⟨z, rfl, hz⟩
  have := h.val z
  rw [if_pos hz] at this
  exact List.mem_map.mpr ⟨_, val_mem this, rfl⟩
theorem nodup_len {α : Type} [DecidableEq α] : ∀ {l k : List α}, l.Nodup -> (∀ x ∈ l, x ∈ k) -> l.length <= k.length
 | [], _, _, _ => Nat.zero_le _
 | x :: l, k, h, s => by
  have h' := List.nodup_cons.mp h
  have hx : x ∈ k := s x (.head _)
  have := nodup_len (l := l) (k := k.erase x) h'.2 fun y hy => (List.mem_erase_of_ne (fun e => by subst e; exact h'.1 hy)).mpr (s y (.tail _ hy))
  rw [List.length_erase_of_mem hx] at this
  have hp : 0 < k.length := List.length_pos_of_mem hx
  rw [List.length_cons]
  omega
theorem held_alike {ka kb : List (Key × V)} (ha : Held ka) (hb : Held kb) (h : ∀ z, heldI ka z = heldI kb z) : Alike ka kb := by
 have hsub : ∀ {p q : List (Key × V)}, Held p -> Held q -> (∀ z, heldI p z = heldI q z) -> p.length <= q.length := fun {p q} hp hq e => by
  have := nodup_len (l := p.map (·.1)) (k := q.map (·.1)) hp.u fun k hk => by
   obtain ⟨z, rfl, hz⟩ := (mem_keys hp).mp hk
   exact (mem_keys hq).mpr ⟨z, rfl, by rw [<- e]; exact hz⟩
  rwa [List.length_map, List.length_map] at this
 refine ⟨Nat.le_antisymm (hsub ha hb h) (hsub hb ha fun z => (h z).symm), fun kv hkv => ?_⟩
 obtain ⟨z, i, e, hi⟩ := ha.k kv hkv
 subst e
 refine ⟨i, rfl, ?_⟩
 have h1 := val_of_mem ha.u hkv
 have h2 : heldI ka z = i := by unfold heldI; rw [h1]
 rw [hb.val z, <- h z, h2, if_pos (by omega)]
def posK (kv : Key × V) : Bool := match kv.2 with
 | .int i => decide (0 < i)
 | _ => false
theorem put_nodup {kvs : List (Key × V)} {k : Key} {v : V} (hu : (kvs.map (·.1)).Nodup) : ((putK kvs k v).map (·.1)).Nodup := by
 cases e : valV kvs k with
 | none => exact nd_putK v hu e
 | some w =>
  unfold putK
  rw [if_pos (by rw [valV_any, e]; rfl), List.map_map]
  have : ((fun x : Key × V => x.1) ∘ fun kv : Key × V => if kv.1 = k then (kv.1, v) else kv) = fun x => x.1 := by
   funext kv
   show (if kv.1 = k then (kv.1, v) else kv).1 = kv.1
   split <;> rfl
  rw [this]
  exact hu
theorem put_mem {kvs : List (Key × V)} {k : Key} {v : V} {p : Key × V} (h : p ∈ putK kvs k v) : p = (k, v) \/ p ∈ kvs := by
 unfold putK at h
 split at h
 ·obtain ⟨q, hq, rfl⟩ := List.mem_map.mp h
  split
  ·rename_i e
   exact .inl (by rw [e])
  ·exact .inr hq
 ·rcases List.mem_append.mp h with h | h
  ·exact .inr h
  ·exact .inl (List.mem_singleton.mp h)
theorem put_len (kvs : List (Key × V)) (k : Key) (v : V) : (putK kvs k v).length <= kvs.length + 1 := by
 unfold putK
 split
 ·rw [List.length_map]; omega
 ·rw [List.length_append]; exact Nat.le_refl _
def withK (kvs : List (Key × V)) (z : Str) (n : Int) : List (Key × V) := (putK kvs (Sum.inr z) (.int n)).filter posK
theorem with_held {kvs : List (Key × V)} (h : Held kvs) (z : Str) (n : Int) : Held (withK kvs z n) := by
 refine ⟨fun kv hkv => ?_, List.Nodup.sublist (List.filter_sublist.map _) (put_nodup h.u)⟩
 obtain ⟨h1, h2⟩ := List.mem_filter.mp hkv
 rcases put_mem h1 with rfl | h1
 ·have h2 : decide (0 < n) = true := h2
  exact ⟨z, n, rfl, by have := of_decide_eq_true h2; omega⟩
 ·exact h.k kv h1
theorem fold_put : ∀ (ps : List (Key × V)) (acc : List (Key × V)), ((acc ++ ps).map (·.1)).Nodup -> ps.foldl (fun a p => putK a p.1 p.2) acc = acc ++ ps
 | [], acc, _ => by rw [List.append_nil]; rfl
 | p :: ps, acc, hu => by
  have hno : valV acc p.1 = Option.none := by
   cases h : valV acc p.1 with
   | none => rfl
   | some v =>
    rw [List.map_append, List.map_cons] at hu
    exact absurd rfl ((List.nodup_append.mp hu).2.2 p.1 (List.mem_map.mpr ⟨(p.1, v), val_mem h, rfl⟩) p.1 List.mem_cons_self)
  rw [List.foldl_cons]
  have e : putK acc p.1 p.2 = acc ++ [p] := by
   unfold putK
   rw [if_neg (by rw [valV_any, hno]; simp)]
  rw [e, fold_put ps (acc ++ [p]) (by rw [List.append_assoc]; exact hu), List.append_assoc]
  rfl
def vK : V -> Key
 | .str z => Sum.inr z
 | .int i => Sum.inl i
 | _ => Sum.inl 0
theorem vK_kV (k : Key) : vK (kV k) = k := by cases k <;> rfl
def kfD (H : Hp) : V -> Key
 | .ref b => match H b with
  | some (.tup [x, _]) => vK x
  | _ => Sum.inl 0
 | _ => Sum.inl 0
def vfD (H : Hp) : V -> V
 | .ref b => match H b with
  | some (.tup [_, y]) => y
  | _ => .non
 | _ => .non
theorem kfD_at {H : Hp} {b : Addr} {kv : Key × V} (h : H b = some (.tup [kV kv.1, kv.2])) : kfD H (.ref b) = kv.1 := by
 unfold kfD
 dsimp only
 rw [h]
 exact vK_kV _
theorem vfD_at {H : Hp} {b : Addr} {kv : Key × V} (h : H b = some (.tup [kV kv.1, kv.2])) : vfD H (.ref b) = kv.2 := by
 unfold vfD
 dsimp only
 rw [h]
theorem pair_is {H : Hp} {ps : List (Key × V)} {acc : List V} (hl : acc.length = ps.length) (h : ∀ (i : Nat) v, acc[i]? = some v -> ∃ kv, ps[i]? = some kv /\ ∃ b, v = .ref b /\ H b = some (.tup [kV kv.1, kv.2])) (hu : (ps.map (·.1)).Nodup) : pairK (kfD H) (vfD H) acc = ps := by
 have e : acc.map (fun y => (kfD H y, vfD H y)) = ps := by
  refine List.ext_getElem? fun i => ?_
  rw [List.getElem?_map]
  by_cases hi : i < acc.length
  ·obtain ⟨kv, h1, b, h2, h3⟩ := h i _ (List.getElem?_eq_getElem hi)
   rw [List.getElem?_eq_getElem hi, h2, h1]
   show some (kfD H (.ref b), vfD H (.ref b)) = some kv
   rw [kfD_at h3, vfD_at h3]
  ·rw [List.getElem?_eq_none (by omega), List.getElem?_eq_none (by omega)]
   rfl
 have := fold_put (acc.map fun y => (kfD H y, vfD H y)) [] (by rw [List.nil_append, e]; exact hu)
 rw [List.foldl_map, List.nil_append] at this
 unfold pairK
 rw [this, e]
end
end My
namespace My
open PySem L2 PyProof.Rows
section
variable {P : Program} {w : World} {K : Fg_} {mg : Str -> Option Value} {base : Heap} {A : Adr} {D : Fds}
local macro_rules | `(tactic| walk_at "nx") => `(tactic| ((try dsimp only); rw [ap_seq]; walk_at "rdi"))
def sp_held_with : Sp := fun vs H Q _ => ∃ (a : Addr) (kvs : List (Key × V)) (z : Str) (n : Int), vs = [.ref a, .str z, .int n] /\ Rd H a (.dK kvs) /\ Held kvs /\ kvs.length <= 100 /\
 ∀ p H', Same H H' -> H p = Option.none -> H' p = some (.dK (withK kvs z n)) -> Q (.ref p) H'
theorem ok_held_with (T : Txt K mg A D) : FnOk P w K mg base CX0 1 A.held_with D.held_with ["held", "ware", "pieces"] (sp_held_with) := by
 refine T.F_held_with.ok sc_held_with (fun vs H Q E h => ?_) (fun cdv A' outer s0 H vs Q E hr h => ?_)
 ·obtain ⟨a, kvs, z, n, rfl, _⟩ := h; rfl
 ·obtain ⟨a, kvs, z, n, rfl, ha, hH, hl, k⟩ := h
  refine ⟨_, (pss_cons (ps_set (i := 3) sc_held_with.nd rfl (Or.inl rfl) (pe_callTy call_dictOf (by rfl) T.b_dict (by decide +kernel) (pa_cons (pv 0) pa_nil)))
   (pss_cons (ps_dput (hu_of hr) (pv 3) (pv 1) (pv 2) rfl)
   (pss_one (ps_ret (pe_callTy (call_dictPairsK (K := K) rfl) (by rfl) T.b_dict (by decide +kernel) (pa_cons (pe_comp (cap := [Option.none, Option.none]) (N' := ["name", "count"]) rfl (by walk_at "compok") (pi_items (pe_bm0K (K := K) PySem.F.plainAttrs_dict PySem.F.slot_dict_items PySem.F.type_dict_items mt_items (pv 3))) (fun _ _ _ _ => (pg_tupK (K := K) (n := 2) rfl (pgs_cons (pg_name (i := 0) (show (["name", "count"] : List Str).Nodup from by decide +kernel) rfl (Or.inl rfl) (Or.inr rfl)) (pgs_cons (pg_name (i := 1) (show (["name", "count"] : List Str).Nodup from by decide +kernel) rfl (Or.inl rfl) (Or.inr rfl)) pgs_nil)))) (fun _ _ _ _ => (pts_one (pt_cmpR (op_gt) (pv 1) pe_int (nomark _)))) (fun _ _ _ _ => (pe_tup (pa_cons (pv 0) (pa_cons (pv 1) pa_nil))))) pa_nil)))))), ?_⟩
  simp only [start_eq]
  walk_at "nx"
  refine ⟨_, ha, fun pc hpc => ?_⟩
  have n1 := Same.new (o := .dK kvs) hpc
  have h1 : (upd H pc (.dK kvs)) pc = some (.dK kvs) := upd_same
  generalize upd H pc (.dK kvs) = H1 at n1 h1
  walk_at "nx"
  obtain ⟨P, hP⟩ : ∃ P, putK kvs (Sum.inr z) (.int n) = P := ⟨_, rfl⟩
  have hPl : P.length <= 101 := by rw [<- hP]; have := put_len kvs (Sum.inr z) (.int n); omega
  have hPi : ∀ kv ∈ P, ∃ (y : Str) (i : Int), kv = (Sum.inr y, .int i) := fun kv hkv => by
   rw [<- hP] at hkv
   rcases put_mem hkv with rfl | h0
   ·exact ⟨z, n, rfl⟩
   ·obtain ⟨y, i, e, _⟩ := hH.k kv h0
    exact ⟨y, i, e⟩
  refine ⟨_, DPut.k (k := Sum.inr z) h1 (by rw [sizeLine_eq]; omega), ?_⟩
  rw [hP]
  have s2 : Same H (upd H1 pc (.dK P)) := n1.upd hpc
  have h2 : (upd H1 pc (.dK P)) pc = some (.dK P) := upd_same
  generalize upd H1 pc (.dK P) = H2 at s2 h2
  refine ⟨.inr (.inr (.inl ⟨rfl, .inl ⟨_, h2⟩⟩)), _, h2, fun v hv => ⟨pc, upd_same, P, ?_, fun o => ?_⟩⟩
  ·exact (upd_ne (ne_of_none h2 hv)).trans h2
  have s3 : Same H (upd (upd H2 v (viewI v pc)) pc (.frz o (.dK P))) := (s2.trans (Same.new hv)).upd hpc
  have h3 : (upd (upd H2 v (viewI v pc)) pc (.frz o (.dK P))) pc = some (.frz o (.dK P)) := upd_same
  generalize upd (upd H2 v (viewI v pc)) pc (.frz o (.dK P)) = H3 at s3 h3
  refine CompP.itemsF (fun σ => ∃ a b, σ = [a, b]) posK (fun kv v H' => ∃ b, v = .ref b /\ H' b = some (.tup [kV kv.1, kv.2])) h3 ⟨_, _, rfl⟩ (by rw [sizeLine_eq]; omega) ?_ ?_
  ·rintro D i kv hkv σ H5 p R1 R2 ⟨_, _, rfl⟩ s5 hD ⟨acc, hA⟩ hp k1 k2
   obtain ⟨y, j, rfl⟩ := hPi kv (List.mem_of_getElem? hkv)
   have h6 : (upd H5 p (.tup [kV (Sum.inr y), .int j])) p = some (.tup [.str y, .int j]) := upd_same
   have hA6 := Same.new (o := .tup [kV (Sum.inr y), .int j]) hp _ _ hA
   generalize upd H5 p (.tup [kV (Sum.inr y), .int j]) = H6 at h6 hA6 k1 k2
   walk_at "rdi"
   refine ⟨_, SqT.of h6, rfl, _, _, rfl, _, _, rfl, rfl, _, rfl, ?_⟩
   by_cases hj : 0 < j
   ·rw [if_pos hj]
    exact ⟨by rw [sizeLine_eq]; decide, fun t ht => k1 (decide_eq_true hj) _ _ _ ⟨_, _, rfl⟩ (Same.new ht) fun H' hb => ⟨t, rfl, hb _ _ (fun e => by rw [e, hA6] at ht; cases ht) upd_same⟩⟩
   ·rw [if_neg hj]
    exact k2 (decide_eq_false hj) _ _ ⟨_, _, rfl⟩ (Same.refl _)
  ·intro D H4 acc hD s4 hA hlen hF
   have hF' : ∀ (i : Nat) v, acc[i]? = some v -> ∃ kv, (P.filter posK)[i]? = some kv /\ ∃ b, v = .ref b /\ H4 b = some (.tup [kV kv.1, kv.2]) := hF
   have hnd : ((P.filter posK).map (·.1)).Nodup := by
    have := (with_held hH z n).u
    unfold withK at this
    rwa [hP] at this
   have hle : (P.filter posK).length <= 101 := Nat.le_trans (List.length_filter_le _ _) hPl
   rw [ap_dictPairs]
   refine ⟨acc, kfD H4, vfD H4, SqL.of hA, by omega, fun y hy => ?_, fun p hp => ?_⟩
   ·obtain ⟨i, hi, e⟩ := List.getElem_of_mem hy
    obtain ⟨kv, _, b, rfl, hb⟩ := hF' i y (by rw [List.getElem?_eq_getElem hi, e])
    exact ⟨b, rfl, by rw [kfD_at hb, vfD_at hb]; exact SqT.of hb⟩
   ·rw [pair_is hlen hF' hnd]
    have S := s3.trans s4
    refine k p _ (S.trans (Same.new hp)) (S.free hp) ?_
    rw [upd_same]
    unfold withK
    rw [hP]
def sp_held_with_more : Sp := fun vs H Q _ => ∃ (a : Addr) (kvs : List (Key × V)) (z : Str) (n : Int), vs = [.ref a, .str z, .int n] /\ Rd H a (.dK kvs) /\ Held kvs /\ kvs.length <= 100 /\
 ∀ p H', Same H H' -> H p = Option.none -> H' p = some (.dK (withK kvs z (heldI kvs z + n))) -> Q (.ref p) H'
theorem ok_held_with_more (T : Txt K mg A D) : FnOk P w K mg base CX0 2 A.held_with_more D.held_with_more ["held", "ware", "pieces"] (sp_held_with_more) := by
 refine T.F_held_with_more.ok sc_held_with_more (fun vs H Q E h => ?_) (fun cdv A' outer s0 H vs Q E hr h => ?_)
 ·obtain ⟨a, kvs, z, n, rfl, _⟩ := h; rfl
 ·obtain ⟨a, kvs, z, n, rfl, ha, hH, hl, k⟩ := h
  refine ⟨_, (pss_one (ps_ret (pe_call (ok_held_with (K := K) T) (hr.mono (by decide)) (by rfl) T.m_held_with T.k_held_with (b_held_with T) .nil pass0 (pa_cons (pv 0) (pa_cons (pv 1) (pa_cons (pe_op op_add (pe_dget2 (hu_of hr) (pv 0) (pv 1) pe_int ⟨rfl, rfl, rfl, rfl⟩) (pv 2)) pa_nil)))))), ?_⟩
  walk_at "rda"
  exact ⟨.inl ⟨_, ha⟩, _, .inl ⟨kvs, Sum.inr z, ha, rfl, rfl⟩, heldI kvs z, heldI_get hH z, a, kvs, z, _, rfl, ha, hH, hl, k⟩
end
end My
namespace My
open PySem L2 PyProof.Rows
section
variable {P : Program} {w : World} {K : Fg_} {mg : Str -> Option Value} {base : Heap} {A : Adr} {D : Fds}
local macro_rules | `(tactic| walk_at "nx") => `(tactic| ((try dsimp only); rw [ap_seq]; walk_at "rdi"))
def spBeh2 (A : Adr) (b : Bool) : Sp := fun vs H Q _ => ∃ (x a : Addr) (e : E2) (kvs : List (Key × V)), e.isBuy = b /\ vs = [.ref x, .ref a] /\ IsE2 A H x e /\ Rd H a (.dK kvs) /\ Held kvs /\ kvs.length <= 100 /\
 ∀ p H', Same H H' -> H p = Option.none -> Q (.ref p) H'
theorem ok_Buy_held_behind (T : Txt K mg A D) : FnOk P w K mg base CX0 3 A.Buy_held_behind D.Buy_held_behind ["self", "held"] (spBeh2 A true) := by
 refine T.F_Buy_held_behind.ok sc_Buy_held_behind (fun vs H Q E h => ?_) (fun cdv A' outer s0 H vs Q E hr h => ?_)
 ·obtain ⟨x, a, e, kvs, _, rfl, _⟩ := h; rfl
 ·obtain ⟨x, a, e, kvs, hk, rfl, ⟨dx, hx⟩, ha, hH, hl, k⟩ := h
  refine ⟨_, (pss_one (ps_ret (pe_call (ok_held_with_more (K := K) T) (hr.mono (by decide)) (by rfl) T.m_held_with_more T.k_held_with_more (b_held_with_more T) .nil pass0 (pa_cons (pv 1) (pa_cons (pe_fldK (K := K) (pv 0) rfl) (pa_cons (pe_fldK (K := K) (pv 0) rfl) pa_nil)))))), ?_⟩
  cases e with
  | buy d n w p r f =>
   walk_at "rda"
   exact ⟨_, dx, _, hx, T.cl_Buy, T.n_Buy_ware, _, by rfl, _, dx, _, hx, T.cl_Buy, T.n_Buy_pieces, _, by rfl, a, kvs, w, p, rfl, ha, hH, hl, fun q H' s h1 h2 => k q H' s h1⟩
  | gift => cases hk
theorem ok_Gift_held_behind (T : Txt K mg A D) : FnOk P w K mg base CX0 3 A.Gift_held_behind D.Gift_held_behind ["self", "held"] (spBeh2 A false) := by
 refine T.F_Gift_held_behind.ok sc_Gift_held_behind (fun vs H Q E h => ?_) (fun cdv A' outer s0 H vs Q E hr h => ?_)
 ·obtain ⟨x, a, e, kvs, _, rfl, _⟩ := h; rfl
 ·obtain ⟨x, a, e, kvs, hk, rfl, ⟨dx, hx⟩, ha, hH, hl, k⟩ := h
  refine ⟨_, (pss_one (ps_ret (pe_call (ok_held_with_more (K := K) T) (hr.mono (by decide)) (by rfl) T.m_held_with_more T.k_held_with_more (b_held_with_more T) .nil pass0 (pa_cons (pv 1) (pa_cons (pe_fldK (K := K) (pv 0) rfl) (pa_cons (pe_fldK (K := K) (pv 0) rfl) pa_nil)))))), ?_⟩
  cases e with
  | gift d n w p c s =>
   walk_at "rda"
   exact ⟨_, dx, _, hx, T.cl_Gift, T.n_Gift_ware, _, by rfl, _, dx, _, hx, T.cl_Gift, T.n_Gift_pieces, _, by rfl, a, kvs, w, p, rfl, ha, hH, hl, fun q H' s h1 h2 => k q H' s h1⟩
  | buy => cases hk
end
end My
namespace My
open PySem L2 PyProof.Rows
section
variable {P : Program} {w : World} {K : Fg_} {mg : Str -> Option Value} {base : Heap} {A : Adr} {D : Fds}
abbrev RW := List (Str × Addr × RL)
def kvR (rs : RW) : List (Key × V) := rs.map fun t => (Sum.inr t.1, .ref t.2.1)
def rowOf : RW -> Str -> RL
 | [], _ => []
 | t :: rs, z => if t.1 = z then t.2.2 else rowOf rs z
def putR (rs : RW) (z : Str) (q : Addr) (ls : RL) : RW := if rs.any (fun t => decide (t.1 = z)) = true then rs.map (fun t => if t.1 = z then (t.1, q, ls) else t) else rs ++ [(z, q, ls)]
theorem valR : ∀ (rs : RW) (z : Str), (∃ t ∈ rs, t.1 = z /\ valV (kvR rs) (Sum.inr z) = some (.ref t.2.1) /\ rowOf rs z = t.2.2) \/ (valV (kvR rs) (Sum.inr z) = Option.none /\ rowOf rs z = [] /\ z ∉ rs.map (·.1))
 | [], z => .inr ⟨rfl, rfl, by simp⟩
 | t :: rs, z => by
  by_cases e : t.1 = z
  ·refine .inl ⟨t, List.mem_cons_self, e, ?_, ?_⟩
   ·show valV ((Sum.inr t.1, V.ref t.2.1) :: kvR rs) _ = _
    rw [valV_pos (by rw [e])]
   ·unfold rowOf; rw [if_pos e]
  ·have hv : valV (kvR (t :: rs)) (Sum.inr z) = valV (kvR rs) (Sum.inr z) := by
    show valV ((Sum.inr t.1, V.ref t.2.1) :: kvR rs) _ = _
    rw [valV_neg (fun h => e (Sum.inr.inj h))]
   have hr : rowOf (t :: rs) z = rowOf rs z := by
    show (if t.1 = z then t.2.2 else rowOf rs z) = _
    rw [if_neg e]
   rw [hv, hr]
   rcases valR rs z with ⟨u, h1, h2, h3, h4⟩ | ⟨h1, h2, h3⟩
   ·exact .inl ⟨u, List.mem_cons_of_mem _ h1, h2, h3, h4⟩
   ·refine .inr ⟨h1, h2, fun h => ?_⟩
    rw [List.map_cons] at h
    rcases List.mem_cons.mp h with h | h
    ·exact e h.symm
    ·exact h3 h
theorem kvR_put (rs : RW) (z : Str) (q : Addr) (ls : RL) : putK (kvR rs) (Sum.inr z) (.ref q) = kvR (putR rs z q ls) := by
 unfold putK putR kvR
 have ea : (List.any (rs.map fun t => ((Sum.inr t.1 : Key), V.ref t.2.1)) fun kv => decide (kv.1 = Sum.inr z)) = rs.any fun t => decide (t.1 = z) := by
  rw [List.any_map]
  congr 1
  funext t
  show decide ((Sum.inr t.1 : Key) = Sum.inr z) = decide (t.1 = z)
  by_cases e : t.1 = z
  ·rw [e]; simp
  ·rw [decide_eq_false e, decide_eq_false]; exact fun h => e (Sum.inr.inj h)
 rw [ea]
 by_cases h : rs.any (fun t => decide (t.1 = z)) = true
 ·rw [if_pos h, if_pos h, List.map_map, List.map_map]
  refine List.map_congr_left fun t _ => ?_
  show (if (Sum.inr t.1 : Key) = Sum.inr z then ((Sum.inr t.1 : Key), V.ref q) else (Sum.inr t.1, V.ref t.2.1)) = _
  by_cases e : t.1 = z
  ·rw [if_pos (by rw [e])]
   show _ = ((Sum.inr (if t.1 = z then (t.1, q, ls) else t).1 : Key), V.ref (if t.1 = z then (t.1, q, ls) else t).2.1)
   rw [if_pos e]
  ·rw [if_neg (fun h => e (Sum.inr.inj h))]
   show _ = ((Sum.inr (if t.1 = z then (t.1, q, ls) else t).1 : Key), V.ref (if t.1 = z then (t.1, q, ls) else t).2.1)
   rw [if_neg e]
 ·rw [if_neg h, if_neg h, List.map_append]
  rfl
theorem putR_mem {rs : RW} {z : Str} {q : Addr} {ls : RL} {t : Str × Addr × RL} (h : t ∈ putR rs z q ls) : t = (z, q, ls) \/ t ∈ rs := by
 unfold putR at h
 split at h
 ·obtain ⟨u, hu, e⟩ := List.mem_map.mp h
  by_cases c : u.1 = z
  ·rw [if_pos c, c] at e; exact .inl e.symm
  ·rw [if_neg c] at e; exact .inr (e ▸ hu)
 ·rcases List.mem_append.mp h with h | h
  ·exact .inr h
  ·exact .inl (List.mem_singleton.mp h)
theorem putR_names {rs : RW} {z : Str} {q : Addr} {ls : RL} : (putR rs z q ls).map (·.1) = if z ∈ rs.map (·.1) then rs.map (·.1) else rs.map (·.1) ++ [z] := by
 unfold putR
 by_cases h : rs.any (fun t => decide (t.1 = z)) = true
 ·have hm : z ∈ rs.map (·.1) := by
   obtain ⟨t, ht, e⟩ := List.any_eq_true.mp h
   exact List.mem_map.mpr ⟨t, ht, of_decide_eq_true e⟩
  rw [if_pos h, if_pos hm, List.map_map]
  refine List.map_congr_left fun t _ => ?_
  show (if t.1 = z then (t.1, q, ls) else t).1 = t.1
  split <;> rfl
 ·have hm : z ∉ rs.map (·.1) := fun hm => by
   obtain ⟨t, ht, e⟩ := List.mem_map.mp hm
   exact h (List.any_eq_true.mpr ⟨t, ht, decide_eq_true e⟩)
  rw [if_neg h, if_neg hm, List.map_append]
  rfl
theorem putR_nd {rs : RW} {z : Str} {q : Addr} {ls : RL} (h : (rs.map (·.1)).Nodup) : ((putR rs z q ls).map (·.1)).Nodup := by
 rw [putR_names]
 by_cases c : z ∈ rs.map (·.1)
 ·rw [if_pos c]; exact h
 ·rw [if_neg c]
  refine List.nodup_append.mpr ⟨h, by simp, fun y hy x hx => ?_⟩
  obtain rfl := List.mem_singleton.mp hx
  exact fun e => c (e ▸ hy)
theorem rowOf_map : ∀ {rs : RW} {z : Str} {q : Addr} {ls : RL} {y : Str}, rowOf (rs.map fun t => if t.1 = z then (t.1, q, ls) else t) y = if y = z /\ z ∈ rs.map (·.1) then ls else rowOf rs y
 | [], z, q, ls, y => by rw [if_neg (by simp)]; rfl
 | t :: rs, z, q, ls, y => by
  rw [List.map_cons]
  have ih := rowOf_map (rs := rs) (z := z) (q := q) (ls := ls) (y := y)
  unfold rowOf
  by_cases e : t.1 = z
  ·rw [if_pos e]
   by_cases e2 : y = z
   ·rw [if_pos (show t.1 = y by rw [e, e2]), if_pos ⟨e2, by rw [List.map_cons, e]; exact List.mem_cons_self⟩]
   ·have hy : ¬ t.1 = y := fun h => e2 (h.symm.trans e)
    rw [if_neg hy, if_neg (fun h => e2 h.1), ih, if_neg (fun h => e2 h.1), if_neg hy]
  ·rw [if_neg e]
   by_cases e2 : t.1 = y
   ·rw [if_pos e2, if_pos e2, if_neg (fun h => e (e2.trans h.1))]
   ·rw [if_neg e2, if_neg e2, ih]
    by_cases c : y = z /\ z ∈ rs.map (·.1)
    ·rw [if_pos c, if_pos ⟨c.1, by rw [List.map_cons]; exact List.mem_cons_of_mem _ c.2⟩]
    ·rw [if_neg c, if_neg fun h => c ⟨h.1, by
      have h2 := h.2
      rw [List.map_cons] at h2
      rcases List.mem_cons.mp h2 with h2 | h2
      ·exact (e h2.symm).elim
      ·exact h2⟩]
theorem rowOf_app : ∀ {rs : RW} {z : Str} {q : Addr} {ls : RL} {y : Str}, z ∉ rs.map (·.1) -> rowOf (rs ++ [(z, q, ls)]) y = if y = z then ls else rowOf rs y
 | [], z, q, ls, y, _ => by
  show (if z = y then ls else []) = _
  by_cases e : y = z
  ·rw [if_pos e, if_pos e.symm]
  ·rw [if_neg e, if_neg (fun h => e h.symm)]; rfl
 | t :: rs, z, q, ls, y, hn => by
  rw [List.map_cons] at hn
  have ih := rowOf_app (rs := rs) (z := z) (q := q) (ls := ls) (y := y) fun h => hn (List.mem_cons_of_mem _ h)
  show (if t.1 = y then t.2.2 else rowOf (rs ++ [(z, q, ls)]) y) = _
  rw [ih]
  by_cases e : t.1 = y
  ·rw [if_pos e, if_neg (fun h => hn (by rw [<- h, <- e]; exact List.mem_cons_self))]
   show _ = (if t.1 = y then t.2.2 else rowOf rs y)
   rw [if_pos e]
  ·rw [if_neg e]
   show _ = (if y = z then ls else if t.1 = y then t.2.2 else rowOf rs y)
   rw [if_neg e]
theorem rowOf_put {rs : RW} {z : Str} {q : Addr} {ls : RL} {y : Str} : rowOf (putR rs z q ls) y = if y = z then ls else rowOf rs y := by
 unfold putR
 by_cases h : rs.any (fun t => decide (t.1 = z)) = true
 ·have hm : z ∈ rs.map (·.1) := by
   obtain ⟨t, ht, e⟩ := List.any_eq_true.mp h
   exact List.mem_map.mpr ⟨t, ht, of_decide_eq_true e⟩
  rw [if_pos h, rowOf_map]
  by_cases e : y = z
  ·rw [if_pos e, if_pos ⟨e, hm⟩]
  ·rw [if_neg e, if_neg fun h => e h.1]
 ·have hm : z ∉ rs.map (·.1) := fun hm => by
   obtain ⟨t, ht, e⟩ := List.mem_map.mp hm
   exact h (List.any_eq_true.mpr ⟨t, ht, decide_eq_true e⟩)
  rw [if_neg h, rowOf_app hm]
def pcs (ls : RL) : Int := ((ls.map (·.2)).map LotD.p).sum
def cst (ls : RL) : Int := ((ls.map (·.2)).map LotD.c).sum
def cstR (rs : RW) : Int := (rs.map fun t => cst t.2.2).sum
theorem cst_map : ∀ {rs : RW} {z : Str} {q : Addr} {ls : RL}, (rs.map (·.1)).Nodup -> z ∈ rs.map (·.1) -> cstR (rs.map fun t => if t.1 = z then (t.1, q, ls) else t) = cstR rs - cst (rowOf rs z) + cst ls
 | [], z, q, ls, _, h => by simp at h
 | t :: rs, z, q, ls, hu, h => by
  rw [List.map_cons, List.nodup_cons] at hu
  rw [List.map_cons] at h
  unfold cstR
  rw [List.map_cons, List.map_cons, List.sum_cons, List.map_cons, List.sum_cons]
  by_cases e : t.1 = z
  ·rw [if_pos e]
   have hn : ∀ u ∈ rs, u.1 ≠ z := fun u hu2 c => hu.1 (by rw [e, <- c]; exact List.mem_map.mpr ⟨u, hu2, rfl⟩)
   have : (rs.map fun t => if t.1 = z then (t.1, q, ls) else t) = rs := by
    refine (List.map_congr_left fun u hu2 => ?_).trans (List.map_id rs)
    rw [if_neg (hn u hu2)]; rfl
   rw [this]
   unfold rowOf
   rw [if_pos e]
   show cst ls + _ = _
   omega
  ·rw [if_neg e]
   have hm : z ∈ rs.map (·.1) := by
    rcases List.mem_cons.mp h with h | h
    ·exact (e h.symm).elim
    ·exact h
   have ih := cst_map (q := q) (ls := ls) hu.2 hm
   unfold cstR at ih
   unfold rowOf
   rw [if_neg e, ih]
   omega
theorem cst_put {rs : RW} {z : Str} {q : Addr} {ls : RL} (hu : (rs.map (·.1)).Nodup) : cstR (putR rs z q ls) = cstR rs - cst (rowOf rs z) + cst ls := by
 unfold putR
 by_cases h : rs.any (fun t => decide (t.1 = z)) = true
 ·have hm : z ∈ rs.map (·.1) := by
   obtain ⟨t, ht, e⟩ := List.any_eq_true.mp h
   exact List.mem_map.mpr ⟨t, ht, of_decide_eq_true e⟩
  rw [if_pos h, cst_map hu hm]
 ·have hm : z ∉ rs.map (·.1) := fun hm => by
   obtain ⟨t, ht, e⟩ := List.mem_map.mp hm
   exact h (List.any_eq_true.mpr ⟨t, ht, decide_eq_true e⟩)
  rw [if_neg h]
  rcases valR rs z with ⟨t, h1, h2, _⟩ | ⟨_, h2, _⟩
  ·exact (hm (List.mem_map.mpr ⟨t, h1, h2⟩)).elim
  ·rw [h2]
   unfold cstR
   rw [List.map_append, List.sum_append]
   show _ + (cst ls + 0) = _ - 0 + _
   omega
def Off (b r : Addr) (H H' : Hp) : Prop := ∀ a o, a ≠ b -> a ≠ r -> H a = some o -> H' a = some o
theorem Off.of {b r : Addr} {H H' : Hp} (s : Same H H') : Off b r H H' := fun a o _ _ h => s a o h
theorem Off.trans {b r : Addr} {H H' H'' : Hp} (s : Off b r H H') (s' : Off b r H' H'') : Off b r H H'' := fun a o h1 h2 h => s' a o h1 h2 (s a o h1 h2 h)
theorem Off.b {b r : Addr} {H : Hp} {o : HO} : Off b r H (upd H b o) := fun a _ h _ e => (upd_ne h).trans e
theorem Off.r {b r : Addr} {H : Hp} {o : HO} : Off b r H (upd H r o) := fun a _ _ h e => (upd_ne h).trans e
structure BookD where
 way : Addr
 rows : Addr
 sales : Addr
 givs : Addr
 rs : RW
 last : Option (Addr × Int × Int)
 paid : Int
 brought : Int
def lastV : Option (Addr × Int × Int) -> V
 | Option.none => .non
 | some t => .ref t.1
def BookD.fs (k : BookD) : List (Str × V) := [("way", .ref k.way), ("rows", .ref k.rows), ("last_place", lastV k.last), ("paid", .int k.paid), ("brought", .int k.brought), ("sales_done", .ref k.sales), ("givings_done", .ref k.givs)]
structure RWok (rs : RW) : Prop where
 u : (rs.map (·.1)).Nodup
 z : rs.length <= 50
 n : ∀ t ∈ rs, t.2.2 ≠ [] /\ t.2.2.length <= 50
 p : ∀ t ∈ rs, ∀ l ∈ t.2.2, 1 <= l.2.p
def RowsAt (A : Adr) (H : Hp) (rs : RW) : Prop := ∀ t ∈ rs, H t.2.1 = some (.lst (refsR t.2.2)) /\ LotAt A H t.2.2
theorem RowsAt.same {H H' : Hp} {rs : RW} (h : RowsAt A H rs) (s : Same H H') : RowsAt A H' rs := fun t ht => ⟨s _ _ (h t ht).1, (h t ht).2.same s⟩
structure BookAt (A : Adr) (H : Hp) (b : Addr) (k : BookD) : Prop where
 b : ∃ dx, H b = some (.ins A.C_Book dx k.fs)
 r : H k.rows = some (.dK (kvR k.rs))
 l : RowsAt A H k.rs
 p : ∀ t, k.last = some t -> H t.1 = some (.tup [.int t.2.1, .int t.2.2])
 s : H k.sales = some (.lst [])
 g : H k.givs = some (.lst [])
 o : RWok k.rs
theorem BookAt.same {H H' : Hp} {b : Addr} {k : BookD} (h : BookAt A H b k) (s : Same H H') : BookAt A H' b k := ⟨let ⟨dx, e⟩ := h.b; ⟨dx, s _ _ e⟩, s _ _ h.r, h.l.same s, fun t ht => s _ _ (h.p t ht), s _ _ h.s, s _ _ h.g, h.o⟩
theorem LotAt.updI {H : Hp} {ls : RL} {x : Addr} {o : HO} (h : LotAt A H ls) (hx : ∀ l ∈ ls, l.1 ≠ x) : LotAt A (upd H x o) ls := fun l hl => let ⟨dx, e⟩ := h l hl; ⟨dx, (upd_ne (hx l hl)).trans e⟩
theorem lot_fs {d : LotD} {k : BookD} (h : d.fs = k.fs) : False := by
 have h1 := (Prod.mk.inj (List.cons.inj h).1).1
 exact absurd h1 (by decide +kernel)
theorem e2_fs {e : E2} {k : BookD} (h : e.fs = k.fs) : False := by
 cases e with
 | buy => exact absurd (Prod.mk.inj (List.cons.inj h).1).1 (by decide +kernel)
 | gift => exact absurd (Prod.mk.inj (List.cons.inj h).1).1 (by decide +kernel)
theorem BookAt.nel {H : Hp} {b : Addr} {k : BookD} (h : BookAt A H b k) {x : Addr} {d : LotD} (hx : IsLot A H x d) : x ≠ b := fun e => by
 obtain ⟨dx, hb⟩ := h.b
 obtain ⟨dy, hx⟩ := hx
 rw [e, hb] at hx
 injection hx with h1
 injection h1 with _ _ h3
 exact lot_fs h3.symm
theorem BookAt.nee {H : Hp} {b : Addr} {k : BookD} (h : BookAt A H b k) {x : Addr} {d : E2} (hx : IsE2 A H x d) : x ≠ b := fun e => by
 obtain ⟨dx, hb⟩ := h.b
 obtain ⟨dy, hx⟩ := hx
 rw [e, hb] at hx
 injection hx with h1
 injection h1 with _ _ h3
 exact e2_fs h3.symm
theorem BookAt.neo {H : Hp} {b : Addr} {k : BookD} (h : BookAt A H b k) {x : Addr} {o : HO} (hx : H x = some o) (ho : ∀ C dx fs, o ≠ .ins C dx fs) : x ≠ b := fun e => by
 obtain ⟨dx, hb⟩ := h.b
 rw [e, hb] at hx
 exact ho _ _ _ (Option.some.inj hx).symm
theorem BookAt.ner {H : Hp} {b : Addr} {k : BookD} (h : BookAt A H b k) {x : Addr} {o : HO} (hx : H x = some o) (ho : ∀ kv, o ≠ .dK kv) : x ≠ k.rows := fun e => by
 rw [e, h.r] at hx
 exact ho _ (Option.some.inj hx).symm
theorem BookAt.put {H : Hp} {b dx : Addr} {k k' : BookD} (h : BookAt A H b k) (e1 : k'.rows = k.rows) (e2 : k'.rs = k.rs) (e3 : k'.sales = k.sales) (e4 : k'.givs = k.givs) (e5 : ∀ t, k'.last = some t -> H t.1 = some (.tup [.int t.2.1, .int t.2.2])) : BookAt A (upd H b (.ins A.C_Book dx k'.fs)) b k' := by
 have hr := h.r
 have hs := h.s
 have hg := h.g
 refine ⟨⟨dx, upd_same⟩, ?_, fun t ht => ?_, fun t ht => ?_, ?_, ?_, e2 ▸ h.o⟩
 ·rw [e1, e2, upd_ne (h.neo hr fun _ _ _ c => by cases c)]; exact hr
 ·rw [e2] at ht
  obtain ⟨h1, h2⟩ := h.l t ht
  exact ⟨(upd_ne (h.neo h1 fun _ _ _ c => by cases c)).trans h1, h2.updI fun l hl => h.nel (h2 l hl)⟩
 ·have h1 := e5 t ht
  exact (upd_ne (h.neo h1 fun _ _ _ c => by cases c)).trans h1
 ·rw [e3, upd_ne (h.neo hs fun _ _ _ c => by cases c)]; exact hs
 ·rw [e4, upd_ne (h.neo hg fun _ _ _ c => by cases c)]; exact hg
theorem BookAt.row {H : Hp} {b : Addr} {k : BookD} (h : BookAt A H b k) {z : Str} {q : Addr} {ls : RL} (hq : H q = some (.lst (refsR ls))) (hL : LotAt A H ls) (hn : ls ≠ []) (hl : ls.length <= 50) (hp : ∀ l ∈ ls, 1 <= l.2.p) (hz : k.rs.length < 50) :
  BookAt A (upd H k.rows (.dK (kvR (putR k.rs z q ls)))) b { k with rs := putR k.rs z q ls } := by
 have keepL : ∀ {x : Addr} {xs : List V}, H x = some (.lst xs) -> (upd H k.rows (.dK (kvR (putR k.rs z q ls)))) x = some (.lst xs) := fun hx => (upd_ne (h.ner hx fun _ c => by cases c)).trans hx
 have keepA : ∀ {ls : RL}, LotAt A H ls -> LotAt A (upd H k.rows (.dK (kvR (putR k.rs z q ls)))) ls := fun hL => hL.updI fun l hl e => by
  obtain ⟨dx, hx⟩ := hL l hl
  rw [e, h.r] at hx
  cases hx
 have keepB : ∀ {ls : RL}, LotAt A H ls -> ∀ o, LotAt A (upd H k.rows o) ls := fun hL o => hL.updI fun l hl e => by
  obtain ⟨dx, hx⟩ := hL l hl
  rw [e, h.r] at hx
  cases hx
 obtain ⟨dx, hb⟩ := h.b
 refine ⟨⟨dx, (upd_ne (h.ner hb fun _ c => by cases c)).trans hb⟩, upd_same, fun t ht => ?_, fun t ht => ?_, keepL h.s, keepL h.g, ⟨putR_nd h.o.u, ?_, fun t ht => ?_, fun t ht => ?_⟩⟩
 ·rcases putR_mem ht with rfl | ht
  ·exact ⟨keepL hq, keepB hL _⟩
  ·exact ⟨keepL (h.l t ht).1, keepB (h.l t ht).2 _⟩
 ·have h1 := h.p t ht
  exact (upd_ne (h.ner h1 fun _ c => by cases c)).trans h1
 ·show (putR k.rs z q ls).length <= 50
  have := congrArg List.length (putR_names (rs := k.rs) (z := z) (q := q) (ls := ls))
  rw [List.length_map] at this
  rw [this]
  split
  ·rw [List.length_map]; omega
  ·rw [List.length_append, List.length_map, List.length_singleton]; omega
 ·rcases putR_mem ht with rfl | ht
  ·exact ⟨hn, hl⟩
  ·exact h.o.n t ht
 ·rcases putR_mem ht with rfl | ht
  ·exact hp
  ·exact h.o.p t ht
theorem rowOf_mem {rs : RW} {z : Str} {l : Addr × LotD} (h : l ∈ rowOf rs z) : ∃ t ∈ rs, t.1 = z /\ rowOf rs z = t.2.2 := by
 rcases valR rs z with ⟨t, h1, h2, _, h4⟩ | ⟨_, h2, _⟩
 ·exact ⟨t, h1, h2, h4⟩
 ·rw [h2] at h; exact (List.not_mem_nil h).elim
theorem rowOf_p {rs : RW} {z : Str} {l : Addr × LotD} (hp : ∀ t ∈ rs, ∀ l ∈ t.2.2, 1 <= l.2.p) (h : l ∈ rowOf rs z) : 1 <= l.2.p := by
 obtain ⟨t, h1, _, h3⟩ := rowOf_mem h
 exact hp t h1 l (h3 ▸ h)
theorem pcs_pos {ls : RL} (h : ∀ l ∈ ls, 1 <= l.2.p) : (ls.length : Int) <= pcs ls := by
 unfold pcs
 induction ls with
 | nil => exact Int.le_refl _
 | cons l ls ih =>
  have h1 := ih fun x hx => h x (List.mem_cons_of_mem _ hx)
  have h2 := h l List.mem_cons_self
  rw [List.map_cons, List.map_cons, List.sum_cons, List.length_cons]
  omega
def heldR (rs : RW) : List (Key × V) := rs.map fun t => (Sum.inr t.1, .int (pcs t.2.2))
theorem heldR_ok {rs : RW} (h : RWok rs) : Held (heldR rs) := by
 refine ⟨fun kv hkv => ?_, ?_⟩
 ·obtain ⟨t, ht, rfl⟩ := List.mem_map.mp hkv
  refine ⟨t.1, pcs t.2.2, rfl, ?_⟩
  have h1 := pcs_pos (h.p t ht)
  have h2 := List.length_pos_iff.mpr (h.n t ht).1
  omega
 ·unfold heldR
  rw [List.map_map]
  have : ((fun x : Key × V => x.1) ∘ fun t : Str × Addr × RL => ((Sum.inr t.1 : Key), V.int (pcs t.2.2))) = (fun z : Str => (Sum.inr z : Key)) ∘ fun t : Str × Addr × RL => t.1 := rfl
  rw [this, <- List.map_map]
  exact List.pairwise_map.mpr (h.u.imp fun {a b} hne e => hne (Sum.inr.inj e))
theorem heldR_val : ∀ (rs : RW) (z : Str), heldI (heldR rs) z = pcs (rowOf rs z)
 | [], z => rfl
 | t :: rs, z => by
  have ih := heldR_val rs z
  show heldI ((Sum.inr t.1, V.int (pcs t.2.2)) :: heldR rs) z = pcs (if t.1 = z then t.2.2 else rowOf rs z)
  by_cases e : t.1 = z
  ·rw [if_pos e]
   unfold heldI
   rw [valV_pos (by rw [e])]
  ·rw [if_neg e, <- ih]
   unfold heldI
   rw [valV_neg (fun h => e (Sum.inr.inj h))]
def keyS : Key -> Str
 | .inr z => z
 | .inl _ => Str.ofString ""
theorem rowOf_at : ∀ {rs : RW} {t : Str × Addr × RL}, (rs.map (·.1)).Nodup -> t ∈ rs -> rowOf rs t.1 = t.2.2
 | u :: rs, t, hu, ht => by
  rw [List.map_cons, List.nodup_cons] at hu
  unfold rowOf
  rcases List.mem_cons.mp ht with e | ht
  ·rw [e, if_pos rfl]
  ·have : u.1 ≠ t.1 := fun e => hu.1 (by rw [e]; exact List.mem_map.mpr ⟨t, ht, rfl⟩)
   rw [if_neg this]
   exact rowOf_at hu.2 ht
theorem putF_brought (k : BookD) (i : Int) : putF (Str.ofString "brought") (.int i) k.fs = { k with brought := i }.fs := by cases k; rfl
theorem putF_paid (k : BookD) (i : Int) : putF (Str.ofString "paid") (.int i) k.fs = { k with paid := i }.fs := by cases k; rfl
theorem putF_last (k : BookD) (t : Option (Addr × Int × Int)) : putF (Str.ofString "last_place") (lastV t) k.fs = { k with last := t }.fs := by cases k; rfl
theorem seq_genL {t u : TS} {D : Ends} {σ : L2.St} {H : Hp} (P : L2.St -> Hp -> Prop) (k : ∀ σ' H', P σ' H' -> u D σ' H') (h : ∀ N : L2.St -> Hp -> Prop, (∀ σ' H', P σ' H' -> N σ' H') -> t { D with nx := N } σ H) : tSeq t u D σ H := h (u D) k
end
end My
namespace My
open PySem L2 PyProof.Rows
section
variable {P : Program} {w : World} {K : Fg_} {mg : Str -> Option Value} {base : Heap} {A : Adr} {D : Fds}
local macro_rules | `(tactic| walk_at "nx") => `(tactic| ((try dsimp only); rw [ap_seq]; walk_at "rdi"))
def sp_Book___init__ (A : Adr) : Sp := fun vs H Q _ => ∃ (x w : Addr) (B : Hp) (dx : Addr), vs = [.ref x, .ref w] /\ New B H x A.C_Book dx [] /\ ∀ H' k, Same B H' -> BookAt A H' x k -> B k.rows = Option.none -> k.rs = [] -> k.last = Option.none -> k.paid = 0 -> k.brought = 0 -> Q .non H'
theorem ok_Book___init__ (T : Txt K mg A D) : FnOk P w K mg base CX0 1 A.Book___init__ D.Book___init__ ["self", "way"] (sp_Book___init__ A) := by
 refine T.F_Book___init__.ok sc_Book___init__ (fun vs H Q E h => ?_) (fun cdv A' outer s0 H vs Q E hr h => ?_)
 ·obtain ⟨x, w, B, dx, rfl, _⟩ := h; rfl
 ·obtain ⟨x, w, B, dx, rfl, hN, k⟩ := h
  refine ⟨_, (pss_cons (ps_fldK (K := K) (pv 0) (pv 1) rfl)
   (pss_cons (ps_fldK (K := K) (pv 0) pe_dnewK rfl)
   (pss_cons (ps_fldK (K := K) (pv 0) pe_non rfl)
   (pss_cons (ps_fldK (K := K) (pv 0) pe_int rfl)
   (pss_cons (ps_fldK (K := K) (pv 0) pe_int rfl)
   (pss_cons (ps_fldK (K := K) (pv 0) (pe_lst pa_nil) rfl)
   (pss_one (ps_fldK (K := K) (pv 0) (pe_lst pa_nil) rfl)))))))), ?_⟩
  walk_at "rda"
  refine ⟨_, dx, _, hN.h, T.cl_Book, T.n_Book_way, by decide, fun pr hpr => ?_⟩
  rw [putF_new _ _ (by decide +kernel)] at hpr ⊢
  have hN := (hN.put (gs := [] ++ [(Str.ofString "way", V.ref w)]) rfl)
  have hprn := hN.s.free hpr
  have hxr : pr ≠ x := fun e => by rw [e, hN.h] at hpr; cases hpr
  have hN := hN.same (Same.new (o := .dK []) hpr)
  have hr : (upd (upd H x (HO.ins A.C_Book dx ([] ++ [(Str.ofString "way", V.ref w)]))) pr (HO.dK [])) pr = some (.dK []) := upd_same
  generalize upd (upd H x (HO.ins A.C_Book dx ([] ++ [(Str.ofString "way", V.ref w)]))) pr (HO.dK []) = H2 at hN hr ⊢
  refine ⟨_, dx, _, hN.h, T.cl_Book, T.n_Book_rows, by simp, ?_⟩
  rw [putF_at (f := Str.ofString "rows") ["way"] (by rfl) (by decide +kernel)]
  have hN := hN.put (gs := ([] ++ [(Str.ofString "way", V.ref w)]) ++ [(Str.ofString "rows", V.ref pr)]) rfl
  have hr : (upd H2 x (HO.ins A.C_Book dx (([] ++ [(Str.ofString "way", V.ref w)]) ++ [(Str.ofString "rows", V.ref pr)]))) pr = some (.dK []) := (upd_ne hxr).trans hr
  generalize upd H2 x _ = H3 at hN hr ⊢
  refine ⟨_, dx, _, hN.h, T.cl_Book, T.n_Book_last_place, by simp, ?_⟩
  rw [putF_at (f := Str.ofString "last_place") ["way", "rows"] (by rfl) (by decide +kernel)]
  have hN := hN.put (gs := (([] ++ [(Str.ofString "way", V.ref w)]) ++ [(Str.ofString "rows", V.ref pr)]) ++ [(Str.ofString "last_place", V.non)]) rfl
  have hr : (upd H3 x (HO.ins A.C_Book dx ((([] ++ [(Str.ofString "way", V.ref w)]) ++ [(Str.ofString "rows", V.ref pr)]) ++ [(Str.ofString "last_place", V.non)]))) pr = some (.dK []) := (upd_ne hxr).trans hr
  generalize upd H3 x _ = H4 at hN hr ⊢
  refine ⟨_, dx, _, hN.h, T.cl_Book, T.n_Book_paid, by simp, ?_⟩
  rw [putF_at (f := Str.ofString "paid") ["way", "rows", "last_place"] (by rfl) (by decide +kernel)]
  have hN := hN.put (gs := ((([] ++ [(Str.ofString "way", V.ref w)]) ++ [(Str.ofString "rows", V.ref pr)]) ++ [(Str.ofString "last_place", V.non)]) ++ [(Str.ofString "paid", V.int 0)]) rfl
  have hr : (upd H4 x (HO.ins A.C_Book dx (((([] ++ [(Str.ofString "way", V.ref w)]) ++ [(Str.ofString "rows", V.ref pr)]) ++ [(Str.ofString "last_place", V.non)]) ++ [(Str.ofString "paid", V.int 0)]))) pr = some (.dK []) := (upd_ne hxr).trans hr
  generalize upd H4 x _ = H5 at hN hr ⊢
  refine ⟨_, dx, _, hN.h, T.cl_Book, T.n_Book_brought, by simp, ?_⟩
  rw [putF_at (f := Str.ofString "brought") ["way", "rows", "last_place", "paid"] (by rfl) (by decide +kernel)]
  have hN := hN.put (gs := (((([] ++ [(Str.ofString "way", V.ref w)]) ++ [(Str.ofString "rows", V.ref pr)]) ++ [(Str.ofString "last_place", V.non)]) ++ [(Str.ofString "paid", V.int 0)]) ++ [(Str.ofString "brought", V.int 0)]) rfl
  have hr : (upd H5 x (HO.ins A.C_Book dx ((((([] ++ [(Str.ofString "way", V.ref w)]) ++ [(Str.ofString "rows", V.ref pr)]) ++ [(Str.ofString "last_place", V.non)]) ++ [(Str.ofString "paid", V.int 0)]) ++ [(Str.ofString "brought", V.int 0)]))) pr = some (.dK []) := (upd_ne hxr).trans hr
  generalize upd H5 x _ = H6 at hN hr ⊢
  refine ⟨by rw [sizeLine_eq]; decide, fun ps hps => ?_⟩
  have hxs : ps ≠ x := fun e => by rw [e, hN.h] at hps; cases hps
  have hN := hN.same (Same.new (o := .lst []) hps)
  have hr := Same.new (o := .lst []) hps _ _ hr
  have hs : (upd H6 ps (.lst [])) ps = some (.lst []) := upd_same
  generalize upd H6 ps (HO.lst []) = H7 at hN hr hs ⊢
  refine ⟨_, dx, _, hN.h, T.cl_Book, T.n_Book_sales_done, by simp, ?_⟩
  rw [putF_at (f := Str.ofString "sales_done") ["way", "rows", "last_place", "paid", "brought"] (by rfl) (by decide +kernel)]
  have hN := hN.put (gs := ((((([] ++ [(Str.ofString "way", V.ref w)]) ++ [(Str.ofString "rows", V.ref pr)]) ++ [(Str.ofString "last_place", V.non)]) ++ [(Str.ofString "paid", V.int 0)]) ++ [(Str.ofString "brought", V.int 0)]) ++ [(Str.ofString "sales_done", V.ref ps)]) rfl
  have hr := (upd_ne (o := HO.ins A.C_Book dx (((((([] ++ [(Str.ofString "way", V.ref w)]) ++ [(Str.ofString "rows", V.ref pr)]) ++ [(Str.ofString "last_place", V.non)]) ++ [(Str.ofString "paid", V.int 0)]) ++ [(Str.ofString "brought", V.int 0)]) ++ [(Str.ofString "sales_done", V.ref ps)])) hxr).trans hr
  have hs := (upd_ne (o := HO.ins A.C_Book dx (((((([] ++ [(Str.ofString "way", V.ref w)]) ++ [(Str.ofString "rows", V.ref pr)]) ++ [(Str.ofString "last_place", V.non)]) ++ [(Str.ofString "paid", V.int 0)]) ++ [(Str.ofString "brought", V.int 0)]) ++ [(Str.ofString "sales_done", V.ref ps)])) hxs).trans hs
  generalize upd H7 x _ = H8 at hN hr hs ⊢
  refine ⟨by rw [sizeLine_eq]; decide, fun pg hpg => ?_⟩
  have hxg : pg ≠ x := fun e => by rw [e, hN.h] at hpg; cases hpg
  have hN := hN.same (Same.new (o := .lst []) hpg)
  have hr := Same.new (o := .lst []) hpg _ _ hr
  have hs := Same.new (o := .lst []) hpg _ _ hs
  have hg : (upd H8 pg (.lst [])) pg = some (.lst []) := upd_same
  generalize upd H8 pg (HO.lst []) = H9 at hN hr hs hg ⊢
  refine ⟨_, dx, _, hN.h, T.cl_Book, T.n_Book_givings_done, by simp, ?_⟩
  rw [putF_at (f := Str.ofString "givings_done") ["way", "rows", "last_place", "paid", "brought", "sales_done"] (by rfl) (by decide +kernel)]
  refine k _ ⟨w, pr, ps, pg, [], Option.none, 0, 0⟩ (hN.s.upd hN.n) ⟨⟨dx, upd_same⟩, (upd_ne hxr).trans hr, fun t h => (List.not_mem_nil h).elim, fun t h => (by cases h), (upd_ne hxs).trans hs, (upd_ne hxg).trans hg, ⟨.nil, Nat.zero_le _, fun t h => (List.not_mem_nil h).elim, fun t h => (List.not_mem_nil h).elim⟩⟩ hprn rfl rfl rfl rfl
def sp_Book_row_of (A : Adr) : Sp := fun vs H Q _ => ∃ (b : Addr) (z : Str) (k : BookD), vs = [.ref b, .str z] /\ BookAt A H b k /\ ∀ l H', Same H H' -> H l = Option.none -> H' l = some (.lst (refsR (rowOf k.rs z))) -> LotAt A H' (rowOf k.rs z) -> Q (.ref l) H'
theorem ok_Book_row_of (T : Txt K mg A D) : FnOk P w K mg base CX0 1 A.Book_row_of D.Book_row_of ["self", "ware"] (sp_Book_row_of A) := by
 refine T.F_Book_row_of.ok sc_Book_row_of (fun vs H Q E h => ?_) (fun cdv A' outer s0 H vs Q E hr h => ?_)
 ·obtain ⟨b, z, k, rfl, _⟩ := h; rfl
 ·obtain ⟨b, z, kb, rfl, hB, k⟩ := h
  refine ⟨_, (pss_one (ps_ret (pe_callTy (call_listK (K := K)) (by rfl) T.b_list (by decide +kernel) (pa_cons (pe_dget2 (hu_of hr) (pe_fldK (K := K) (pv 0) rfl) (pv 1) (pe_lst pa_nil) ⟨rfl, rfl, rfl, rfl⟩) pa_nil)))), ?_⟩
  walk_at "rda"
  obtain ⟨dx, hb⟩ := hB.b
  refine ⟨_, dx, _, hb, T.cl_Book, T.n_Book_rows, _, by rfl, kb.rows, rfl, .inl ⟨_, .inl hB.r⟩, by rw [sizeLine_eq]; decide, fun p hp => ?_⟩
  have s1 := Same.new (o := .lst []) hp
  refine ⟨_, .inl ⟨_, Sum.inr z, .inl (s1 _ _ hB.r), rfl, rfl⟩, ?_⟩
  rcases valR kb.rs z with ⟨t, h1, h2, h3, h4⟩ | ⟨h1, h2, h3⟩
  ·rw [h3]
   obtain ⟨g1, g2⟩ := hB.l t h1
   show rListOf K [.ref t.2.1] _ Q
   rw [ap_rListOf]
   refine ⟨_, .inl (SqL.of (s1 _ _ g1)), fun l hl => ?_⟩
   have s2 := s1.trans (Same.new (o := .lst (refsR t.2.2)) hl)
   rw [h4] at k
   exact k l _ s2 (s1.free hl) upd_same (g2.same s2)
  ·rw [h1]
   show rListOf K [.ref p] _ Q
   rw [ap_rListOf]
   refine ⟨_, .inl (SqL.of upd_same), fun l hl => ?_⟩
   rw [h2] at k
   exact k l _ (s1.trans (Same.new hl)) (s1.free hl) upd_same fun l h => (List.not_mem_nil h).elim
def sp_Book_held (A : Adr) : Sp := fun vs H Q _ => ∃ (b : Addr) (k : BookD), vs = [.ref b] /\ BookAt A H b k /\ ∀ p kv H', Same H H' -> H p = Option.none -> H' p = some (.dK kv) -> Held kv -> kv.length <= 50 -> (∀ z, heldI kv z = pcs (rowOf k.rs z)) -> Q (.ref p) H'
theorem ok_Book_held (T : Txt K mg A D) : FnOk P w K mg base CX0 2 A.Book_held D.Book_held ["self"] (sp_Book_held A) := by
 refine T.F_Book_held.ok sc_Book_held (fun vs H Q E h => ?_) (fun cdv A' outer s0 H vs Q E hr h => ?_)
 ·obtain ⟨b, k, rfl, _⟩ := h; rfl
 ·obtain ⟨b, kb, rfl, hB, k⟩ := h
  refine ⟨_, (pss_one (ps_ret (pe_thaw (pe_callTy (call_dictPairsK (K := K) rfl) (by rfl) T.b_dict (by decide +kernel) (pa_cons (pe_comp (cap := [Option.none, Option.none]) (N' := ["ware", "row"]) rfl (by walk_at "compok") (pi_items (pe_bm0K (K := K) PySem.F.plainAttrs_dict PySem.F.slot_dict_items PySem.F.type_dict_items mt_items (pe_fldK (K := K) (pv 0) rfl))) (fun _ _ _ _ => (pg_tupK (K := K) (n := 2) rfl (pgs_cons (pg_name (i := 0) (show (["ware", "row"] : List Str).Nodup from by decide +kernel) rfl (Or.inl rfl) (Or.inr rfl)) (pgs_cons (pg_name (i := 1) (show (["ware", "row"] : List Str).Nodup from by decide +kernel) rfl (Or.inl rfl) (Or.inr rfl)) pgs_nil)))) (fun _ _ _ _ => pts_nil) (fun _ _ _ _ => (pe_tup (pa_cons (pv 0) (pa_cons (pe_call (ok_pieces_in (K := K) T) (hr.mono (by decide)) (by rfl) T.m_pieces_in T.k_pieces_in (b_pieces_in T) .nil pass0 (pa_cons (pv 1) pa_nil)) pa_nil))))) pa_nil))))), ?_⟩
  walk_at "rda"
  obtain ⟨dx, hb⟩ := hB.b
  refine ⟨_, dx, _, hb, T.cl_Book, T.n_Book_rows, .ref kb.rows, by rfl, .inr (.inr (.inl ⟨rfl, .inl ⟨_, hB.r⟩⟩)), ?_⟩
  refine ⟨_, _, rfl, rfl, hB.r, fun v hv => ⟨v, rfl, kb.rows, upd_same, kvR kb.rs, (upd_ne (ne_of_none hB.r hv)).trans hB.r, fun o => ?_⟩⟩
  have h3 : (upd (upd H v (viewI v kb.rows)) kb.rows (.frz o (.dK (kvR kb.rs)))) kb.rows = some (.frz o (.dK (kvR kb.rs))) := upd_same
  have o3 : ∀ a o', a ≠ kb.rows -> H a = some o' -> (upd (upd H v (viewI v kb.rows)) kb.rows (.frz o (.dK (kvR kb.rs)))) a = some o' := fun a o' hne h => (upd_ne hne).trans (Same.new hv _ _ h)
  generalize upd (upd H v (viewI v kb.rows)) kb.rows (.frz o (.dK (kvR kb.rs))) = H3 at h3 o3 ⊢
  have hR3 : RowsAt A H3 kb.rs := fun t ht => ⟨o3 _ _ (hB.ner (hB.l t ht).1 fun _ c => by cases c) (hB.l t ht).1, fun l hl => by
   obtain ⟨dy, hy⟩ := (hB.l t ht).2 l hl
   exact ⟨dy, o3 _ _ (hB.ner hy fun _ c => by cases c) hy⟩⟩
  have hkl : (kvR kb.rs).length = kb.rs.length := by unfold kvR; rw [List.length_map]
  have hz := hB.o.z
  refine CompP.itemsF (fun σ => ∃ a b, σ = [a, b]) (fun _ => true) (fun kv v H' => ∃ b, v = .ref b /\ H' b = some (.tup [kV kv.1, .int (pcs (rowOf kb.rs (keyS kv.1)))])) h3 ⟨_, _, rfl⟩ (by rw [hkl, sizeLine_eq]; omega) ?_ ?_
  ·rintro D i kv hkv σ H5 p R1 R2 ⟨_, _, rfl⟩ s5 hD ⟨acc, hA⟩ hp k1 k2
   obtain ⟨t, ht, rfl⟩ : ∃ t, kb.rs[i]? = some t /\ kv = (Sum.inr t.1, .ref t.2.1) := by
    unfold kvR at hkv
    rw [List.getElem?_map] at hkv
    cases e : kb.rs[i]? with
    | none => rw [e] at hkv; cases hkv
    | some t => rw [e] at hkv; exact ⟨t, rfl, (Option.some.inj hkv).symm⟩
   have htm := List.mem_of_getElem? ht
   have s6 := Same.new (o := .tup [kV (Sum.inr t.1), .ref t.2.1]) hp
   have h6 : (upd H5 p (.tup [kV (Sum.inr t.1), .ref t.2.1])) p = some (.tup [.str t.1, .ref t.2.1]) := upd_same
   have hA6 := s6 _ _ hA
   have hR6 := (hR3.same s5).same s6 t htm
   generalize upd H5 p (.tup [kV (Sum.inr t.1), .ref t.2.1]) = H6 at h6 hA6 hR6 k1 k2 ⊢
   walk_at "rdi"
   refine ⟨_, SqT.of h6, rfl, _, _, rfl, _, _, rfl, rfl, t.2.1, t.2.2, rfl, hR6.1, hR6.2, by have := (hB.o.n t htm).2; omega, fun H7 s7 => ?_⟩
   refine ⟨by rw [sizeLine_eq]; decide, fun u hu => k1 rfl _ _ _ ⟨_, _, rfl⟩ (s7.trans (Same.new hu)) fun H' hb => ⟨u, rfl, ?_⟩⟩
   have e1 : rowOf kb.rs (keyS (Sum.inr t.1)) = t.2.2 := rowOf_at hB.o.u htm
   rw [e1]
   exact hb _ _ (fun e => by rw [e, s7 _ _ hA6] at hu; cases hu) upd_same
  ·intro D H4 acc hD s4 hA hlen hF
   have hfl : (kvR kb.rs).filter (fun _ => true) = kvR kb.rs := List.filter_eq_self.mpr fun _ _ => rfl
   rw [hfl] at hlen hF
   have hhl : (heldR kb.rs).length = kb.rs.length := by unfold heldR; rw [List.length_map]
   have hF' : ∀ (i : Nat) v, acc[i]? = some v -> ∃ kv, (heldR kb.rs)[i]? = some kv /\ ∃ b, v = .ref b /\ H4 b = some (.tup [kV kv.1, kv.2]) := fun i v hv => by
    obtain ⟨kv, h1, b, h2, h4⟩ := hF i v hv
    unfold kvR at h1
    rw [List.getElem?_map] at h1
    cases e : kb.rs[i]? with
    | none => rw [e] at h1; cases h1
    | some t =>
     rw [e] at h1
     cases h1
     have e1 : rowOf kb.rs (keyS (Sum.inr t.1)) = t.2.2 := rowOf_at hB.o.u (List.mem_of_getElem? e)
     rw [e1] at h4
     exact ⟨(Sum.inr t.1, .int (pcs t.2.2)), by unfold heldR; rw [List.getElem?_map, e]; rfl, b, h2, h4⟩
   have hH := heldR_ok hB.o
   rw [ap_dictPairs]
   refine ⟨acc, kfD H4, vfD H4, SqL.of hA, by omega, fun y hy => ?_, fun p hp => ?_⟩
   ·obtain ⟨i, hi, e⟩ := List.getElem_of_mem hy
    obtain ⟨kv, _, b, rfl, hb⟩ := hF' i y (by rw [List.getElem?_eq_getElem hi, e])
    exact ⟨b, rfl, by rw [kfD_at hb, vfD_at hb]; exact SqT.of hb⟩
   ·rw [pair_is (by omega) hF' hH.u]
    have s5 := s4.trans (Same.new (o := .dK (heldR kb.rs)) hp)
    have hpr : p ≠ kb.rows := fun e => by rw [e, s4 _ _ h3] at hp; cases hp
    have hpH : H p = Option.none := by
     cases e : H p with
     | none => rfl
     | some o' => rw [s4 _ _ (o3 _ _ hpr e)] at hp; cases hp
    refine ⟨kb.rows, o, kvR kb.rs, s5 _ _ h3, fun o u e => ?_, k p (heldR kb.rs) _ (fun a o' h => ?_) hpH ((upd_ne hpr).trans upd_same) hH (by omega) (heldR_val kb.rs)⟩
    ·have e : H kb.rows = some (.frz o u) := e
     rw [hB.r] at e
     cases e
    ·by_cases c : a = kb.rows
     ·rw [c, hB.r] at h
      rw [c, upd_same]
      exact h
     ·rw [upd_ne c]
      exact s5 _ _ (o3 _ _ c h)
def sp_Book_keep_row (A : Adr) : Sp := fun vs H Q _ => ∃ (b : Addr) (z : Str) (q : Addr) (k : BookD) (ls : RL), vs = [.ref b, .str z, .ref q] /\ BookAt A H b k /\ H q = some (.lst (refsR ls)) /\ LotAt A H ls /\ ls ≠ [] /\ ls.length <= 50 /\ (∀ l ∈ ls, 1 <= l.2.p) /\ k.rs.length < 50 /\
 ∀ H', Off b k.rows H H' -> BookAt A H' b { k with rs := putR k.rs z q ls } -> Q .non H'
theorem ok_Book_keep_row (T : Txt K mg A D) : FnOk P w K mg base CX0 1 A.Book_keep_row D.Book_keep_row ["self", "ware", "row"] (sp_Book_keep_row A) := by
 refine T.F_Book_keep_row.ok sc_Book_keep_row (fun vs H Q E h => ?_) (fun cdv A' outer s0 H vs Q E hr h => ?_)
 ·obtain ⟨b, z, q, k, ls, rfl, _⟩ := h; rfl
 ·obtain ⟨b, z, q, kb, ls, rfl, hB, hq, hL, hn, hl, hp, hz, k⟩ := h
  refine ⟨_, (pss_one (ps_if (pt_cmpR (op_gt) (pe_callB (call_lenK (K := K)) (by rfl) T.b_len (by decide +kernel) (pa_cons (pv 2) pa_nil)) pe_int (nomark _)) (pss_one (ps_dput (hu_of hr) (pe_fldK (K := K) (pv 0) rfl) (pv 1) (pv 2) rfl)) (pss_one (ps_never)))), ?_⟩
  walk_at "rda"
  obtain ⟨dx, hb⟩ := hB.b
  refine ⟨_, .inl (SqL.of hq), ?_⟩
  have hl0 : 0 < ls.length := List.length_pos_iff.mpr hn
  rw [refsR_len, if_pos (by omega)]
  refine ⟨_, dx, _, hb, T.cl_Book, T.n_Book_rows, _, by rfl, kb.rows, rfl, _, DPut.k (k := Sum.inr z) hB.r (by unfold kvR; rw [List.length_map, sizeLine_eq]; omega), ?_⟩
  rw [kvR_put _ _ _ ls]
  exact k _ Off.r (hB.row hq hL hn hl hp hz)
def sp_Book_put (A : Adr) : Sp := fun vs H Q _ => ∃ (b : Addr) (z : Str) (q x : Addr) (k : BookD) (d : LotD), vs = [.ref b, .str z, .ref q] /\ BookAt A H b k /\ H q = some (.lst [.ref x]) /\ IsLot A H x d /\ 1 <= d.p /\ k.rs.length < 50 /\ (rowOf k.rs z).length < 50 /\ ((rowOf k.rs z).map (·.2.n)).Nodup /\ d.n ∉ (rowOf k.rs z).map (·.2.n) /\
 ∀ q' ls H', Off b k.rows H H' -> BookAt A H' b { k with rs := putR k.rs z q' ls } -> (ls.map (·.2)).Perm ((rowOf k.rs z).map (·.2) ++ [d]) -> ((ls.map (·.2)).Pairwise fun a b => lexB [a.s, a.n] [b.s, b.n] false = true) -> Q .non H'
theorem ok_Book_put (T : Txt K mg A D) : FnOk P w K mg base CX0 5 A.Book_put D.Book_put ["self", "ware", "lots"] (sp_Book_put A) := by
 refine T.F_Book_put.ok sc_Book_put (fun vs H Q E h => ?_) (fun cdv A' outer s0 H vs Q E hr h => ?_)
 ·obtain ⟨b, z, q, x, k, d, rfl, _⟩ := h; rfl
 ·obtain ⟨b, z, q, x, kb, d, rfl, hB, hq, hx, hd, hz, hl, hu, hn, k⟩ := h
  refine ⟨_, (pss_cons (ps_set (i := 3) sc_Book_put.nd rfl (Or.inl rfl) (pe_methD (pv 0) (.cons T.cl_Book T.me_Book_row_of (ok_Book_row_of (K := K) T) (hr.mono (by decide)) (b_Book_row_of T) .nil) pass0 (pa_cons (pv 1) pa_nil)))
   (pss_cons (ps_for PassesOwn.never rfl (pi_listK (K := K) (pv 2)) (pg_name (i := 4) sc_Book_put.nd rfl (Or.inl rfl))
    (pss_one (ps_set (i := 3) sc_Book_put.nd rfl (Or.inl rfl) (pe_call (ok_row_with (K := K) T) (hr.mono (by decide)) (by rfl) T.m_row_with T.k_row_with (b_row_with T) .nil pass0 (pa_cons (pv 3) (pa_cons (pv 4) pa_nil))))))
   (pss_one (ps_expr (pe_methD (pv 0) (.cons T.cl_Book T.me_Book_keep_row (ok_Book_keep_row (K := K) T) (hr.mono (by decide)) (b_Book_keep_row T) .nil) pass0 (pa_cons (pv 1) (pa_cons (pv 3) pa_nil))))))), ?_⟩
  simp only [start_eq]
  walk_at "nx"
  obtain ⟨dx, hb⟩ := hB.b
  refine ⟨_, dx, _, hb, _, List.mem_cons_self, by rfl, b, z, kb, rfl, hB, fun r H1 s1 hr1 hr2 hr3 => ?_⟩
  try dsimp only
  rw [ap_seq, ap_for]
  walk_at "rdi"
  have hq1 := s1 _ _ hq
  have hB1 := hB.same s1
  have hx1 := hx.same s1
  refine ⟨⟨_, SqL.of hq1⟩, ?_⟩
  refine ForP.list (K := K) (a := q) (xs := [.ref x]) (fun i σ H2 => ∃ (r' : Addr) (v4 : Option V), σ = [some (.ref b), some (.str z), some (.ref q), some (.ref r'), v4] /\ Same H1 H2 /\ ((i = 0 /\ r' = r) \/ (i = 1 /\ ∃ ls : RL, H2 r' = some (.lst (refsR ls)) /\ LotAt A H2 ls /\ (ls.map (·.2)).Perm ((rowOf kb.rs z).map (·.2) ++ [d]) /\ (ls.map (·.2)).Pairwise fun a b => lexB [a.s, a.n] [b.s, b.n] false = true)))
   ⟨r, _, rfl, Same.refl _, .inl ⟨rfl, rfl⟩⟩ (fun i σ H2 _ ⟨_, _, _, s, _⟩ => s.seq (SqL.of hq1)) ?_ ?_
  ·rintro i y σ H2 hi ⟨r', v4, rfl, s2, hc⟩
   have hi0 : i = 0 := by
    have := (List.getElem?_eq_some_iff.mp hi).1
    simpa using this
   subst hi0
   cases hi
   rcases hc with ⟨_, rfl⟩ | ⟨h, _⟩
   ·walk_at "rdi"
    refine ⟨r', x, rowOf kb.rs z, d, rfl, s2 _ _ hr2, hr3.same s2, hx1.same s2, by omega, hu, fun l ls' H3 s3 hl3 h3 hL3 _ hh => ?_⟩
    obtain ⟨p1, p2⟩ := hh hn
    exact ⟨l, rfl, s2.trans s3, .inr ⟨ls', h3, hL3, p1, p2⟩⟩
   ·cases h
  ·rintro σ H2 ⟨r', v4, rfl, s2, hc⟩
   rcases hc with ⟨h, _⟩ | ⟨_, ls, h3, hL3, p1, p2⟩
   ·cases h
   ·have hB2 := hB1.same s2
    obtain ⟨dx2, hb2⟩ := hB2.b
    try dsimp only
    walk_at "rdi"
    have hlen : ls.length = (rowOf kb.rs z).length + 1 := by
     have := p1.length_eq
     rw [List.length_map, List.length_append, List.length_map] at this
     exact this
    refine ⟨_, dx2, _, hb2, _, List.mem_cons_self, by rfl, b, z, r', kb, ls, rfl, hB2, h3, hL3, fun e => (by rw [e] at hlen; simp at hlen), by omega, fun l hl' => ?_, hz, fun H4 o4 hB4 => ?_⟩
    ·have hm : l.2 ∈ (rowOf kb.rs z).map (·.2) ++ [d] := p1.mem_iff.mp (List.mem_map.mpr ⟨l, hl', rfl⟩)
     rcases List.mem_append.mp hm with hm | hm
     ·obtain ⟨l0, hl0, e0⟩ := List.mem_map.mp hm
      rw [<- e0]
      exact rowOf_p hB.o.p hl0
     ·rw [List.mem_singleton.mp hm]; exact hd
    ·exact k r' ls H4 ((Off.of (s1.trans s2)).trans o4) hB4 p1 p2
def sp_Book_lay_on : Sp := fun vs H Q _ => ∃ b x : Addr, vs = [.ref b, .ref x] /\ Q (.int 0) H
theorem ok_Book_lay_on (T : Txt K mg A D) : FnOk P w K mg base CX0 1 A.Book_lay_on D.Book_lay_on ["self", "entry"] sp_Book_lay_on := by
 refine T.F_Book_lay_on.ok sc_Book_lay_on (fun vs H Q E h => ?_) (fun cdv A' outer s0 H vs Q E hr h => ?_)
 ·obtain ⟨b, x, rfl, _⟩ := h; rfl
 ·obtain ⟨b, x, rfl, k⟩ := h
  refine ⟨_, (pss_one (ps_ret pe_int)), ?_⟩
  walk_at "rda"
  exact k
def sp_place_of (A : Adr) : Sp := fun vs H Q _ => ∃ (x : Addr) (e : E2), vs = [.ref x] /\ IsE2 A H x e /\ ∀ t, H t = Option.none -> Q (.ref t) (upd H t (.tup [.int e.day, .int e.num]))
theorem ce2 (T : Txt K mg A D) (e : E2) : CE K (e.cls A) := by
 cases e with
 | buy => exact ce_Buy T
 | gift => exact ce_Gift T
theorem look2_day (e : E2) : e.fs.lookup (Str.ofString "day") = some (.int e.day) := by cases e <;> rfl
theorem look2_num (e : E2) : e.fs.lookup (Str.ofString "number") = some (.int e.num) := by cases e <;> rfl
theorem ok_place_of (T : Txt K mg A D) : FnOk P w K mg base CX0 1 A.place_of D.place_of ["entry"] (sp_place_of A) := by
 refine T.F_place_of.ok sc_place_of (fun vs H Q E h => ?_) (fun cdv A' outer s0 H vs Q E hr h => ?_)
 ·obtain ⟨x, e, rfl, _⟩ := h; rfl
 ·obtain ⟨x, e, rfl, ⟨dx, hx⟩, k⟩ := h
  refine ⟨_, (pss_one (ps_ret (pe_tup (pa_cons (pe_fldK (K := K) (pv 0) rfl) (pa_cons (pe_fldK (K := K) (pv 0) rfl) pa_nil))))), ?_⟩
  walk_at "rda"
  have hC := ce2 T e
  exact ⟨_, dx, _, hx, hC.c, hC.d, _, look2_day e, _, dx, _, hx, hC.c, hC.n, _, look2_num e, by rw [sizeLine_eq]; decide, fun t ht => k t ht⟩
structure Can (k : BookD) (e : E2) : Prop where
 g : e.good
 z : k.rs.length < 50
 l : (rowOf k.rs e.ware).length < 50
 u : ((rowOf k.rs e.ware).map (·.2.n)).Nodup
 n : e.num ∉ (rowOf k.rs e.ware).map (·.2.n)
def Put2 (k : BookD) (e : E2) (ls : RL) : Prop := (ls.map (·.2)).Perm ((rowOf k.rs e.ware).map (·.2) ++ [e.lot]) /\ (ls.map (·.2)).Pairwise fun a b => lexB [a.s, a.n] [b.s, b.n] false = true
def spDo2 (A : Adr) (b : Bool) : Sp := fun vs H Q _ => ∃ (bk x : Addr) (k : BookD) (e : E2), e.isBuy = b /\ vs = [.ref bk, .ref x] /\ BookAt A H bk k /\ IsE2 A H x e /\ Can k e /\
 ∀ q ls H', Off bk k.rows H H' -> BookAt A H' bk { k with rs := putR k.rs e.ware q ls, paid := k.paid + (if b then e.lot.c else 0), brought := k.brought + (if b then 0 else e.lot.c) } -> Put2 k e ls -> Q .non H'
theorem ok_Book_do_gift (T : Txt K mg A D) : FnOk P w K mg base CX0 6 A.Book_do_gift D.Book_do_gift ["self", "entry"] (spDo2 A false) := by
 refine T.F_Book_do_gift.ok sc_Book_do_gift (fun vs H Q E h => ?_) (fun cdv A' outer s0 H vs Q E hr h => ?_)
 ·obtain ⟨bk, x, k, e, _, rfl, _⟩ := h; rfl
 ·obtain ⟨bk, x, kb, e, hk, rfl, hB, ⟨dx, hx⟩, hC, k⟩ := h
  cases e with
  | buy => cases hk
  | gift d n w p c s =>
   refine ⟨_, (pss_cons (ps_expr (pe_methD (pv 0) (.cons T.cl_Book T.me_Book_put (ok_Book_put (K := K) T) (hr.mono (by decide)) (b_Book_put T) .nil) pass0 (pa_cons (pe_fldK (K := K) (pv 1) rfl) (pa_cons (pe_lst (pa_cons (pe_make T.mk_Lot (ok_Lot___init__ (K := K) T) (hr.mono (by decide)) (by rfl) T.m_Lot (b_Lot___init__ T) .nil pass0 (pa_cons (pe_fldK (K := K) (pv 1) rfl) (pa_cons (pe_fldK (K := K) (pv 1) rfl) (pa_cons (pe_fldK (K := K) (pv 1) rfl) (pa_cons (pe_fldK (K := K) (pv 1) rfl) pa_nil))))) pa_nil)) pa_nil))))
   (pss_one (ps_fldK (K := K) (pv 0) (pe_op op_add (pe_fldK (K := K) (pv 0) rfl) (pe_fldK (K := K) (pv 1) rfl)) rfl))), ?_⟩
   simp only [start_eq]
   walk_at "nx"
   obtain ⟨db, hb⟩ := hB.b
   refine ⟨_, db, _, hb, _, List.mem_cons_self, by rfl, _, dx, _, hx, T.cl_Gift, T.n_Gift_ware, _, by rfl, _, dx, _, hx, T.cl_Gift, T.n_Gift_number, _, by rfl, _, dx, _, hx, T.cl_Gift, T.n_Gift_since, _, by rfl, _, dx, _, hx, T.cl_Gift, T.n_Gift_pieces, _, by rfl, _, dx, _, hx, T.cl_Gift, T.n_Gift_cost, _, by rfl, fun y dy hy hdy _ => ?_⟩
   refine spLot_of ⟨n, s, p, c⟩ hy hdy fun H1 s1 hL => ⟨by rw [sizeLine_eq]; decide, fun q hq => ?_⟩
   have s2 := s1.trans (Same.new (o := .lst [.ref y]) hq)
   have hq2 : (upd H1 q (.lst [.ref y])) q = some (.lst [.ref y]) := upd_same
   have hL2 := hL.same (Same.new (o := .lst [.ref y]) hq)
   generalize upd H1 q (HO.lst [.ref y]) = H2 at s2 hq2 hL2 ⊢
   have hB2 := hB.same s2
   refine ⟨bk, w, q, y, kb, ⟨n, s, p, c⟩, rfl, hB2, hq2, hL2, hC.g.2.1.1, hC.z, hC.l, hC.u, hC.n, fun q' ls H3 o3 hB3 p1 p2 => ?_⟩
   have hx3 := o3 _ _ (hB2.nee ⟨dx, s2 _ _ hx⟩) (hB2.ner (s2 _ _ hx) fun _ c => by cases c) (s2 _ _ hx)
   obtain ⟨db3, hb3⟩ := hB3.b
   try dsimp only
   refine ⟨_, db3, _, hb3, T.cl_Book, T.n_Book_brought, _, by rfl, _, dx, _, hx3, T.cl_Gift, T.n_Gift_cost, _, by rfl, _, rfl, _, rfl, _, db3, _, hb3, T.cl_Book, T.n_Book_brought, (show (7 : Nat) < 1000 by decide), ?_⟩
   rw [putF_brought]
   simp only [Bool.false_eq_true, if_false, if_true, Int.add_zero] at k
   exact k q' ls _ ((Off.of s2).trans (o3.trans Off.b)) (hB3.put rfl rfl rfl rfl hB3.p) ⟨p1, p2⟩
theorem ok_Book_do_buy (T : Txt K mg A D) : FnOk P w K mg base CX0 6 A.Book_do_buy D.Book_do_buy ["self", "entry"] (spDo2 A true) := by
 refine T.F_Book_do_buy.ok sc_Book_do_buy (fun vs H Q E h => ?_) (fun cdv A' outer s0 H vs Q E hr h => ?_)
 ·obtain ⟨bk, x, k, e, _, rfl, _⟩ := h; rfl
 ·obtain ⟨bk, x, kb, e, hk, rfl, hB, ⟨dx, hx⟩, hC, k⟩ := h
  cases e with
  | gift => cases hk
  | buy d n w p r f =>
   refine ⟨_, (pss_cons (ps_set (i := 2) sc_Book_do_buy.nd rfl (Or.inl rfl) (pe_op op_add (pe_fldK (K := K) (pv 1) rfl) (pe_methD (pv 0) (.cons T.cl_Book T.me_Book_lay_on (ok_Book_lay_on (K := K) T) (hr.mono (by decide)) (b_Book_lay_on T) .nil) pass0 (pa_cons (pv 1) pa_nil))))
   (pss_cons (ps_expr (pe_methD (pv 0) (.cons T.cl_Book T.me_Book_put (ok_Book_put (K := K) T) (hr.mono (by decide)) (b_Book_put T) .nil) pass0 (pa_cons (pe_fldK (K := K) (pv 1) rfl) (pa_cons (pe_lst (pa_cons (pe_make T.mk_Lot (ok_Lot___init__ (K := K) T) (hr.mono (by decide)) (by rfl) T.m_Lot (b_Lot___init__ T) .nil pass0 (pa_cons (pe_fldK (K := K) (pv 1) rfl) (pa_cons (pe_fldK (K := K) (pv 1) rfl) (pa_cons (pe_fldK (K := K) (pv 1) rfl) (pa_cons (pv 2) pa_nil))))) pa_nil)) pa_nil))))
   (pss_one (ps_fldK (K := K) (pv 0) (pe_op op_add (pe_fldK (K := K) (pv 0) rfl) (pe_fldK (K := K) (pv 1) rfl)) rfl)))), ?_⟩
   simp only [start_eq]
   walk_at "nx"
   obtain ⟨db, hb⟩ := hB.b
   refine ⟨_, dx, _, hx, T.cl_Buy, T.n_Buy_cost, _, by rfl, _, db, _, hb, _, List.mem_cons_self, by rfl, bk, x, rfl, _, rfl, _, rfl, ?_⟩
   walk_at "nx"
   refine ⟨_, db, _, hb, _, List.mem_cons_self, by rfl, _, dx, _, hx, T.cl_Buy, T.n_Buy_ware, _, by rfl, _, dx, _, hx, T.cl_Buy, T.n_Buy_number, _, by rfl, _, dx, _, hx, T.cl_Buy, T.n_Buy_day, _, by rfl, _, dx, _, hx, T.cl_Buy, T.n_Buy_pieces, _, by rfl, fun y dy hy hdy _ => ?_⟩
   rw [Int.add_zero]
   refine spLot_of ⟨n, d, p, p * r + f⟩ hy hdy fun H1 s1 hL => ⟨by rw [sizeLine_eq]; decide, fun q hq => ?_⟩
   have s2 := s1.trans (Same.new (o := .lst [.ref y]) hq)
   have hq2 : (upd H1 q (.lst [.ref y])) q = some (.lst [.ref y]) := upd_same
   have hL2 := hL.same (Same.new (o := .lst [.ref y]) hq)
   generalize upd H1 q (HO.lst [.ref y]) = H2 at s2 hq2 hL2 ⊢
   have hB2 := hB.same s2
   refine ⟨bk, w, q, y, kb, ⟨n, d, p, p * r + f⟩, rfl, hB2, hq2, hL2, hC.g.2.1.1, hC.z, hC.l, hC.u, hC.n, fun q' ls H3 o3 hB3 p1 p2 => ?_⟩
   have hx3 := o3 _ _ (hB2.nee ⟨dx, s2 _ _ hx⟩) (hB2.ner (s2 _ _ hx) fun _ c => by cases c) (s2 _ _ hx)
   obtain ⟨db3, hb3⟩ := hB3.b
   try dsimp only
   refine ⟨_, db3, _, hb3, T.cl_Book, T.n_Book_paid, _, by rfl, _, dx, _, hx3, T.cl_Buy, T.n_Buy_cost, _, by rfl, _, rfl, _, rfl, _, db3, _, hb3, T.cl_Book, T.n_Book_paid, (show (7 : Nat) < 1000 by decide), ?_⟩
   rw [putF_paid]
   simp only [Bool.false_eq_true, if_false, if_true, Int.add_zero] at k
   exact k q' ls _ ((Off.of s2).trans (o3.trans Off.b)) (hB3.put rfl rfl rfl rfl hB3.p) ⟨p1, p2⟩
def sp_Book_do_by_kind (A : Adr) : Sp := fun vs H Q _ => ∃ (bk x : Addr) (k : BookD) (e : E2), vs = [.ref bk, .ref x] /\ BookAt A H bk k /\ IsE2 A H x e /\ Can k e /\
 ∀ q ls H', Off bk k.rows H H' -> BookAt A H' bk { k with rs := putR k.rs e.ware q ls, paid := k.paid + (if e.isBuy then e.lot.c else 0), brought := k.brought + (if e.isBuy then 0 else e.lot.c) } -> Put2 k e ls -> Q .non H'
theorem ok_Book_do_by_kind (T : Txt K mg A D) : FnOk P w K mg base CX0 7 A.Book_do_by_kind D.Book_do_by_kind ["self", "entry"] (sp_Book_do_by_kind A) := by
 refine T.F_Book_do_by_kind.ok sc_Book_do_by_kind (fun vs H Q E h => ?_) (fun cdv A' outer s0 H vs Q E hr h => ?_)
 ·obtain ⟨bk, x, k, e, rfl, _⟩ := h; rfl
 ·obtain ⟨bk, x, kb, e, rfl, hB, ⟨dx, hx⟩, hC, k⟩ := h
  obtain ⟨db, hb⟩ := hB.b
  refine ⟨_, (pss_one (ps_if (pt_val (pe_callB (call_isCK (K := K)) (by rfl) T.b_isinstance (by decide +kernel) (pa_cons (pv 1) (pa_cons (pe_glob (v := V.ref A.C_Buy) (by rfl) T.m_Buy rfl) pa_nil)))) (pss_one (ps_expr (pe_methD (pv 0) (.cons T.cl_Book T.me_Book_do_buy (ok_Book_do_buy (K := K) T) (hr.mono (by decide)) (b_Book_do_buy T) .nil) pass0 (pa_cons (pv 1) pa_nil)))) (pss_one (ps_if (pt_val (pe_callB (call_isCK (K := K)) (by rfl) T.b_isinstance (by decide +kernel) (pa_cons (pv 1) (pa_cons (pe_glob (v := V.ref A.C_Gift) (by rfl) T.m_Gift rfl) pa_nil)))) (pss_one (ps_expr (pe_methD (pv 0) (.cons T.cl_Book T.me_Book_do_gift (ok_Book_do_gift (K := K) T) (hr.mono (by decide)) (b_Book_do_gift T) .nil) pass0 (pa_cons (pv 1) pa_nil)))) (pss_one (ps_never)))))), ?_⟩
  walk_at "rda"
  cases e with
  | buy d n w p r f =>
   refine ⟨_, T.ty_Buy.of hx, _, T.ki_BB, ?_⟩
   rw [if_pos rfl]
   exact ⟨_, db, _, hb, _, List.mem_cons_self, by rfl, bk, x, kb, _, rfl, rfl, hB, ⟨dx, hx⟩, hC, k⟩
  | gift d n w p c s =>
   refine ⟨_, T.ty_Gift.of hx, _, T.ki_GB, ?_⟩
   rw [if_neg (by decide)]
   refine ⟨_, T.ty_Gift.of hx, _, T.ki_GG, ?_⟩
   rw [if_pos rfl]
   exact ⟨_, db, _, hb, _, List.mem_cons_self, by rfl, bk, x, kb, _, rfl, rfl, hB, ⟨dx, hx⟩, hC, k⟩
def Aft (k : BookD) (e : E2) : Prop := ∀ t, k.last = some t -> t.2.1 < e.day \/ (t.2.1 = e.day /\ t.2.2 < e.num)
theorem aft_le {a b c d : Int} (h : c < a \/ (c = a /\ d < b)) : HT.lexLe [a, b] [c, d] = false := by
 unfold HT.lexLe
 by_cases e : a = c
 ·rw [if_pos e]
  unfold HT.lexLe
  rw [if_neg (by omega)]
  exact decide_eq_false (by omega)
 ·rw [if_neg e]
  exact decide_eq_false (by omega)
def sp_Book_do (A : Adr) : Sp := fun vs H Q _ => ∃ (bk x : Addr) (k : BookD) (e : E2), vs = [.ref bk, .ref x] /\ BookAt A H bk k /\ IsE2 A H x e /\ Can k e /\ Aft k e /\
 ∀ q ls t H', Off bk k.rows H H' -> BookAt A H' bk { k with rs := putR k.rs e.ware q ls, paid := k.paid + (if e.isBuy then e.lot.c else 0), brought := k.brought + (if e.isBuy then 0 else e.lot.c), last := some (t, e.day, e.num) } -> Put2 k e ls -> Q .non H'
theorem ok_Book_do (T : Txt K mg A D) : FnOk P w K mg base CX0 8 A.Book_do D.Book_do ["self", "entry"] (sp_Book_do A) := by
 refine T.F_Book_do.ok sc_Book_do (fun vs H Q E h => ?_) (fun cdv A' outer s0 H vs Q E hr h => ?_)
 ·obtain ⟨bk, x, k, e, rfl, _⟩ := h; rfl
 ·obtain ⟨bk, x, kb, e, rfl, hB, hx, hC, hA, k⟩ := h
  obtain ⟨db, hb⟩ := hB.b
  refine ⟨_, (pss_cons (ps_if (PW.pt (pw_and (pt_cmpR (op_notN) (pe_fldK (K := K) (pv 0) rfl) pe_non (nomark _)) (pw_and1 (pt_cmpR ((op_leTK (K := K) hr)) (pe_call (ok_place_of (K := K) T) (hr.mono (by decide)) (by rfl) T.m_place_of T.k_place_of (b_place_of T) .nil pass0 (pa_cons (pv 1) pa_nil)) (pe_fldK (K := K) (pv 0) rfl) (nomark _))))) (pss_one (ps_never)) pss_nil)
   (pss_cons (ps_if (pt_cmpR (op_isN) (pe_methD (pv 1) (.cons T.cl_Buy T.me_Buy_held_behind (ok_Buy_held_behind (K := K) T) (hr.mono (by decide)) (b_Buy_held_behind T) (.cons T.cl_Gift T.me_Gift_held_behind (ok_Gift_held_behind (K := K) T) (hr.mono (by decide)) (b_Gift_held_behind T) .nil)) pass0 (pa_cons (pe_methD0 (pv 0) (.cons T.cl_Book T.me_Book_held (ok_Book_held (K := K) T) (hr.mono (by decide)) (b_Book_held T) .nil) pass0) pa_nil)) pe_non (nomark _)) (pss_one (ps_never)) pss_nil)
   (pss_cons (ps_expr (pe_methD (pv 0) (.cons T.cl_Book T.me_Book_do_by_kind (ok_Book_do_by_kind (K := K) T) (hr.mono (by decide)) (b_Book_do_by_kind T) .nil) pass0 (pa_cons (pv 1) pa_nil)))
   (pss_one (ps_fldK (K := K) (pv 0) (pe_call (ok_place_of (K := K) T) (hr.mono (by decide)) (by rfl) T.m_place_of T.k_place_of (b_place_of T) .nil pass0 (pa_cons (pv 1) pa_nil)) rfl))))), ?_⟩
  simp only [start_eq]
  refine seq_genL (fun σ' H' => σ' = [some (.ref bk), some (.ref x)] /\ Same H H') ?_ ?_
  ·rintro σ1 H1 ⟨rfl, s1⟩
   refine seq_genL (fun σ' H' => σ' = [some (.ref bk), some (.ref x)] /\ Same H H') ?_ ?_
   ·rintro σ2 H2 ⟨rfl, s2⟩
    have hB2 := hB.same s2
    have hx2 := hx.same s2
    obtain ⟨db2, hb2⟩ := hB2.b
    walk_at "nx"
    refine ⟨_, db2, _, hb2, _, List.mem_cons_self, by rfl, bk, x, kb, e, rfl, hB2, hx2, hC, fun q ls H3 o3 hB3 hp3 => ?_⟩
    have hx3 : IsE2 A H3 x e := by
     obtain ⟨dx, h⟩ := hx2
     exact ⟨dx, o3 _ _ (hB2.nee ⟨dx, h⟩) (hB2.ner h fun _ c => by cases c) h⟩
    try dsimp only
    refine ⟨x, e, rfl, hx3, fun t ht => ?_⟩
    have s4 := Same.new (o := .tup [V.int e.day, V.int e.num]) ht
    have hB4 := hB3.same s4
    have ht4 : (upd H3 t (.tup [V.int e.day, V.int e.num])) t = some (.tup [V.int e.day, V.int e.num]) := upd_same
    generalize upd H3 t (.tup [V.int e.day, V.int e.num]) = H4 at s4 hB4 ht4 ⊢
    obtain ⟨db4, hb4⟩ := hB4.b
    refine ⟨_, db4, _, hb4, T.cl_Book, T.n_Book_last_place, (show (7 : Nat) < 1000 by decide), ?_⟩
    rw [show V.ref t = lastV (some (t, e.day, e.num)) from rfl, putF_last]
    exact k q ls t _ ((Off.of s2).trans (o3.trans ((Off.of s4).trans Off.b))) (hB4.put rfl rfl rfl rfl fun u hu => by cases hu; exact ht4) hp3
   ·intro N hN
    have hB1 := hB.same s1
    obtain ⟨db1, hb1⟩ := hB1.b
    obtain ⟨dx, hx1⟩ := hx.same s1
    walk_at "rdi"
    have hmem : (e.cls A, spBeh2 A e.isBuy) ∈ [(A.C_Buy, spBeh2 A true), (A.C_Gift, spBeh2 A false)] := by
     cases e with
     | buy => exact List.mem_cons_self
     | gift => exact List.mem_cons_of_mem _ List.mem_cons_self
    refine ⟨_, dx, _, hx1, _, hmem, by cases e <;> rfl, _, db1, _, hb1, _, List.mem_cons_self, by rfl, bk, kb, rfl, hB1, fun p kv H2 s2 hpn hp2 hHe hle _ => ?_⟩
    refine ⟨x, p, e, kv, rfl, rfl, ⟨dx, s2 _ _ hx1⟩, .inl hp2, hHe, by omega, fun p2 H3 s3 hp3 => ?_⟩
    show (if V.ref p2 = V.non then _ else _)
    rw [if_neg (fun c => by cases c)]
    exact hN _ _ ⟨rfl, s1.trans (s2.trans s3)⟩
  ·intro N hN
   walk_at "rdi"
   refine ⟨_, db, _, hb, T.cl_Book, T.n_Book_last_place, lastV kb.last, by rfl, ?_⟩
   cases hl : kb.last with
   | none =>
    rw [if_neg (by simp [lastV])]
    exact hN _ _ ⟨rfl, Same.refl _⟩
   | some t =>
    rw [if_pos (by simp [lastV])]
    refine ⟨x, e, rfl, hx, fun t1 ht1 => ?_⟩
    have s1 := Same.new (o := .tup [V.int e.day, V.int e.num]) ht1
    refine ⟨_, db, _, s1 _ _ hb, T.cl_Book, T.n_Book_last_place, lastV kb.last, by rfl, ?_⟩
    rw [hl]
    refine ⟨t1, t.1, [e.day, e.num], [t.2.1, t.2.2], rfl, rfl, SqT.of upd_same, SqT.of (s1 _ _ (hB.p t hl)), _, rfl, ?_⟩
    rw [aft_le (hA t hl), if_neg (by decide)]
    exact hN _ _ ⟨rfl, s1⟩
end
end My
namespace My
open PySem L2 PyProof.Rows
section
variable {P : Program} {w : World} {K : Fg_} {mg : Str -> Option Value} {base : Heap} {A : Adr} {D : Fds}
local macro_rules | `(tactic| walk_at "nx") => `(tactic| ((try dsimp only); rw [ap_seq]; walk_at "rdi"))
def spNo : Sp := fun _ _ _ _ => False
theorem ok_cost_of_parts (T : Txt K mg A D) : FnOk P w K mg base CX0 1 A.cost_of_parts D.cost_of_parts ["parts"] spNo := T.F_cost_of_parts.ok sc_cost_of_parts (fun vs H Q E h => h.elim) (fun cdv A' outer s0 H vs Q E hr h => h.elim)
theorem ok_Sale_gain (T : Txt K mg A D) : FnOk P w K mg base CX0 2 A.Sale_gain D.Sale_gain ["self"] spNo := T.F_Sale_gain.ok sc_Sale_gain (fun vs H Q E h => h.elim) (fun cdv A' outer s0 H vs Q E hr h => h.elim)
theorem ok_copy_of_sale (T : Txt K mg A D) : FnOk P w K mg base CX0 3 A.copy_of_sale D.copy_of_sale ["sale"] spNo := T.F_copy_of_sale.ok sc_copy_of_sale (fun vs H Q E h => h.elim) (fun cdv A' outer s0 H vs Q E hr h => h.elim)
def spNone (A : Adr) : Sp := fun vs H Q _ => ∃ (b : Addr) (k : BookD), vs = [.ref b] /\ BookAt A H b k /\ ∀ l H', Same H H' -> H l = Option.none -> H' l = some (.lst []) -> Q (.ref l) H'
theorem ok_Book_sales (T : Txt K mg A D) : FnOk P w K mg base CX0 4 A.Book_sales D.Book_sales ["self"] (spNone A) := by
 refine T.F_Book_sales.ok sc_Book_sales (fun vs H Q E h => ?_) (fun cdv A' outer s0 H vs Q E hr h => ?_)
 ·obtain ⟨b, k, rfl, _⟩ := h; rfl
 ·obtain ⟨b, kb, rfl, hB, k⟩ := h
  refine ⟨_, (pss_one (ps_ret (pe_comp (cap := [Option.none]) (N' := ["sale"]) rfl (by walk_at "compok") (pi_listK (K := K) (pe_fldK (K := K) (pv 0) rfl)) (fun _ _ _ _ => (pg_name (i := 0) (show (["sale"] : List Str).Nodup from by decide +kernel) rfl (Or.inl rfl) (Or.inr rfl))) (fun _ _ _ _ => pts_nil) (fun _ _ _ _ => (pe_call (ok_copy_of_sale (K := K) T) (hr.mono (by decide)) (by rfl) T.m_copy_of_sale T.k_copy_of_sale (b_copy_of_sale T) .nil pass0 (pa_cons (pv 0) pa_nil)))))), ?_⟩
  walk_at "rda"
  obtain ⟨dx, hb⟩ := hB.b
  refine ⟨_, dx, _, hb, T.cl_Book, T.n_Book_sales_done, _, by rfl, kb.sales, rfl, ⟨_, SqL.of hB.s⟩, ?_⟩
  refine CompP.listE (K := K) (fun σ => ∃ a, σ = [a]) (fun i v H' => True) (SqL.of hB.s) ⟨_, rfl⟩ (by rw [sizeLine_eq]; decide) ?_ ?_
  ·rintro Da i x hx
   cases hx
  ·intro Da H' acc hD sm hA hlen _
   obtain rfl := List.eq_nil_of_length_eq_zero hlen
   exact k Da H' sm hD hA
theorem ok_Book_given (T : Txt K mg A D) : FnOk P w K mg base CX0 2 A.Book_given D.Book_given ["self"] (spNone A) := by
 refine T.F_Book_given.ok sc_Book_given (fun vs H Q E h => ?_) (fun cdv A' outer s0 H vs Q E hr h => ?_)
 ·obtain ⟨b, k, rfl, _⟩ := h; rfl
 ·obtain ⟨b, kb, rfl, hB, k⟩ := h
  refine ⟨_, (pss_one (ps_ret (pe_comp (cap := [Option.none, Option.none]) (N' := ["number", "lots"]) rfl (by walk_at "compok") (pi_listK (K := K) (pe_fldK (K := K) (pv 0) rfl)) (fun _ _ _ _ => (pg_tupK (K := K) (n := 2) rfl (pgs_cons (pg_name (i := 0) (show (["number", "lots"] : List Str).Nodup from by decide +kernel) rfl (Or.inl rfl) (Or.inr rfl)) (pgs_cons (pg_name (i := 1) (show (["number", "lots"] : List Str).Nodup from by decide +kernel) rfl (Or.inl rfl) (Or.inr rfl)) pgs_nil)))) (fun _ _ _ _ => pts_nil) (fun _ _ _ _ => (pe_tup (pa_cons (pv 0) (pa_cons (pe_comp (cap := [Option.none]) (N' := ["lot"]) rfl (by walk_at "compok") (pi_listK (K := K) (pv 1)) (fun _ _ _ _ => (pg_name (i := 0) (show (["lot"] : List Str).Nodup from by decide +kernel) rfl (Or.inl rfl) (Or.inr rfl))) (fun _ _ _ _ => pts_nil) (fun _ _ _ _ => (pe_methD0 (pv 0) (.cons T.cl_Lot T.me_Lot_told (ok_Lot_told (K := K) T) (hr.mono (by decide)) (b_Lot_told T) .nil) pass0))) pa_nil))))))), ?_⟩
  walk_at "rda"
  obtain ⟨dx, hb⟩ := hB.b
  refine ⟨_, dx, _, hb, T.cl_Book, T.n_Book_givings_done, _, by rfl, kb.givs, rfl, ⟨_, SqL.of hB.g⟩, ?_⟩
  refine CompP.listE (K := K) (fun σ => ∃ a b, σ = [a, b]) (fun i v H' => True) (SqL.of hB.g) ⟨_, _, rfl⟩ (by rw [sizeLine_eq]; decide) ?_ ?_
  ·rintro Da i x hx
   cases hx
  ·intro Da H' acc hD sm hA hlen _
   obtain rfl := List.eq_nil_of_length_eq_zero hlen
   exact k Da H' sm hD hA
theorem lot_inj {H : Hp} {a : Addr} {d e : LotD} (h : IsLot A H a d) (h' : IsLot A H a e) : d = e := by
 obtain ⟨dx, h1⟩ := h
 obtain ⟨dy, h2⟩ := h'
 rw [h1] at h2
 injection h2 with h2
 injection h2 with _ _ h3
 cases d
 cases e
 simp only [LotD.fs, List.cons.injEq, Prod.mk.injEq, true_and, and_true, V.int.injEq] at h3
 obtain ⟨rfl, rfl, rfl, rfl⟩ := h3
 rfl
theorem lots_eq {H : Hp} : ∀ {ls ms : RL}, refsR ls = refsR ms -> LotAt A H ls -> LotAt A H ms -> ls = ms
 | [], [], _, _, _ => rfl
 | [], m :: ms, h, _, _ => by cases h
 | l :: ls, [], h, _, _ => by cases h
 | l :: ls, m :: ms, h, h1, h2 => by
  have h : V.ref l.1 :: refsR ls = V.ref m.1 :: refsR ms := h
  obtain ⟨e1, e2⟩ := List.cons.inj h
  have e1 : l.1 = m.1 := V.ref.inj e1
  have e3 := lots_eq e2 (fun x hx => h1 x (List.mem_cons_of_mem _ hx)) (fun x hx => h2 x (List.mem_cons_of_mem _ hx))
  have e4 : l.2 = m.2 := lot_inj (h1 l List.mem_cons_self) (e1 ▸ h2 m List.mem_cons_self)
  rw [e3, Prod.ext e1 e4]
open Classical in
noncomputable def costF (A : Adr) (H : Hp) (v : V) : V := if h : ∃ ls : RL, ∃ q, v = .ref q /\ H q = some (.lst (refsR ls)) /\ LotAt A H ls then .int (cst h.choose) else .non
theorem costF_at {H : Hp} {q : Addr} {ls : RL} (h : H q = some (.lst (refsR ls))) (hL : LotAt A H ls) : costF A H (.ref q) = .int (cst ls) := by
 have hx : ∃ ls : RL, ∃ p, V.ref q = .ref p /\ H p = some (.lst (refsR ls)) /\ LotAt A H ls := ⟨ls, q, rfl, h, hL⟩
 unfold costF
 rw [dif_pos hx]
 obtain ⟨p, e, h1, h2⟩ := hx.choose_spec
 cases e
 rw [h] at h1
 injection h1 with h1
 injection h1 with h1
 rw [<- lots_eq h1 hL h2]
theorem thawed {Hn H4 H5 : Hp} {r : Addr} {kvs : List (Key × V)} (hr : Hn r = some (.dK kvs)) (o4 : ∀ a o, a ≠ r -> Hn a = some o -> H4 a = some o) (s : Same H4 H5) : Same Hn (upd H5 r (.dK kvs)) := fun a o h => by
 by_cases c : a = r
 ·rw [c, hr] at h
  rw [c, upd_same]
  exact h
 ·rw [upd_ne c]
  exact s _ _ (o4 _ _ c h)
theorem comp_nil {cap : List (Option Nat)} {g : TG} {tt : TT} {te : TE} {σ : L2.St} {H : Hp} {Q : VK} {a : Addr} (hS : SqL K H a []) (k : ∀ D H', H D = Option.none -> Same H H' -> H' D = some (.lst ([].map V.int)) -> Q (.ref D) H') : CompP cap (Itl K a) g tt te σ H Q :=
 CompP.list (xs := []) (fun _ => True) (fun _ => true) id hS trivial (Nat.zero_le _) (fun x hx => (List.not_mem_nil hx).elim) k
def sumsK (k : BookD) : List (Key × V) := [(Sum.inr "paid", .int k.paid), (Sum.inr "brought", .int k.brought), (Sum.inr "laid", .int 0), (Sum.inr "sold", .int 0), (Sum.inr "given", .int 0), (Sum.inr "left", .int (cstR k.rs)), (Sum.inr "proceeds", .int 0)]
def sp_Book_sums (A : Adr) : Sp := fun vs H Q _ => ∃ (b : Addr) (k : BookD), vs = [.ref b] /\ BookAt A H b k /\ ∀ p H', Same H H' -> H p = Option.none -> H' p = some (.dK (sumsK k)) -> Q (.ref p) H'
theorem ok_Book_sums (T : Txt K mg A D) : FnOk P w K mg base CX0 3 A.Book_sums D.Book_sums ["self"] (sp_Book_sums A) := by
 refine T.F_Book_sums.ok sc_Book_sums (fun vs H Q E h => ?_) (fun cdv A' outer s0 H vs Q E hr h => ?_)
 ·obtain ⟨b, k, rfl, _⟩ := h; rfl
 ·obtain ⟨b, kb, rfl, hB, k⟩ := h
  refine ⟨_, (pss_one (ps_ret (pe_disp (pps_cons pe_str (pe_fldK (K := K) (pv 0) rfl) (pps_cons pe_str (pe_fldK (K := K) (pv 0) rfl) (pps_cons pe_str (pe_callB (call_sumK (K := K) rfl) (by rfl) T.b_sum (by decide +kernel) (pa_cons (pe_comp (cap := [Option.none]) (N' := ["sale"]) rfl (by walk_at "compok") (pi_listK (K := K) (pe_fldK (K := K) (pv 0) rfl)) (fun _ _ _ _ => (pg_name (i := 0) (show (["sale"] : List Str).Nodup from by decide +kernel) rfl (Or.inl rfl) (Or.inr rfl))) (fun _ _ _ _ => (pts_one (pt_cmpR (op_notN) (pe_fldK (K := K) (pv 0) rfl) pe_non (nomark _)))) (fun _ _ _ _ => (pe_un un_neg (pe_methD0 (pv 0) (.cons T.cl_Sale T.me_Sale_gain (ok_Sale_gain (K := K) T) (hr.mono (by decide)) (b_Sale_gain T) .nil) pass0)))) pa_nil)) (pps_cons pe_str (pe_callB (call_sumK (K := K) rfl) (by rfl) T.b_sum (by decide +kernel) (pa_cons (pe_comp (cap := [Option.none]) (N' := ["sale"]) rfl (by walk_at "compok") (pi_listK (K := K) (pe_fldK (K := K) (pv 0) rfl)) (fun _ _ _ _ => (pg_name (i := 0) (show (["sale"] : List Str).Nodup from by decide +kernel) rfl (Or.inl rfl) (Or.inr rfl))) (fun _ _ _ _ => pts_nil) (fun _ _ _ _ => (pe_call (ok_cost_of_parts (K := K) T) (hr.mono (by decide)) (by rfl) T.m_cost_of_parts T.k_cost_of_parts (b_cost_of_parts T) .nil pass0 (pa_cons (pe_fldK (K := K) (pv 0) rfl) pa_nil)))) pa_nil)) (pps_cons pe_str (pe_callB (call_sumK (K := K) rfl) (by rfl) T.b_sum (by decide +kernel) (pa_cons (pe_comp (cap := [Option.none, Option.none]) (N' := ["number", "lots"]) rfl (by walk_at "compok") (pi_listK (K := K) (pe_fldK (K := K) (pv 0) rfl)) (fun _ _ _ _ => (pg_tupK (K := K) (n := 2) rfl (pgs_cons (pg_name (i := 0) (show (["number", "lots"] : List Str).Nodup from by decide +kernel) rfl (Or.inl rfl) (Or.inr rfl)) (pgs_cons (pg_name (i := 1) (show (["number", "lots"] : List Str).Nodup from by decide +kernel) rfl (Or.inl rfl) (Or.inr rfl)) pgs_nil)))) (fun _ _ _ _ => pts_nil) (fun _ _ _ _ => (pe_call (ok_cost_in (K := K) T) (hr.mono (by decide)) (by rfl) T.m_cost_in T.k_cost_in (b_cost_in T) .nil pass0 (pa_cons (pv 1) pa_nil)))) pa_nil)) (pps_cons pe_str (pe_thaw (pe_callB (call_sumK (K := K) rfl) (by rfl) T.b_sum (by decide +kernel) (pa_cons (pe_comp (cap := [Option.none]) (N' := ["row"]) rfl (by walk_at "compok") (pi_vals (pe_bm0K (K := K) PySem.F.plainAttrs_dict PySem.F.slot_dict_values PySem.F.type_dict_values mt_values (pe_fldK (K := K) (pv 0) rfl))) (fun _ _ _ _ => (pg_name (i := 0) (show (["row"] : List Str).Nodup from by decide +kernel) rfl (Or.inl rfl) (Or.inr rfl))) (fun _ _ _ _ => pts_nil) (fun _ _ _ _ => (pe_call (ok_cost_in (K := K) T) (hr.mono (by decide)) (by rfl) T.m_cost_in T.k_cost_in (b_cost_in T) .nil pass0 (pa_cons (pv 0) pa_nil)))) pa_nil))) (pps_cons pe_str (pe_callB (call_sumK (K := K) rfl) (by rfl) T.b_sum (by decide +kernel) (pa_cons (pe_comp (cap := [Option.none]) (N' := ["sale"]) rfl (by walk_at "compok") (pi_listK (K := K) (pe_fldK (K := K) (pv 0) rfl)) (fun _ _ _ _ => (pg_name (i := 0) (show (["sale"] : List Str).Nodup from by decide +kernel) rfl (Or.inl rfl) (Or.inr rfl))) (fun _ _ _ _ => pts_nil) (fun _ _ _ _ => (pe_fldK (K := K) (pv 0) rfl))) pa_nil)) pps_nil))))))) rfl rfl (List.cons_ne_nil _ _) (Nat.le_of_ble_eq_true rfl)))), ?_⟩
  walk_at "rda"
  unfold tDisp
  intro pd hpd
  simp only [tPairs]
  have sd := Same.new (o := .dK []) hpd
  have hd : (upd H pd (.dK [])) pd = some (.dK []) := upd_same
  obtain ⟨H1, e1⟩ : ∃ H1, H1 = upd H pd (HO.dK []) := ⟨_, rfl⟩
  rw [<- e1] at sd hd ⊢
  clear e1
  have hB1 := hB.same sd
  obtain ⟨dx, hb⟩ := hB1.b
  walk_at "rdi"
  refine ⟨_, dx, _, hb, T.cl_Book, T.n_Book_paid, _, by rfl, _, dx, _, hb, T.cl_Book, T.n_Book_brought, _, by rfl, _, dx, _, hb, T.cl_Book, T.n_Book_sales_done, _, by rfl, kb.sales, rfl, ⟨_, SqL.of hB1.s⟩, ?_⟩
  refine comp_nil (SqL.of hB1.s) fun D2 H2 hD2 s2 h2 => ?_
  rw [ap_rSum]
  refine ⟨[], SqL.of h2, ?_⟩
  have hB2 := hB1.same s2
  refine ⟨_, dx, _, s2 _ _ hb, T.cl_Book, T.n_Book_sales_done, _, by rfl, kb.sales, rfl, ⟨_, SqL.of hB2.s⟩, ?_⟩
  refine comp_nil (SqL.of hB2.s) fun D3 H3 hD3 s3 h3 => ?_
  rw [ap_rSum]
  refine ⟨[], SqL.of h3, ?_⟩
  have hB3 := hB2.same s3
  have s13 := s2.trans s3
  refine ⟨_, dx, _, s13 _ _ hb, T.cl_Book, T.n_Book_givings_done, _, by rfl, kb.givs, rfl, ⟨_, SqL.of hB3.g⟩, ?_⟩
  refine comp_nil (SqL.of hB3.g) fun D4 H4 hD4 s4 h4 => ?_
  rw [ap_rSum]
  refine ⟨[], SqL.of h4, ?_⟩
  have hB4 := hB3.same s4
  have s14 := s13.trans s4
  refine ⟨_, dx, _, s14 _ _ hb, T.cl_Book, T.n_Book_rows, .ref kb.rows, by rfl, .inr (.inr (.inl ⟨rfl, .inl ⟨_, hB4.r⟩⟩)), ?_⟩
  refine ⟨_, _, rfl, rfl, hB4.r, fun v hv => ⟨v, rfl, kb.rows, upd_same, kvR kb.rs, (upd_ne (ne_of_none hB4.r hv)).trans hB4.r, fun o => ?_⟩⟩
  have h5 : (upd (upd H4 v (viewO v kb.rows)) kb.rows (.frz o (.dK (kvR kb.rs)))) kb.rows = some (.frz o (.dK (kvR kb.rs))) := upd_same
  have o5 : ∀ a o', a ≠ kb.rows -> H4 a = some o' -> (upd (upd H4 v (viewO v kb.rows)) kb.rows (.frz o (.dK (kvR kb.rs)))) a = some o' := fun a o' hne h => (upd_ne hne).trans (Same.new hv _ _ h)
  generalize upd (upd H4 v (viewO v kb.rows)) kb.rows (.frz o (.dK (kvR kb.rs))) = H5 at h5 o5 ⊢
  have hR5 : RowsAt A H5 kb.rs := fun t ht => ⟨o5 _ _ (hB4.ner (hB4.l t ht).1 fun _ c => by cases c) (hB4.l t ht).1, fun l hl => by
   obtain ⟨dy, hy⟩ := (hB4.l t ht).2 l hl
   exact ⟨dy, o5 _ _ (hB4.ner hy fun _ c => by cases c) hy⟩⟩
  have hkl : (kvR kb.rs).length = kb.rs.length := by unfold kvR; rw [List.length_map]
  have hz := hB.o.z
  refine CompP.vals (fun σ => ∃ a, σ = [a]) (fun _ => true) (costF A H5) h5 ⟨_, rfl⟩ (by rw [hkl, sizeLine_eq]; omega) ?_ ?_
  ·rintro y hy σ H6 R1 R2 ⟨_, rfl⟩ s6 k1 k2
   obtain ⟨kv, hkv, rfl⟩ := List.mem_map.mp hy
   obtain ⟨t, ht, rfl⟩ := List.mem_map.mp hkv
   walk_at "rdi"
   refine ⟨t.2.1, t.2.2, rfl, s6 _ _ (hR5 t ht).1, (hR5 t ht).2.same s6, by have := (hB.o.n t ht).2; omega, fun H7 s7 => ?_⟩
   have := k1 rfl [some (.ref t.2.1)] H7 ⟨_, rfl⟩ s7
   rw [costF_at (hR5 t ht).1 (hR5 t ht).2] at this
   exact this
  ·intro D5 H7 hD5 s7 h7
   rw [filt_true] at h7
   have h7' : H7 D5 = some (.lst ((kb.rs.map fun t => cst t.2.2).map V.int)) := by
    rw [h7]
    unfold kvR
    rw [List.map_map, List.map_map, List.map_map]
    refine congrArg (fun x => some (HO.lst x)) (List.map_congr_left fun t ht => ?_)
    exact costF_at (hR5 t ht).1 (hR5 t ht).2
   rw [ap_rSum]
   refine ⟨_, SqL.of h7', kb.rows, o, kvR kb.rs, s7 _ _ h5, fun o u e => ?_, ?_⟩
   ·have e : H kb.rows = some (.frz o u) := e
    rw [hB.r] at e
    cases e
   have s48 := thawed hB4.r o5 s7
   have hB8 := hB4.same s48
   generalize upd H7 kb.rows (.dK (kvR kb.rs)) = H8 at s48 hB8 ⊢
   refine ⟨_, dx, _, (s14.trans s48) _ _ hb, T.cl_Book, T.n_Book_sales_done, _, by rfl, kb.sales, rfl, ⟨_, SqL.of hB8.s⟩, ?_⟩
   refine comp_nil (SqL.of hB8.s) fun D9 H9 hD9 s9 h9 => ?_
   rw [ap_rSum]
   have S19 := s14.trans (s48.trans s9)
   refine ⟨[], SqL.of h9, S19 _ _ hd, sumsK kb, rfl, (show (7 : Nat) <= 15 by decide), ?_⟩
   have hm : mergeK [] (sumsK kb) = sumsK kb := by
    have := fold_put (sumsK kb) [] (by show ([Sum.inr "paid", Sum.inr "brought", Sum.inr "laid", Sum.inr "sold", Sum.inr "given", Sum.inr "left", Sum.inr "proceeds"] : List Key).Nodup; decide +kernel)
    exact this
   rw [hm]
   exact k pd _ (fun a o h => (upd_ne (ne_of_none h hpd)).trans (S19 _ _ (sd _ _ h))) hpd upd_same
end
end My
namespace My
open PySem L2 PyProof.Rows
section
variable {P : Program} {w : World} {K : Fg_} {mg : Str -> Option Value} {base : Heap} {A : Adr} {D : Fds}
local macro_rules | `(tactic| walk_at "nx") => `(tactic| ((try dsimp only); rw [ap_seq]; walk_at "rdi"))
def sp__law_pieces (K : Fg_) : Sp := fun vs H Q _ => ∃ (q : Addr) (rs : RL), vs = [.ref q] /\ SqL K H q (refsR rs) /\ RowAt H rs /\ rs.length <= 100 /\ ∀ H', Same H H' -> Q (.int (pcs rs)) H'
theorem ok__law_pieces (T : Txt K mg A D) : FnOk P w K mg base CX0 1 A._law_pieces D._law_pieces ["_law_row"] (sp__law_pieces K) := by
 refine T.F__law_pieces.ok sc__law_pieces (fun vs H Q E h => ?_) (fun cdv A' outer s0 H vs Q E hr h => ?_)
 ·obtain ⟨q, rs, rfl, _⟩ := h; rfl
 ·obtain ⟨q, rs, rfl, hq, hR, hl, k⟩ := h
  refine ⟨_, (pss_one (ps_ret (pe_callB (call_sumK (K := K) rfl) (by rfl) T.b_sum (by decide +kernel) (pa_cons (pe_comp (cap := [Option.none]) (N' := ["_law_lot"]) rfl (by walk_at "compok") (pi_listK (K := K) (pv 0)) (fun _ _ _ _ => (pg_name (i := 0) (show (["_law_lot"] : List Str).Nodup from by decide +kernel) rfl (Or.inl rfl) (Or.inr rfl))) (fun _ _ _ _ => pts_nil) (fun _ _ _ _ => (pe_ix (ix_tupK (K := K)) (pv 0) pe_int (fun _ _ => rfl)))) pa_nil)))), ?_⟩
  walk_at "rda"
  refine ⟨⟨_, hq⟩, ?_⟩
  refine CompP.listE (K := K) (fun σ => ∃ a, σ = [a]) (fun i v _ => ∃ l, rs[i]? = some l /\ v = .int l.2.p) hq ⟨_, rfl⟩ (by rw [refsR_len, sizeLine_eq]; omega) ?_ ?_
  ·rintro Da i x hx σ H5 R ⟨_, rfl⟩ sm hD _ kk
   obtain ⟨l, hl', rfl⟩ := refsR_get hx
   have ht := sm _ _ (hR l (get_mem hl'))
   walk_at "rdi"
   exact ⟨_, SqT.of ht, .int l.2.p, rfl, kk _ _ H5 ⟨_, rfl⟩ (Same.refl _) fun H' _ => ⟨l, hl', rfl⟩⟩
  ·intro Da H' acc hD sm hA hlen hF
   rw [acc_ints (f := fun l => l.2.p) (by rw [hlen, refsR_len]) hF] at hA
   have ec : pcs rs = (rs.map (fun l => l.2.p)).sum := by unfold pcs; rw [List.map_map]; rfl
   rw [ec] at k
   walk_at "rda"
   exact ⟨_, SqL.of hA, k H' sm⟩
theorem dep_tup (xs : List Int) : depD (.tup (xs.map DV.int)) = 1 := by
 show depDs (xs.map DV.int) + 1 = 1
 rw [depDs_ints]
theorem rNeD_lot {H : Hp} {Q : VK} {p q : Addr} {d : LotD} (h1 : H p = some (.tup d.vs)) (h2 : H q = some (.tup d.vs)) (hQ : Q (.bl false) H) : rNeD K (.ref p) (.ref q) H Q :=
 ⟨.tup (d.is.map DV.int), .tup (d.is.map DV.int), .tup (SqT.of h1) (repsD_ints K H d.is), .tup (SqT.of h2) (repsD_ints K H d.is), by rw [dep_tup]; decide, by rw [dep_tup]; decide, by rw [deqD_tup, deqDs_ints]; simpa using hQ⟩
def sp__law_is_row (K : Fg_) (A : Adr) : Sp := fun vs H Q _ => ∃ (q p : Addr) (ls rs : RL), vs = [.ref q, .ref p] /\ H q = some (.lst (refsR ls)) /\ H p = some (.lst (refsR rs)) /\ LotAt A H ls /\ RowAt H rs /\ ls.map (·.2) = rs.map (·.2) /\ ls.length <= 100 /\
 ∀ H', Same H H' -> Q (.bl true) H'
theorem ok__law_is_row (T : Txt K mg A D) : FnOk P w K mg base CX0 2 A._law_is_row D._law_is_row ["_law_found", "_law_rows"] (sp__law_is_row K A) := by
 refine T.F__law_is_row.ok sc__law_is_row (fun vs H Q E h => ?_) (fun cdv A' outer s0 H vs Q E hr h => ?_)
 ·obtain ⟨q, p, ls, rs, rfl, _⟩ := h; rfl
 ·obtain ⟨q, p, ls, rs, rfl, hq, hp, hL, hR, he, hl, k⟩ := h
  refine ⟨_, (pss_cons (ps_if (PW.pt (pw_or (pt_not (pt_val (pe_callB (call_isTK (K := K)) (by rfl) T.b_isinstance (by decide +kernel) (pa_cons (pv 0) (pa_cons (pe_ty "list" (by rfl) T.b_list (by decide +kernel)) pa_nil))))) (pw_or1 (pt_cmpR (op_ne) (pe_callB (call_lenK (K := K)) (by rfl) T.b_len (by decide +kernel) (pa_cons (pv 0) pa_nil)) (pe_callB (call_lenK (K := K)) (by rfl) T.b_len (by decide +kernel) (pa_cons (pv 1) pa_nil)) (nomark _))))) (pss_one (ps_ret pe_bl)) pss_nil)
   (pss_cons (ps_for PassesOwn.never rfl (pi_zip (K := K) (by rfl) T.b_zip (pa_cons (pv 0) (pa_cons (pv 1) pa_nil))) (pg_tupK (K := K) (n := 2) rfl (pgs_cons (pg_name (i := 2) sc__law_is_row.nd rfl (Or.inl rfl)) (pgs_cons (pg_name (i := 3) sc__law_is_row.nd rfl (Or.inl rfl)) pgs_nil)))
    (pss_one (ps_if (PW.pt (pw_or (pt_cmpR (op_neDK (K := K) hr) (pe_methD0 (pv 2) (.cons T.cl_Lot T.me_Lot_told (ok_Lot_told (K := K) T) (hr.mono (by decide)) (b_Lot_told T) .nil) pass0) (pv 3) (nomark _)) (pw_or1 (pt_not (pt_val (pe_callB (call_allK (K := K) rfl) (by rfl) T.b_all (by decide +kernel) (pa_cons (pe_comp (cap := [Option.none]) (N' := ["_law_number"]) rfl (by walk_at "compok") (pi_tupK (K := K) (pe_methD0 (pv 2) (.cons T.cl_Lot T.me_Lot_told (ok_Lot_told (K := K) T) (hr.mono (by decide)) (b_Lot_told T) .nil) pass0)) (fun _ _ _ _ => (pg_name (i := 0) (show (["_law_number"] : List Str).Nodup from by decide +kernel) rfl (Or.inl rfl) (Or.inr rfl))) (fun _ _ _ _ => pts_nil) (fun _ _ _ _ => (pe_call (ok__law_whole (K := K) T) (hr.mono (by decide)) (by rfl) T.m__law_whole T.k__law_whole (b__law_whole T) .nil pass0 (pa_cons (pv 0) pa_nil)))) pa_nil))))))) (pss_one (ps_ret pe_bl)) pss_nil)))
   (pss_one (ps_ret pe_bl)))), ?_⟩
  have hlen : ls.length = rs.length := by simpa using congrArg List.length he
  simp only [start_eq]
  walk_at "nx"
  refine ⟨_, .lst hq, true, by with_unfolding_all rfl, ?_⟩
  walk_at "rdi"
  refine ⟨_, .inl (SqL.of hq), _, .inl (SqL.of hp), ?_⟩
  rw [refsR_len, refsR_len, hlen]
  rw [if_neg (by simp), ap_seq, ap_for]
  walk_at "rdi"
  refine ⟨⟨_, SqL.of hq⟩, ⟨_, SqL.of hp⟩, ?_⟩
  refine ForP.zip (K := K) (a := q) (b := p) (xs := refsR ls) (ys := refsR rs) (fun i σ H1 => (∃ v2 v3, σ = [some (.ref q), some (.ref p), v2, v3]) /\ Same H H1) (by rw [refsR_len, refsR_len, hlen])
   ⟨⟨_, _, rfl⟩, Same.refl _⟩ (fun i σ H1 _ ⟨_, s1⟩ => ⟨s1.seq (SqL.of hq), s1.seq (SqL.of hp)⟩) ?_ ?_
  ·rintro i x y σ H1 pt hx hy ⟨⟨v2, v3, rfl⟩, s1⟩ hpt
   obtain ⟨l, hl1, rfl⟩ := refsR_get hx
   obtain ⟨r, hr1, rfl⟩ := refsR_get hy
   have ed : l.2 = r.2 := by
    have e1 : (ls.map (·.2))[i]? = some l.2 := by rw [List.getElem?_map, hl1]; rfl
    rw [he, List.getElem?_map, hr1] at e1
    exact (Option.some.inj e1).symm
   obtain ⟨dx, hx0⟩ := hL l (get_mem hl1)
   have hy0 := hR r (get_mem hr1)
   rw [<- ed] at hy0
   have s2 := s1.trans (Same.new (o := .tup [V.ref l.1, V.ref r.1]) hpt)
   have hz : (upd H1 pt (.tup [V.ref l.1, V.ref r.1])) pt = some (.tup [V.ref l.1, V.ref r.1]) := upd_same
   generalize upd H1 pt _ = H2 at s2 hz
   walk_at "rdi"
   refine ⟨_, SqT.of hz, rfl, _, _, rfl, _, _, rfl, rfl, ?_⟩
   have hx2 := s2 _ _ hx0
   walk_at "rdi"
   refine ⟨_, dx, _, hx2, _, List.mem_cons_self, by rfl, l.1, l.2, rfl, ⟨dx, hx2⟩, fun t1 ht1 => ?_⟩
   have s3 := s2.trans (Same.new (o := .tup l.2.vs) ht1)
   refine rNeD_lot (d := l.2) upd_same ((Same.new ht1) _ _ (s2 _ _ hy0)) ?_
   generalize upd H2 t1 _ = H3 at s3 ⊢
   have hx3 := s3 _ _ hx0
   walk_at "rdi"
   refine ⟨_, dx, _, hx3, _, List.mem_cons_self, by rfl, l.1, l.2, rfl, ⟨dx, hx3⟩, fun t ht => ?_⟩
   have s4 := s3.trans (Same.new (o := .tup l.2.vs) ht)
   have ht4 : (upd H3 t (.tup l.2.vs)) t = some (.tup l.2.vs) := upd_same
   generalize upd H3 t _ = H4 at s4 ht4 ⊢
   refine ⟨_, rfl, ⟨_, SqT.of ht4⟩, ?_⟩
   refine CompP.tupF (fun σ => ∃ a, σ = [a]) (fun _ => .bl true) (SqT.of ht4) ⟨_, rfl⟩ (by rw [sizeLine_eq]; show 4 <= _; decide) ?_ ?_
   ·rintro x hx5 σ H5 R ⟨_, rfl⟩ s5 kk
    obtain ⟨i5, _, rfl⟩ := List.mem_map.mp (show x ∈ l.2.is.map V.int from hx5)
    walk_at "rdi"
    exact ⟨i5, rfl, kk _ H5 ⟨_, rfl⟩ (Same.refl _)⟩
   ·intro Da H5 hD s5 hA
    have s6 := s4.trans s5
    walk_at "rdi"
    refine ⟨[true, true, true, true], SqL.of hA, ?_⟩
    rw [if_neg (by decide)]
    exact s6
  ·rintro σ H1 ⟨⟨v2, v3, rfl⟩, s1⟩
   walk_at "rda"
   exact k H1 s1
def sp__law_entry (K : Fg_) (A : Adr) : Sp := fun vs H Q _ => ∃ (w : Str) (s : Addr) (d n x : Int), vs = [.str w, .ref s] /\ SqT K H s [.int d, .int n, .int x] /\ Nm w /\ (0 <= d /\ d <= 1000000) /\ (0 <= n /\ n <= 1000000) /\
 ∀ t y l e H', Same H H' -> H' t = some (.tup [.ref y, .ref l]) -> IsE2 A H' y e -> H' l = some (.tup e.lot.vs) -> e.good -> e.ware = w -> e.day = d -> e.num = n -> Q (.ref t) H'
theorem ok__law_entry (T : Txt K mg A D) : FnOk P w K mg base CX0 6 A._law_entry D._law_entry ["_law_ware", "_law_spot"] (sp__law_entry K A) := by
 refine T.F__law_entry.ok sc__law_entry (fun vs H Q E h => ?_) (fun cdv A' outer s0 H vs Q E hr h => ?_)
 ·obtain ⟨w, s, d, n, x, rfl, _⟩ := h; rfl
 ·obtain ⟨w, s, d, n, x, rfl, hs, hw, hd, hn, k⟩ := h
  refine ⟨_, (pss_cons (ps_asg (pv 1) (pg_tupK (K := K) (n := 3) rfl (pgs_cons (pg_name (i := 2) sc__law_entry.nd rfl (Or.inl rfl)) (pgs_cons (pg_name (i := 3) sc__law_entry.nd rfl (Or.inl rfl)) (pgs_cons (pg_name (i := 4) sc__law_entry.nd rfl (Or.inl rfl)) pgs_nil)))))
   (pss_cons (ps_set (i := 5) sc__law_entry.nd rfl (Or.inl rfl) (pe_op op_add pe_int (pe_call (ok__law_small (K := K) T) (hr.mono (by decide)) (by rfl) T.m__law_small T.k__law_small (b__law_small T) .nil pass0 (pa_cons (pe_op op_fdivB (pv 4) pe_int) (pa_cons (pe_op op_pow pe_int pe_int) pa_nil)))))
   (pss_cons (ps_set (i := 6) sc__law_entry.nd rfl (Or.inl rfl) (pe_op op_fdivB (pv 4) (pe_op op_mulU pe_int (pe_op op_pow pe_int pe_int))))
   (pss_cons (ps_if (pt_cmpR (op_eq) (pe_op op_mod (pv 4) pe_int) pe_int (nomark _)) (pss_cons (ps_set (i := 7) sc__law_entry.nd rfl (Or.inl rfl) (pe_call (ok__law_small (K := K) T) (hr.mono (by decide)) (by rfl) T.m__law_small T.k__law_small (b__law_small T) .nil pass0 (pa_cons (pv 6) (pa_cons (pe_op op_add (pe_op op_pow pe_int pe_int) pe_int) pa_nil))))
    (pss_cons (ps_set (i := 8) sc__law_entry.nd rfl (Or.inl rfl) (pe_call (ok__law_small (K := K) T) (hr.mono (by decide)) (by rfl) T.m__law_small T.k__law_small (b__law_small T) .nil pass0 (pa_cons (pe_op op_fdivB (pv 6) (pe_op op_add (pe_op op_mulU pe_int (pe_op op_pow pe_int pe_int)) pe_int)) (pa_cons (pe_op op_add (pe_op op_pow pe_int pe_int) pe_int) pa_nil))))
    (pss_cons (ps_set (i := 9) sc__law_entry.nd rfl (Or.inl rfl) (pe_make T.mk_Buy (ok_Buy___init__ (K := K) T) (hr.mono (by decide)) (by rfl) T.m_Buy (b_Buy___init___7 T).choose_spec.1 (b_Buy___init___7 T).choose_spec.2 pass0 (pa_cons (pv 2) (pa_cons (pv 3) (pa_cons (pv 0) (pa_cons (pv 5) (pa_cons (pv 7) (pa_cons (pv 8) pa_nil))))))))
    (pss_one (ps_ret (pe_tup (pa_cons (pv 9) (pa_cons (pe_tup (pa_cons (pv 3) (pa_cons (pv 2) (pa_cons (pv 5) (pa_cons (pe_op op_add (pe_op op_mulU (pv 5) (pv 7)) (pv 8)) pa_nil))))) pa_nil)))))))) pss_nil)
   (pss_cons (ps_set (i := 10) sc__law_entry.nd rfl (Or.inl rfl) (pe_op op_mod (pv 6) (pe_op op_add (pv 2) pe_int)))
   (pss_cons (ps_set (i := 11) sc__law_entry.nd rfl (Or.inl rfl) (pe_call (ok__law_small (K := K) T) (hr.mono (by decide)) (by rfl) T.m__law_small T.k__law_small (b__law_small T) .nil pass0 (pa_cons (pe_op op_fdivB (pv 6) (pe_op op_add (pe_op op_pow pe_int pe_int) pe_int)) (pa_cons (pe_op op_add (pe_op op_pow pe_int pe_int) pe_int) pa_nil))))
   (pss_cons (ps_set (i := 9) sc__law_entry.nd rfl (Or.inl rfl) (pe_make T.mk_Gift (ok_Gift___init__ (K := K) T) (hr.mono (by decide)) (by rfl) T.m_Gift (b_Gift___init__ T) .nil pass0 (pa_cons (pv 2) (pa_cons (pv 3) (pa_cons (pv 0) (pa_cons (pv 5) (pa_cons (pv 11) (pa_cons (pv 10) pa_nil))))))))
   (pss_one (ps_ret (pe_tup (pa_cons (pv 9) (pa_cons (pe_tup (pa_cons (pv 3) (pa_cons (pv 10) (pa_cons (pv 5) (pa_cons (pv 11) pa_nil))))) pa_nil)))))))))))), ?_⟩
  simp only [start_eq]
  walk_at "nx"
  refine ⟨_, hs, rfl, _, _, rfl, _, _, rfl, _, _, rfl, rfl, ?_⟩
  walk_at "nx"
  refine ⟨⟨by decide, by decide⟩, cp_of (by decide) (by decide), _, _, rfl, by decide, fun y1 H1 hy0 hy1 s1 => ⟨_, rfl, ?_⟩⟩
  rw [show (10 ^ Int.toNat 9 : Int) = 1000000000 from rfl] at hy1
  walk_at "nx"
  refine ⟨cp_of (by decide) (by decide), CMulU.l (by decide) (by decide), ⟨by decide, by decide⟩, ?_⟩
  generalize x / (4 * 10 ^ Int.toNat 9) = x1
  walk_at "nx"
  refine ⟨by decide, ?_⟩
  by_cases hx : x % 2 = 0
  ·rw [if_pos hx]
   walk_at "nx"
   refine ⟨cp_of (by decide) (by decide), _, _, rfl, by decide, fun pr H2 hp0 hp1 s2 => ?_⟩
   rw [show (10 ^ Int.toNat 9 + 1 : Int) = 1000000001 from rfl] at hp1
   walk_at "nx"
   refine ⟨cp_of (by decide) (by decide), CMulU.l (by decide) (by decide), ⟨by decide, by decide⟩, cp_of (by decide) (by decide), _, _, rfl, by decide, fun fe H3 hf0 hf1 s3 => ?_⟩
   rw [show (10 ^ Int.toNat 9 + 1 : Int) = 1000000001 from rfl] at hf1
   walk_at "nx"
   intro y dy hy hdy _
   refine ⟨y, .buy d n w (1 + y1) pr fe, H3, dy, rfl, rfl, new_mk hy hdy, ⟨⟨hd.1, hd.2, hn.1, hn.2, hw⟩, ⟨by omega, by omega⟩, ⟨hp0, by omega⟩, ⟨hf0, by omega⟩⟩, fun H4 hN => ?_⟩
   refine ⟨rfl, Bd.mul ⟨by omega, by omega⟩ ⟨by omega, by omega⟩, by rw [sizeLine_eq]; decide, fun l hl => ⟨by rw [sizeLine_eq]; decide, fun t ht => ?_⟩⟩
   have s5 := Same.new (o := .tup [V.int n, V.int d, V.int (1 + y1), V.int ((1 + y1) * pr + fe)]) hl
   have s6 := Same.new (o := .tup [V.ref y, V.ref l]) ht
   exact k t y l (.buy d n w (1 + y1) pr fe) _ (s1.trans (s2.trans (s3.trans (hN.s.trans (s5.trans s6))))) upd_same ⟨dy, s6 _ _ (s5 _ _ hN.h)⟩ (s6 _ _ upd_same) ⟨⟨hd.1, hd.2, hn.1, hn.2, hw⟩, ⟨by omega, by omega⟩, ⟨hp0, by omega⟩, ⟨hf0, by omega⟩⟩ rfl rfl rfl
  ·rw [if_neg hx]
   walk_at "nx"
   refine ⟨by omega, ?_⟩
   have hs0 : 0 <= x1 % (d + 1) := Int.emod_nonneg _ (by omega)
   have hs1 : x1 % (d + 1) < d + 1 := Int.emod_lt_of_pos _ (by omega)
   generalize x1 % (d + 1) = si at hs0 hs1
   walk_at "nx"
   refine ⟨cp_of (by decide) (by decide), ⟨by decide, by decide⟩, cp_of (by decide) (by decide), _, _, rfl, by decide, fun co H3 hc0 hc1 s3 => ?_⟩
   rw [show (10 ^ Int.toNat 18 + 1 : Int) = 1000000000000000001 from rfl] at hc1
   walk_at "nx"
   intro y dy hy hdy _
   refine ⟨y, .gift d n w (1 + y1) co si, H3, dy, rfl, rfl, new_mk hy hdy, ⟨⟨hd.1, hd.2, hn.1, hn.2, hw⟩, ⟨by omega, by omega⟩, ⟨hc0, by omega⟩, ⟨hs0, by omega⟩⟩, fun H4 hN => ?_⟩
   refine ⟨rfl, by rw [sizeLine_eq]; decide, fun l hl => ⟨by rw [sizeLine_eq]; decide, fun t ht => ?_⟩⟩
   have s5 := Same.new (o := .tup [V.int n, V.int si, V.int (1 + y1), V.int co]) hl
   have s6 := Same.new (o := .tup [V.ref y, V.ref l]) ht
   exact k t y l (.gift d n w (1 + y1) co si) _ (s1.trans (s3.trans (hN.s.trans (s5.trans s6)))) upd_same ⟨dy, s6 _ _ (s5 _ _ hN.h)⟩ (s6 _ _ upd_same) ⟨⟨hd.1, hd.2, hn.1, hn.2, hw⟩, ⟨by omega, by omega⟩, ⟨hc0, by omega⟩, ⟨hs0, by omega⟩⟩ rfl rfl rfl
end
end My
namespace My
open PySem L2 PyProof.Rows
section
variable {P : Program} {w : World} {K : Fg_} {mg : Str -> Option Value} {base : Heap} {A : Adr} {D : Fds}
local macro_rules | `(tactic| walk_at "nx") => `(tactic| ((try dsimp only); rw [ap_seq]; walk_at "rdi"))
def TRows (H : Hp) (rs : RW) : Prop := ∀ t ∈ rs, H t.2.1 = some (.lst (refsR t.2.2)) /\ RowAt H t.2.2
theorem TRows.same {H H' : Hp} {rs : RW} (h : TRows H rs) (s : Same H H') : TRows H' rs := fun t ht => ⟨s _ _ (h t ht).1, (h t ht).2.same s⟩
def datR (rs : RW) : List (Str × List LotD) := rs.map fun t => (t.1, t.2.2.map (·.2))
theorem rowOf_dat : ∀ {rs rl : RW}, datR rs = datR rl -> ∀ z, (rowOf rs z).map (·.2) = (rowOf rl z).map (·.2)
 | [], [], _, _ => rfl
 | [], _ :: _, h, _ => by cases h
 | _ :: _, [], h, _ => by cases h
 | t :: rs, u :: rl, h, z => by
  have h : (t.1, t.2.2.map (·.2)) :: datR rs = (u.1, u.2.2.map (·.2)) :: datR rl := h
  obtain ⟨h1, h2⟩ := List.cons.inj h
  obtain ⟨h3, h4⟩ := Prod.mk.inj h1
  unfold rowOf
  rw [h3]
  split
  ·exact h4
  ·exact rowOf_dat h2 z
theorem names_dat {rs rl : RW} (h : datR rs = datR rl) : rs.map (·.1) = rl.map (·.1) := by
 have := congrArg (List.map Prod.fst) h
 unfold datR at this
 rw [List.map_map, List.map_map] at this
 exact this
theorem pcs_dat {ls ms : RL} (h : ls.map (·.2) = ms.map (·.2)) : pcs ls = pcs ms := by unfold pcs; rw [h]
theorem len_dat {ls ms : RL} (h : ls.map (·.2) = ms.map (·.2)) : ls.length = ms.length := by simpa using congrArg List.length h
theorem p_dat {ls ms : RL} (h : ls.map (·.2) = ms.map (·.2)) (hp : ∀ l ∈ ls, 1 <= l.2.p) : ∀ l ∈ ms, 1 <= l.2.p := fun l hl => by
 have : l.2 ∈ ls.map (·.2) := by rw [h]; exact List.mem_map.mpr ⟨l, hl, rfl⟩
 obtain ⟨m, hm, e⟩ := List.mem_map.mp this
 rw [<- e]
 exact hp m hm
theorem heldI_put {kvs : List (Key × V)} {w y : Str} {n : Int} : heldI (putK kvs (Sum.inr w) (.int n)) y = if y = w then n else heldI kvs y := by
 unfold heldI
 rw [valV_put]
 by_cases e : y = w
 ·rw [if_pos e, if_pos (by rw [e])]
 ·rw [if_neg e, if_neg (fun h => e (Sum.inr.inj h))]
theorem held_put {kvs : List (Key × V)} {w : Str} {n : Int} (h : Held kvs) (hn : 1 <= n) : Held (putK kvs (Sum.inr w) (.int n)) :=
 ⟨fun kv hkv => by
  rcases put_mem hkv with rfl | hkv
  ·exact ⟨w, n, rfl, hn⟩
  ·exact h.k kv hkv, put_nodup h.u⟩
theorem get_row {H : Hp} {rl : RW} {z : Str} {q : Addr} (hT : TRows H rl) (hq : H q = some (.lst [])) : ∃ q', (valV (kvR rl) (Sum.inr z)).getD (.ref q) = .ref q' /\ H q' = some (.lst (refsR (rowOf rl z))) /\ RowAt H (rowOf rl z) := by
 rcases valR rl z with ⟨t, h1, h2, h3, h4⟩ | ⟨h1, h2, h3⟩
 ·rw [h3, h4]
  exact ⟨t.2.1, rfl, hT t h1⟩
 ·rw [h1, h2]
  exact ⟨q, rfl, hq, fun l h => (List.not_mem_nil h).elim⟩
theorem map_getS {ws : List Str} {i : Nat} {y : V} (h : (ws.map V.str)[i]? = some y) : ∃ w, y = V.str w /\ ws[i]? = some w := by
 rw [List.getElem?_map] at h
 cases e : ws[i]? with
 | none => rw [e] at h; cases h
 | some w => rw [e] at h; exact ⟨w, (Option.some.inj h).symm, rfl⟩
def sp__law_rows_good (A : Adr) : Sp := fun vs H Q _ => ∃ (b r wp : Addr) (k : BookD) (rl : RW) (ws : List Str), vs = [.ref b, .ref r, .ref wp] /\ BookAt A H b k /\ H r = some (.dK (kvR rl)) /\ TRows H rl /\ H wp = some (.lst (ws.map V.str)) /\ ws.length = 3 /\ ws.Nodup /\ datR k.rs = datR rl /\ (∀ z ∈ rl.map (·.1), z ∈ ws) /\
 ∀ H', Same H H' -> Q (.bl true) H'
theorem ok__law_rows_good (T : Txt K mg A D) : FnOk P w K mg base CX0 3 A._law_rows_good D._law_rows_good ["_law_book", "_law_rows", "_law_wares_here"] (sp__law_rows_good A) := by
 refine T.F__law_rows_good.ok sc__law_rows_good (fun vs H Q E h => ?_) (fun cdv A' outer s0 H vs Q E hr h => ?_)
 ·obtain ⟨b, r, wp, k, rl, ws, rfl, _⟩ := h; rfl
 ·obtain ⟨b, r, wp, kb, rl, ws, rfl, hB, hr0, hT, hw, hwl, hwu, hdat, hnm, k⟩ := h
  refine ⟨_, (pss_cons (ps_set (i := 3) sc__law_rows_good.nd rfl (Or.inl rfl) pe_dnewK)
   (pss_cons (ps_for PassesOwn.never rfl (pi_listK (K := K) (pv 2)) (pg_name (i := 4) sc__law_rows_good.nd rfl (Or.inl rfl))
    (pss_cons (ps_set (i := 5) sc__law_rows_good.nd rfl (Or.inl rfl) (pe_dget2 (hu_of hr) (pv 1) (pv 4) (pe_lst pa_nil) ⟨rfl, rfl, rfl, rfl⟩))
    (pss_cons (ps_if (pt_cmpR (op_neRK (K := K) hr) (pv 5) (pe_lst pa_nil) (nomark _)) (pss_one (ps_dput (hu_of hr) (pv 3) (pv 4) (pe_call (ok__law_pieces (K := K) T) (hr.mono (by decide)) (by rfl) T.m__law_pieces T.k__law_pieces (b__law_pieces T) .nil pass0 (pa_cons (pv 5) pa_nil)) rfl)) pss_nil)
    (pss_one (ps_if (pt_not (pt_val (pe_call (ok__law_is_row (K := K) T) (hr.mono (by decide)) (by rfl) T.m__law_is_row T.k__law_is_row (b__law_is_row T) .nil pass0 (pa_cons (pe_methD (pv 0) (.cons T.cl_Book T.me_Book_row_of (ok_Book_row_of (K := K) T) (hr.mono (by decide)) (b_Book_row_of T) .nil) pass0 (pa_cons (pv 4) pa_nil)) (pa_cons (pv 5) pa_nil))))) (pss_one (ps_ret pe_bl)) pss_nil)))))
   (pss_one (ps_ret (pe_cmpR (op_eqM hr) (pe_methD0 (pv 0) (.cons T.cl_Book T.me_Book_held (ok_Book_held (K := K) T) (hr.mono (by decide)) (b_Book_held T) .nil) pass0) (pv 3) (nomark _)))))), ?_⟩
  simp only [start_eq]
  walk_at "nx"
  intro p hp
  have s1 := Same.new (o := .dK []) hp
  have h1 : (upd H p (.dK [])) p = some (.dK []) := upd_same
  generalize upd H p (.dK []) = H1 at s1 h1 ⊢
  try dsimp only
  rw [ap_seq, ap_for]
  walk_at "rdi"
  refine ⟨⟨_, s1.seq (SqL.of hw)⟩, ?_⟩
  have hpp : ∀ z, ∀ l ∈ rowOf rl z, 1 <= l.2.p := fun z => p_dat (rowOf_dat hdat z) fun l hl => rowOf_p hB.o.p hl
  have hll : ∀ z, (rowOf rl z).length <= 50 := fun z => by
   rw [<- len_dat (rowOf_dat hdat z)]
   rcases valR kb.rs z with ⟨t, h1, h2, _, h4⟩ | ⟨_, h2, _⟩
   ·rw [h4]; exact (hB.o.n t h1).2
   ·rw [h2]; exact Nat.zero_le _
  refine ForP.list (K := K) (a := wp) (xs := ws.map V.str) (fun i σ H2 => ∃ (kvd : List (Key × V)) (v4 v5 : Option V), σ = [some (.ref b), some (.ref r), some (.ref wp), some (.ref p), v4, v5] /\ Same H H2 /\ H2 p = some (.dK kvd) /\ Held kvd /\ kvd.length <= i /\ ∀ z, heldI kvd z = if z ∈ ws.take i then pcs (rowOf rl z) else 0)
   ⟨[], _, _, rfl, s1, h1, held_nil, Nat.le_refl _, fun z => rfl⟩ (fun i σ H2 _ ⟨_, _, _, _, s, _⟩ => s.seq (SqL.of hw)) ?_ ?_
  ·rintro i y σ H2 hi ⟨kvd, v4, v5, rfl, s2, h2, hHd, hdl, hdv⟩
   obtain ⟨w, rfl, hwi⟩ := map_getS hi
   have hil : i < ws.length := (List.getElem?_eq_some_iff.mp hwi).1
   walk_at "rdi"
   walk_at "nx"
   refine ⟨.inl ⟨_, .inl (s2 _ _ hr0)⟩, by rw [sizeLine_eq]; decide, fun q hq => ?_⟩
   have s3 := Same.new (o := .lst []) hq
   have hq3 : (upd H2 q (.lst [])) q = some (.lst []) := upd_same
   generalize upd H2 q (.lst []) = H3 at s3 hq3 ⊢
   have S3 := s2.trans s3
   refine ⟨_, .inl ⟨_, Sum.inr w, .inl (S3 _ _ hr0), rfl, rfl⟩, ?_⟩
   obtain ⟨q', eq, hq', hR'⟩ := get_row (z := w) (hT.same S3) hq3
   rw [eq]
   have htk : ws.take (i + 1) = ws.take i ++ [w] := by rw [List.take_add_one, hwi]; rfl
   have hnw : w ∉ ws.take i := fun hm => by
    have h2 := hwu
    rw [<- List.take_append_drop (i + 1) ws, htk] at h2
    have h3 := (List.nodup_append.mp h2).1
    exact (List.nodup_append.mp h3).2.2 w hm w (by simp) rfl
   refine seq_genL (fun σ' H' => σ' = [some (.ref b), some (.ref r), some (.ref wp), some (.ref p), some (.str w), some (.ref q')] /\ Same H H' /\ H' q' = some (.lst (refsR (rowOf rl w))) /\ RowAt H' (rowOf rl w) /\ ∃ kvd, H' p = some (.dK kvd) /\ Held kvd /\ kvd.length <= i + 1 /\ ∀ z, heldI kvd z = if z ∈ ws.take (i + 1) then pcs (rowOf rl z) else 0) ?_ ?_
   ·rintro σ4 H4 ⟨rfl, s4, hq4, hR4, kvd4, h4, hH4, hl4, hv4⟩
    have hB4 := hB.same s4
    obtain ⟨db, hb⟩ := hB4.b
    try dsimp only
    walk_at "rdi"
    refine ⟨_, db, _, hb, _, List.mem_cons_self, by rfl, b, w, kb, rfl, hB4, fun l H5 s5 hl5 h5 hL5 => ?_⟩
    refine ⟨l, q', rowOf kb.rs w, rowOf rl w, rfl, h5, s5 _ _ hq4, hL5, hR4.same s5, rowOf_dat hdat w, by rw [len_dat (rowOf_dat hdat w)]; have := hll w; omega, fun H6 s6 => ⟨true, rfl, ?_⟩⟩
    rw [if_neg (by decide)]
    exact ⟨s4.trans (s5.trans s6), kvd4, s6 _ _ (s5 _ _ h4), hH4, hl4, hv4⟩
   ·intro N hN
    walk_at "rdi"
    refine ⟨by rw [sizeLine_eq]; decide, fun q1 hq1 => ?_⟩
    have s5 := Same.new (o := .lst []) hq1
    have hq5 : (upd H3 q1 (.lst [])) q1 = some (.lst []) := upd_same
    generalize upd H3 q1 (.lst []) = H5 at s5 hq5 ⊢
    have S5 := S3.trans s5
    have h25 := s5 _ _ (s3 _ _ h2)
    refine ⟨_, SqL.of (s5 _ _ hq'), _, SqL.of hq5, ?_⟩
    by_cases hne : rowOf rl w = []
    ·refine .inr ⟨by rw [hne]; rfl, fun v hv => ?_, hN _ _ ⟨rfl, S5, s5 _ _ hq', hR'.same s5, kvd, h25, hHd, by omega, fun z => ?_⟩⟩
     ·rw [hne] at hv; exact (List.not_mem_nil hv).elim
     ·rw [hdv z, htk]
      by_cases c : z ∈ ws.take i
      ·rw [if_pos c, if_pos (List.mem_append.mpr (.inl c))]
      ·rw [if_neg c]
       by_cases c2 : z = w
       ·rw [if_pos (List.mem_append.mpr (.inr (by rw [c2]; simp))), c2, hne]; rfl
       ·rw [if_neg fun hm => (List.mem_append.mp hm).elim c fun hm => c2 (List.mem_singleton.mp hm)]
    ·have hpos : 0 < (rowOf rl w).length := List.length_pos_iff.mpr hne
     refine .inl ⟨by rw [refsR_len]; show (rowOf rl w).length ≠ 0; omega, q', rowOf rl w, rfl, SqL.of (s5 _ _ hq'), hR'.same s5, by have := hll w; omega, fun H6 s6 => ?_⟩
     have h26 := s6 _ _ h25
     refine ⟨_, DPut.k (k := Sum.inr w) h26 (by rw [sizeLine_eq]; omega), ?_⟩
     have hpc := pcs_pos (hpp w)
     have hq6 := s6 _ _ (s5 _ _ hq')
     have hR6 := (hR'.same s5).same s6
     refine hN _ _ ⟨rfl, (S5.trans s6).upd hp, (upd_ne (fun e => by rw [e, h26] at hq6; cases hq6)).trans hq6, fun l hl => ?_, _, upd_same, held_put hHd (by omega), by have := put_len kvd (Sum.inr w) (.int (pcs (rowOf rl w))); omega, fun z => ?_⟩
     ·have h7 := hR6 l hl
      exact (upd_ne (fun e => by rw [e, h26] at h7; cases h7)).trans h7
     ·rw [heldI_put, hdv z, htk]
      by_cases c2 : z = w
      ·rw [if_pos c2, if_pos (List.mem_append.mpr (.inr (by rw [c2]; simp))), c2]
      ·rw [if_neg c2]
       by_cases c : z ∈ ws.take i
       ·rw [if_pos c, if_pos (List.mem_append.mpr (.inl c))]
       ·rw [if_neg c, if_neg fun hm => (List.mem_append.mp hm).elim c fun hm => c2 (List.mem_singleton.mp hm)]
  ·rintro σ H2 ⟨kvd, v4, v5, rfl, s2, h2, hHd, hdl, hdv⟩
   have hB2 := hB.same s2
   obtain ⟨db, hb⟩ := hB2.b
   try dsimp only
   walk_at "rda"
   refine ⟨_, db, _, hb, _, List.mem_cons_self, by rfl, b, kb, rfl, hB2, fun p5 kv5 H5 s5 hp5 h5 hH5 _ hv5 => ?_⟩
   show rEqM (.ref p5) (.ref p) H5 Q
   rw [ap_eqM]
   refine ⟨_, _, .inl h5, .inl (s5 _ _ h2), held_alike hH5 hHd fun z => ?_, k _ (s2.trans s5)⟩
   rw [hv5 z, hdv z, List.length_map, List.take_length, pcs_dat (rowOf_dat hdat z)]
   by_cases c : z ∈ ws
   ·rw [if_pos c]
   ·rw [if_neg c]
    rcases valR rl z with ⟨t, h1, h2, _, _⟩ | ⟨_, h2, _⟩
    ·exact (c (hnm z (List.mem_map.mpr ⟨t, h1, h2⟩))).elim
    ·rw [h2]; rfl
end
end My
namespace My
open PySem L2 PyProof.Rows
section
variable {P : Program} {w : World} {K : Fg_} {mg : Str -> Option Value} {base : Heap} {A : Adr} {D : Fds}
local macro_rules | `(tactic| walk_at "nx") => `(tactic| ((try dsimp only); rw [ap_seq]; walk_at "rdi"))
def due0 : List (Key × V) := [(Sum.inr "laid", .int 0), (Sum.inr "sold", .int 0), (Sum.inr "given", .int 0), (Sum.inr "proceeds", .int 0)]
def due3 (k : BookD) : List (Key × V) := [(Sum.inr "paid", .int k.paid), (Sum.inr "brought", .int k.brought), (Sum.inr "left", .int (k.paid + k.brought))]
theorem due_nd (k : BookD) : ((due0 ++ due3 k).map (·.1)).Nodup := by
 show ([Sum.inr "laid", Sum.inr "sold", Sum.inr "given", Sum.inr "proceeds", Sum.inr "paid", Sum.inr "brought", Sum.inr "left"] : List Key).Nodup
 decide +kernel
theorem due_put (k : BookD) : putK (putK (putK due0 (Sum.inr "paid") (.int k.paid)) (Sum.inr "brought") (.int k.brought)) (Sum.inr "left") (.int (k.paid + k.brought)) = due0 ++ due3 k := fold_put (due3 k) due0 (due_nd k)
theorem sums_alike {k : BookD} (h : cstR k.rs = k.paid + k.brought) : Alike (sumsK k) (due0 ++ due3 k) := by
 have hv : ∀ {x : Key} {i : Int}, (x, V.int i) ∈ due0 ++ due3 k -> valV (due0 ++ due3 k) x = some (.int i) := fun hm => val_of_mem (due_nd k) hm
 refine ⟨rfl, fun kv hkv => ?_⟩
 unfold sumsK at hkv
 rw [h] at hkv
 simp only [List.mem_cons, List.not_mem_nil, or_false] at hkv
 rcases hkv with rfl | rfl | rfl | rfl | rfl | rfl | rfl <;> exact ⟨_, rfl, hv (by unfold due0 due3; simp)⟩
def sp__law_sums_good (A : Adr) : Sp := fun vs H Q _ => ∃ (b : Addr) (k : BookD), vs = [.ref b, .int k.paid, .int k.brought] /\ BookAt A H b k /\ cstR k.rs = k.paid + k.brought /\ ∀ H', Same H H' -> Q (.bl true) H'
theorem ok__law_sums_good (T : Txt K mg A D) : FnOk P w K mg base CX0 5 A._law_sums_good D._law_sums_good ["_law_book", "_law_paid", "_law_brought"] (sp__law_sums_good A) := by
 refine T.F__law_sums_good.ok sc__law_sums_good (fun vs H Q E h => ?_) (fun cdv A' outer s0 H vs Q E hr h => ?_)
 ·obtain ⟨b, k, rfl, _⟩ := h; rfl
 ·obtain ⟨b, kb, rfl, hB, hc, k⟩ := h
  refine ⟨_, (pss_cons (ps_set (i := 3) sc__law_sums_good.nd rfl (Or.inl rfl) (pe_disp (pps_cons pe_str pe_int (pps_cons pe_str pe_int (pps_cons pe_str pe_int (pps_cons pe_str pe_int pps_nil)))) rfl rfl (List.cons_ne_nil _ _) (Nat.le_of_ble_eq_true rfl)))
   (pss_cons (ps_dput (hu_of hr) (pv 3) pe_str (pv 1) rfl)
   (pss_cons (ps_dput (hu_of hr) (pv 3) pe_str (pv 2) rfl)
   (pss_cons (ps_dput (hu_of hr) (pv 3) pe_str (pe_op op_add (pv 1) (pv 2)) rfl)
   (pss_one (ps_ret (pe_and (pe_cmpR (op_eqM hr) (pe_methD0 (pv 0) (.cons T.cl_Book T.me_Book_sums (ok_Book_sums (K := K) T) (hr.mono (by decide)) (b_Book_sums T) .nil) pass0) (pv 3) (nomark _)) (pe_and (pe_cmpR (op_eqRK (K := K) hr) (pe_methD0 (pv 0) (.cons T.cl_Book T.me_Book_sales (ok_Book_sales (K := K) T) (hr.mono (by decide)) (b_Book_sales T) .nil) pass0) (pe_lst pa_nil) (nomark _)) (pe_one (pe_cmpR (op_eqRK (K := K) hr) (pe_methD0 (pv 0) (.cons T.cl_Book T.me_Book_given (ok_Book_given (K := K) T) (hr.mono (by decide)) (b_Book_given T) .nil) pass0) (pe_lst pa_nil) (nomark _))))))))))), ?_⟩
  simp only [start_eq]
  walk_at "nx"
  unfold tDisp
  intro pd hpd
  simp only [tPairs]
  walk_at "rdi"
  refine ⟨upd_same, due0, rfl, (show (4 : Nat) <= 15 by decide), ?_⟩
  rw [show mergeK [] due0 = due0 from fold_put due0 [] (by show ([Sum.inr "laid", Sum.inr "sold", Sum.inr "given", Sum.inr "proceeds"] : List Key).Nodup; decide +kernel)]
  have s1 : Same H (upd (upd H pd (.dK [])) pd (.dK due0)) := (Same.new hpd).upd hpd
  have h1 : (upd (upd H pd (.dK [])) pd (.dK due0)) pd = some (.dK due0) := upd_same
  generalize upd (upd H pd (.dK [])) pd (.dK due0) = H1 at s1 h1 ⊢
  walk_at "nx"
  have l0 : due0.length = 4 := rfl
  refine ⟨_, DPut.k (k := Sum.inr "paid") h1 (by rw [sizeLine_eq, l0]; decide), ?_⟩
  have l1 := put_len due0 (Sum.inr "paid") (.int kb.paid)
  have s2 : Same H (upd H1 pd (.dK (putK due0 (Sum.inr "paid") (.int kb.paid)))) := s1.upd hpd
  have h2 : (upd H1 pd (.dK (putK due0 (Sum.inr "paid") (.int kb.paid)))) pd = some (.dK (putK due0 (Sum.inr "paid") (.int kb.paid))) := upd_same
  generalize upd H1 pd (.dK (putK due0 (Sum.inr "paid") (.int kb.paid))) = H2 at s2 h2 ⊢
  walk_at "nx"
  refine ⟨_, DPut.k (k := Sum.inr "brought") h2 (by rw [sizeLine_eq]; omega), ?_⟩
  have l2 := put_len (putK due0 (Sum.inr "paid") (.int kb.paid)) (Sum.inr "brought") (.int kb.brought)
  have s3 : Same H (upd H2 pd (.dK (putK (putK due0 (Sum.inr "paid") (.int kb.paid)) (Sum.inr "brought") (.int kb.brought)))) := s2.upd hpd
  have h3 : (upd H2 pd (.dK (putK (putK due0 (Sum.inr "paid") (.int kb.paid)) (Sum.inr "brought") (.int kb.brought)))) pd = some (.dK (putK (putK due0 (Sum.inr "paid") (.int kb.paid)) (Sum.inr "brought") (.int kb.brought))) := upd_same
  generalize upd H2 pd (.dK (putK (putK due0 (Sum.inr "paid") (.int kb.paid)) (Sum.inr "brought") (.int kb.brought))) = H3 at s3 h3 ⊢
  walk_at "nx"
  refine ⟨_, DPut.k (k := Sum.inr "left") h3 (by rw [sizeLine_eq]; omega), ?_⟩
  rw [due_put]
  have s4 : Same H (upd H3 pd (.dK (due0 ++ due3 kb))) := s3.upd hpd
  have h4 : (upd H3 pd (.dK (due0 ++ due3 kb))) pd = some (.dK (due0 ++ due3 kb)) := upd_same
  generalize upd H3 pd (.dK (due0 ++ due3 kb)) = H4 at s4 h4 ⊢
  have hB4 := hB.same s4
  obtain ⟨db, hb⟩ := hB4.b
  refine ⟨_, db, _, hb, _, List.mem_cons_self, by rfl, b, kb, rfl, hB4, fun p H5 s5 hp h5 => ?_⟩
  show rEqM (.ref p) (.ref pd) H5 _
  rw [ap_eqM]
  refine ⟨_, _, .inl h5, .inl (s5 _ _ h4), sums_alike hc, true, rfl, ?_⟩
  rw [if_pos rfl]
  refine ⟨_, db, _, s5 _ _ hb, _, List.mem_cons_self, by rfl, b, kb, rfl, hB4.same s5, fun l H6 s6 hl h6 => ⟨by rw [sizeLine_eq]; decide, fun q hq => ?_⟩⟩
  have s7 := Same.new (o := .lst []) hq
  refine ⟨l, q, [], [], rfl, rfl, SqL.of (s7 _ _ h6), SqL.of upd_same, .inr ⟨rfl, fun v h => (List.not_mem_nil h).elim, true, rfl, ?_⟩⟩
  rw [if_pos rfl]
  have S := s5.trans (s6.trans s7)
  refine ⟨_, db, _, S _ _ hb, _, List.mem_cons_self, by rfl, b, kb, rfl, hB4.same S, fun l H8 s8 hl h8 => ⟨by rw [sizeLine_eq]; decide, fun q hq => ?_⟩⟩
  have s9 := Same.new (o := .lst []) hq
  exact ⟨l, q, [], [], rfl, rfl, SqL.of (s9 _ _ h8), SqL.of upd_same, .inr ⟨rfl, fun v h => (List.not_mem_nil h).elim, k _ (s4.trans (S.trans (s8.trans s9)))⟩⟩
end
end My
namespace My
open PySem L2 PyProof.Rows
section
variable {P : Program} {w : World} {K : Fg_} {mg : Str -> Option Value} {base : Heap} {A : Adr} {D : Fds}
local macro_rules | `(tactic| walk_at "nx") => `(tactic| ((try dsimp only); rw [ap_seq]; walk_at "rdi"))
def spW (z : Str) : Sp := fun vs H Q _ => ∃ x : Addr, vs = [.ref x] /\ Q (.str z) H
theorem ok_Eldest_word (T : Txt K mg A D) : FnOk P w K mg base CX0 1 A.Eldest_word D.Eldest_word ["self"] (spW "eldest") := by
 refine T.F_Eldest_word.ok sc_Eldest_word (fun vs H Q E h => ?_) (fun cdv A' outer s0 H vs Q E hr h => ?_)
 ·obtain ⟨x, rfl, _⟩ := h; rfl
 ·obtain ⟨x, rfl, k⟩ := h
  refine ⟨_, (pss_one (ps_ret pe_str)), ?_⟩
  walk_at "rda"
  exact k
theorem ok_Newest_word (T : Txt K mg A D) : FnOk P w K mg base CX0 1 A.Newest_word D.Newest_word ["self"] (spW "newest") := by
 refine T.F_Newest_word.ok sc_Newest_word (fun vs H Q E h => ?_) (fun cdv A' outer s0 H vs Q E hr h => ?_)
 ·obtain ⟨x, rfl, _⟩ := h; rfl
 ·obtain ⟨x, rfl, k⟩ := h
  refine ⟨_, (pss_one (ps_ret pe_str)), ?_⟩
  walk_at "rda"
  exact k
theorem ok_Dearest_word (T : Txt K mg A D) : FnOk P w K mg base CX0 1 A.Dearest_word D.Dearest_word ["self"] (spW "dearest") := by
 refine T.F_Dearest_word.ok sc_Dearest_word (fun vs H Q E h => ?_) (fun cdv A' outer s0 H vs Q E hr h => ?_)
 ·obtain ⟨x, rfl, _⟩ := h; rfl
 ·obtain ⟨x, rfl, k⟩ := h
  refine ⟨_, (pss_one (ps_ret pe_str)), ?_⟩
  walk_at "rda"
  exact k
theorem ok_Mean_word (T : Txt K mg A D) : FnOk P w K mg base CX0 1 A.Mean_word D.Mean_word ["self"] (spW "mean") := by
 refine T.F_Mean_word.ok sc_Mean_word (fun vs H Q E h => ?_) (fun cdv A' outer s0 H vs Q E hr h => ?_)
 ·obtain ⟨x, rfl, _⟩ := h; rfl
 ·obtain ⟨x, rfl, k⟩ := h
  refine ⟨_, (pss_one (ps_ret pe_str)), ?_⟩
  walk_at "rda"
  exact k
inductive WayC (A : Adr) : Str -> Addr -> Prop
 | e : WayC A "eldest" A.C_Eldest
 | n : WayC A "newest" A.C_Newest
 | d : WayC A "dearest" A.C_Dearest
 | m : WayC A "mean" A.C_Mean
theorem WayC.is {z : Str} {C : Addr} (h : WayC A z C) {z' : Str} {C' : Addr} (h' : WayC A z' C') (e : z' = z) : C' = C := by
 cases h <;> cases h' <;> first | rfl | exact absurd e (by decide +kernel)
theorem ne_next {l : List Str} {i : Nat} {z x : Str} (hx : l[i]? = some x) (hn : ∀ u ∈ l.take i, u ≠ z) (h : x ≠ z) : ∀ u ∈ l.take (i + 1), u ≠ z := by
 rw [List.take_add_one, hx]
 intro u hu
 rcases List.mem_append.mp hu with hu | hu
 ·exact hn u hu
 ·obtain rfl := List.mem_singleton.mp hu
  exact h
def sp_way_by (A : Adr) : Sp := fun vs H Q _ => ∃ (z : Str) (C : Addr), vs = [.str z] /\ WayC A z C /\ ∀ x dx H', Same H H' -> H x = Option.none -> H' x = some (.ins C dx []) -> Q (.ref x) H'
theorem ok_way_by (T : Txt K mg A D) : FnOk P w K mg base CX0 2 A.way_by D.way_by ["word"] (sp_way_by A) := by
 refine T.F_way_by.ok sc_way_by (fun vs H Q E h => ?_) (fun cdv A' outer s0 H vs Q E hr h => ?_)
 ·obtain ⟨z, C, rfl, _⟩ := h; rfl
 ·obtain ⟨z, C, rfl, hC, k⟩ := h
  refine ⟨_, (pss_cons (ps_for PassesOwn.never rfl (pi_listK (K := K) (pe_lst (pa_cons (pe_new0 T.mk0_Eldest (by rfl) T.m_Eldest) (pa_cons (pe_new0 T.mk0_Newest (by rfl) T.m_Newest) (pa_cons (pe_new0 T.mk0_Dearest (by rfl) T.m_Dearest) (pa_cons (pe_new0 T.mk0_Mean (by rfl) T.m_Mean) pa_nil)))))) (pg_name (i := 1) sc_way_by.nd rfl (Or.inl rfl))
    (pss_one (ps_if (pt_cmpR (op_eq) (pe_methD0 (pv 1) (.cons T.cl_Eldest T.me_Eldest_word (ok_Eldest_word (K := K) T) (hr.mono (by decide)) (b_Eldest_word T) (.cons T.cl_Newest T.me_Newest_word (ok_Newest_word (K := K) T) (hr.mono (by decide)) (b_Newest_word T) (.cons T.cl_Dearest T.me_Dearest_word (ok_Dearest_word (K := K) T) (hr.mono (by decide)) (b_Dearest_word T) (.cons T.cl_Mean T.me_Mean_word (ok_Mean_word (K := K) T) (hr.mono (by decide)) (b_Mean_word T) .nil)))) pass0) (pv 0) (nomark _)) (pss_one (ps_ret (pv 1))) pss_nil)))
   (pss_one (ps_never))), ?_⟩
  simp only [start_eq]
  rw [ap_seq, ap_for]
  walk_at "rdi"
  intro x0 d0 hx0 hd0 n0 x1 d1 hx1 hd1 n1 x2 d2 hx2 hd2 n2 x3 d3 hx3 hd3 n3
  refine ⟨by rw [sizeLine_eq]; decide, fun p hp => ⟨⟨_, SqL.of upd_same⟩, ?_⟩⟩
  have a0 := new_mk (C := A.C_Eldest) hx0 hd0
  have a1 := new_mk (C := A.C_Newest) hx1 hd1
  have a2 := new_mk (C := A.C_Dearest) hx2 hd2
  have a3 := new_mk (C := A.C_Mean) hx3 hd3
  have ap := Same.new (o := .lst [V.ref x0, V.ref x1, V.ref x2, V.ref x3]) hp
  have t3 := a3.s.trans ap
  have t2 := a2.s.trans t3
  have t1 := a1.s.trans t2
  have S := a0.s.trans t1
  have f0 := t1 _ _ a0.h
  have f1 := t2 _ _ a1.h
  have f2 := t3 _ _ a2.h
  have f3 := ap _ _ a3.h
  have e1 := a0.s.free hx1
  have e2 := (a0.s.trans a1.s).free hx2
  have e3 := (a0.s.trans (a1.s.trans a2.s)).free hx3
  have hl : (upd (upd (upd (upd (upd (upd (upd (upd (upd H d0 (HO.own x0)) x0 (HO.ins A.C_Eldest d0 [])) d1 (HO.own x1)) x1 (HO.ins A.C_Newest d1 [])) d2 (HO.own x2)) x2 (HO.ins A.C_Dearest d2 [])) d3 (HO.own x3)) x3 (HO.ins A.C_Mean d3 [])) p (HO.lst [V.ref x0, V.ref x1, V.ref x2, V.ref x3])) p = some (.lst [V.ref x0, V.ref x1, V.ref x2, V.ref x3]) := upd_same
  clear a0 a1 a2 a3 ap t1 t2 t3
  generalize upd _ p (HO.lst [V.ref x0, V.ref x1, V.ref x2, V.ref x3]) = Hf at S f0 f1 f2 f3 hl
  refine ForP.list (K := K) (a := p) (xs := [V.ref x0, V.ref x1, V.ref x2, V.ref x3]) (fun i σ H' => (∃ v, σ = [some (.str z), v]) /\ H' = Hf /\ ∀ u ∈ (["eldest", "newest", "dearest", "mean"] : List Str).take i, u ≠ z)
   ⟨⟨_, rfl⟩, rfl, fun u h => (List.not_mem_nil h).elim⟩ (fun i σ H' _ ⟨_, e, _⟩ => e ▸ SqL.of hl) ?_ ?_
  ·rintro i y σ H' hy ⟨⟨v, rfl⟩, rfl, hn⟩
   rcases i with _ | _ | _ | _ | i
   ·cases hy
    walk_at "rdi"
    refine ⟨_, d0, _, f0, _, List.mem_cons_self, by rfl, x0, rfl, rfl, ?_⟩
    by_cases hz : Str.ofString "eldest" = z
    ·rw [if_pos (by rw [hz])]
     exact k x0 d0 _ S hx0 (hC.is (WayC.e (A := A)) hz ▸ f0)
    ·rw [if_neg (by simpa using hz)]
     exact ⟨rfl, ne_next (i := 0) rfl hn hz⟩
   ·cases hy
    walk_at "rdi"
    refine ⟨_, d1, _, f1, _, (List.mem_cons_of_mem _ List.mem_cons_self), by rfl, x1, rfl, rfl, ?_⟩
    by_cases hz : Str.ofString "newest" = z
    ·rw [if_pos (by rw [hz])]
     exact k x1 d1 _ S e1 (hC.is (WayC.n (A := A)) hz ▸ f1)
    ·rw [if_neg (by simpa using hz)]
     exact ⟨rfl, ne_next (i := 1) rfl hn hz⟩
   ·cases hy
    walk_at "rdi"
    refine ⟨_, d2, _, f2, _, (List.mem_cons_of_mem _ (List.mem_cons_of_mem _ List.mem_cons_self)), by rfl, x2, rfl, rfl, ?_⟩
    by_cases hz : Str.ofString "dearest" = z
    ·rw [if_pos (by rw [hz])]
     exact k x2 d2 _ S e2 (hC.is (WayC.d (A := A)) hz ▸ f2)
    ·rw [if_neg (by simpa using hz)]
     exact ⟨rfl, ne_next (i := 2) rfl hn hz⟩
   ·cases hy
    walk_at "rdi"
    refine ⟨_, d3, _, f3, _, (List.mem_cons_of_mem _ (List.mem_cons_of_mem _ (List.mem_cons_of_mem _ List.mem_cons_self))), by rfl, x3, rfl, rfl, ?_⟩
    by_cases hz : Str.ofString "mean" = z
    ·rw [if_pos (by rw [hz])]
     exact k x3 d3 _ S e3 (hC.is (WayC.m (A := A)) hz ▸ f3)
    ·rw [if_neg (by simpa using hz)]
     exact ⟨rfl, ne_next (i := 3) rfl hn hz⟩
   ·cases hy
  ·rintro σ H' ⟨⟨v, rfl⟩, rfl, hn⟩
   have hn : ∀ u ∈ (["eldest", "newest", "dearest", "mean"] : List Str), u ≠ z := hn
   cases hC with
   | e => exact (hn _ List.mem_cons_self rfl).elim
   | n => exact (hn _ (List.mem_cons_of_mem _ List.mem_cons_self) rfl).elim
   | d => exact (hn _ (List.mem_cons_of_mem _ (List.mem_cons_of_mem _ List.mem_cons_self)) rfl).elim
   | m => exact (hn _ (List.mem_cons_of_mem _ (List.mem_cons_of_mem _ (List.mem_cons_of_mem _ List.mem_cons_self))) rfl).elim
end
end My
namespace My
open PySem L2 PyProof.Rows
section
variable {P : Program} {w : World} {K : Fg_} {mg : Str -> Option Value} {base : Heap} {A : Adr} {D : Fds}
def Kin (o : HO) : Prop := (∃ C dx fs, o = .ins C dx fs) \/ (∃ xs, o = .lst xs) \/ ∃ xs, o = .tup xs
theorem kin_i {C dx : Addr} {fs : List (Str × V)} : Kin (.ins C dx fs) := .inl ⟨_, _, _, rfl⟩
theorem kin_l {xs : List V} : Kin (.lst xs) := .inr (.inl ⟨_, rfl⟩)
theorem kin_t {xs : List V} : Kin (.tup xs) := .inr (.inr ⟨_, rfl⟩)
theorem LotAt.fr {H H' : Hp} {ls : RL} (h : LotAt A H ls) (s : ∀ a o, Kin o -> H a = some o -> H' a = some o) : LotAt A H' ls := fun l hl => let ⟨dx, e⟩ := h l hl; ⟨dx, s _ _ kin_i e⟩
theorem BookAt.fr {H H' : Hp} {b : Addr} {k : BookD} (h : BookAt A H b k) (s : ∀ a o, Kin o -> H a = some o -> H' a = some o) (hr : H' k.rows = some (.dK (kvR k.rs))) : BookAt A H' b k :=
 ⟨let ⟨dx, e⟩ := h.b; ⟨dx, s _ _ kin_i e⟩, hr, fun t ht => ⟨s _ _ kin_l (h.l t ht).1, (h.l t ht).2.fr s⟩, fun t ht => s _ _ kin_t (h.p t ht), s _ _ kin_l h.s, s _ _ kin_l h.g, h.o⟩
theorem RowAt.fr {H H' : Hp} {ls : RL} (h : RowAt H ls) (s : ∀ a o, Kin o -> H a = some o -> H' a = some o) : RowAt H' ls := fun l hl => s _ _ kin_t (h l hl)
theorem TRows.fr {H H' : Hp} {rs : RW} (h : TRows H rs) (s : ∀ a o, Kin o -> H a = some o -> H' a = some o) : TRows H' rs := fun t ht => ⟨s _ _ kin_l (h t ht).1, (h t ht).2.fr s⟩
theorem TAt.fr {H H' : Hp} {ts : TL} (h : TAt H ts) (s : ∀ a o, Kin o -> H a = some o -> H' a = some o) : TAt H' ts := fun t ht => s _ _ kin_t (h t ht)
theorem fr_X {H H' : Hp} {Pt : Addr} {ps : Array Value} (s : SameX Pt H H') (hP : H Pt = some (.tbl ps)) : ∀ a o, Kin o -> H a = some o -> H' a = some o := fun a o k h => by
 refine s a o (fun e => ?_) h
 rw [e, hP] at h
 cases h
 rcases k with ⟨_, _, _, k⟩ | ⟨_, k⟩ | ⟨_, k⟩ <;> cases k
theorem fr_d {H : Hp} {r : Addr} {kv : List (Key × V)} {u : HO} (hr : H r = some (.dK kv)) : ∀ a o, Kin o -> H a = some o -> (upd H r u) a = some o := fun a o k h => by
 refine (upd_ne (fun e => ?_)).trans h
 rw [e, hr] at h
 cases h
 rcases k with ⟨_, _, _, k⟩ | ⟨_, k⟩ | ⟨_, k⟩ <;> cases k
theorem dat_put {rs rl : RW} {z : Str} {q p : Addr} {ls ms : RL} (h : datR rs = datR rl) (e : ls.map (·.2) = ms.map (·.2)) : datR (putR rs z q ls) = datR (putR rl z p ms) := by
 have ea : rs.any (fun t => decide (t.1 = z)) = rl.any fun t => decide (t.1 = z) := by
  have h2 := names_dat h
  have : ∀ xs : RW, xs.any (fun t => decide (t.1 = z)) = (xs.map (·.1)).any fun y => decide (y = z) := fun xs => by rw [List.any_map]; rfl
  rw [this, this, h2]
 unfold putR
 rw [ea]
 by_cases c : rl.any (fun t => decide (t.1 = z)) = true
 ·rw [if_pos c, if_pos c]
  clear ea c
  induction rs generalizing rl with
  | nil => cases rl with
   | nil => rfl
   | cons _ _ => cases h
  | cons t rs ih => cases rl with
   | nil => cases h
   | cons u rl =>
    have h : (t.1, t.2.2.map (·.2)) :: datR rs = (u.1, u.2.2.map (·.2)) :: datR rl := h
    obtain ⟨h1, h2⟩ := List.cons.inj h
    obtain ⟨h3, h4⟩ := Prod.mk.inj h1
    have := ih h2
    unfold datR at this ⊢
    rw [List.map_cons, List.map_cons, List.map_cons, List.map_cons, this, h3]
    split
    ·rw [e]
    ·rw [h4, h3]
 ·rw [if_neg c, if_neg c]
  unfold datR at h ⊢
  rw [List.map_append, List.map_append, h]
  show _ ++ [(z, ls.map (·.2))] = _ ++ [(z, ms.map (·.2))]
  rw [e]
theorem bef_irr {a b : LotD} (h : Bef a b) (h' : Bef b a) : False := by unfold Bef at *; omega
theorem row_eq {ds es xs : List LotD} {d : LotD} (h1 : ds.Perm (xs ++ [d])) (h2 : ds.Pairwise Bef) (h3 : es.Perm (xs ++ [d])) (h4 : es.Pairwise Bef) : ds = es :=
 List.Perm.eq_of_pairwise (le := Bef) (fun a b _ _ p q => (bef_irr p q).elim) h2 h4 (h1.trans h3.symm)
theorem lexB_bef {d e : LotD} (h : lexB [d.s, d.n] [e.s, e.n] false = true) : Bef d e := key_bef h
end
end My
namespace My
open PySem L2 PyProof.Rows
section
variable {P : Program} {w : World} {K : Fg_} {mg : Str -> Option Value} {base : Heap} {A : Adr} {D : Fds}
local macro_rules | `(tactic| walk_at "nx") => `(tactic| ((try dsimp only); rw [ap_seq]; walk_at "rdi"))
theorem cutV_ints (xs : List Int) (lo hi : Option Int) : ∃ ys : List Int, cutV (xs.map V.int) lo hi = ys.map V.int /\ ys.length <= xs.length := by
 unfold cutV
 rw [<- List.map_drop, <- List.map_take]
 refine ⟨_, rfl, ?_⟩
 rw [List.length_take, List.length_drop]
 omega
def qL : Str := (Str.ofString "law" ++ Str.ofString ".<locals>.") ++ Str.ofString "<lambda>"
def E2.wrd : E2 -> Str
 | .buy .. => Str.ofString "buy"
 | .gift .. => Str.ofString "gift"
theorem mem_wrd (A : Adr) (e : E2) : (e.cls A, spWrd e.wrd) ∈ [(A.C_Buy, spWrd (Str.ofString "buy")), (A.C_Gift, spWrd (Str.ofString "gift"))] := by
 cases e with
 | buy => exact List.mem_cons_self
 | gift => exact List.mem_cons_of_mem _ List.mem_cons_self
structure LawI (A : Adr) (ws : List Str) (ts : TL) (b r wp pd rw : Addr) (i : Nat) (H : Hp) (kb : BookD) (rl : RW) : Prop where
 B : BookAt A H b kb
 e : kb.rows = rw
 ne : r ≠ rw
 R : H r = some (.dK (kvR rl))
 T : TRows H rl
 W : H wp = some (.lst (ws.map V.str))
 P : H pd = some (.lst (refsT ts))
 S : TAt H ts
 d : datR kb.rs = datR rl
 n : ∀ z ∈ rl.map (·.1), z ∈ ws
 m : ∀ z, ∀ l ∈ rowOf rl z, l.2.n ∈ (ts.take i).map (·.2.2.1)
 u : ∀ z, ((rowOf rl z).map (·.2.n)).Nodup
 q : ∀ z, (rowOf rl z).length <= i
 l : ∀ t, kb.last = some t -> ∃ s ∈ ts.take i, s.2.1 = t.2.1 /\ s.2.2.1 = t.2.2
 c : cstR kb.rs = kb.paid + kb.brought
theorem LawI.same {ws : List Str} {ts : TL} {b r wp pd rw : Addr} {i : Nat} {H H' : Hp} {kb : BookD} {rl : RW} (h : LawI A ws ts b r wp pd rw i H kb rl) (s : Same H H') : LawI A ws ts b r wp pd rw i H' kb rl :=
 ⟨h.B.same s, h.e, h.ne, s _ _ h.R, h.T.same s, s _ _ h.W, s _ _ h.P, h.S.same s, h.d, h.n, h.m, h.u, h.q, h.l, h.c⟩
def lets : List Str := [Str.ofString "a", Str.ofString "b", Str.ofString "c", Str.ofString "d"]
theorem perm_sum {l m : List Int} (h : l.Perm m) : l.sum = m.sum := by
 induction h with
 | nil => rfl
 | cons x _ ih => rw [List.sum_cons, List.sum_cons, ih]
 | swap x y l => rw [List.sum_cons, List.sum_cons, List.sum_cons, List.sum_cons]; omega
 | trans _ _ h1 h2 => exact h1.trans h2
theorem lets_some {ws : List Str} (h : ws.length = 3) : ∃ d r, (lets.map V.str).filter (fun v => !inV v (ws.map V.str)) = V.str d :: r /\ d ∉ ws := by
 cases e : (lets.map V.str).filter (fun v => !inV v (ws.map V.str)) with
 | nil =>
  have hall : ∀ x ∈ lets, x ∈ ws := fun x hx => by
   have h1 := List.filter_eq_nil_iff.mp e (V.str x) (List.mem_map.mpr ⟨x, hx, rfl⟩)
   rw [inV_strs] at h1
   simpa using h1
  have h2 := nodup_leS (show lets.Nodup by decide +kernel) hall
  rw [h] at h2
  exact absurd h2 (by decide)
 | cons v r =>
  have hv : v ∈ (lets.map V.str).filter (fun v => !inV v (ws.map V.str)) := by rw [e]; exact List.mem_cons_self
  obtain ⟨h1, h2⟩ := List.mem_filter.mp hv
  obtain ⟨d, _, rfl⟩ := List.mem_map.mp h1
  rw [inV_strs] at h2
  exact ⟨d, r, rfl, by simpa using h2⟩
def sp_law (K : Fg_) (Pt : Addr) : Sp := fun vs H Q _ => ∃ (a : Addr) (ns : List Int), vs = [.ref a] /\ SqL K H a (ns.map V.int) /\ ns.length <= 63 /\ H Pt = some (.tbl #[]) /\ ∀ H', Q (.bl true) H'
theorem ok_law (T : Txt K mg A D) (hB : base.BuiltinsAt mg A.PT) : FnOk P w K mg base CX0 9 A.law D.law ["_law_script"] (sp_law K A.PT) := by
 refine T.F_law.okC sc_law (fun vs H Q E h => ?_) (fun A' outer s0 H vs Q E hr h => ?_)
 ·obtain ⟨a, ns, rfl, _⟩ := h; rfl
 ·obtain ⟨a, ns, rfl, hS, hl, hPt, k⟩ := h
  refine ⟨_, (pss_cons (ps_set (i := 1) sc_law.nd rfl (Or.inl rfl) (pe_ix (ix_listK (K := K)) (pe_lst (pa_cons pe_str (pa_cons pe_str (pa_cons pe_str (pa_cons pe_str pa_nil))))) (pe_op op_mod (pe_op op_fdivB (pe_call (ok__law_cell_at (K := K) T) (hr.mono (by decide)) (by rfl) T.m__law_cell_at T.k__law_cell_at (b__law_cell_at T) .nil pass0 (pa_cons (pv 0) (pa_cons pe_int pa_nil))) pe_int) pe_int) (fun _ _ => rfl)))
   (pss_cons (ps_set (i := 2) sc_law.nd rfl (Or.inl rfl) (pe_call (ok__law_chunks (K := K) T) (hr.mono (by decide)) (by rfl) T.m__law_chunks T.k__law_chunks (b__law_chunks T) .nil pass0 (pa_cons (pv 0) (pa_cons pe_int pa_nil))))
   (pss_cons (ps_set (i := 3) sc_law.nd rfl (Or.inr rfl) (pe_call (ok__law_wares (K := K) T) (hr.mono (by decide)) (by rfl) T.m__law_wares T.k__law_wares (b__law_wares T) .nil pass0 (pa_cons (pe_op op_fdivB (pe_ix (ix_listK (K := K)) (pv 2) pe_int (fun _ _ => rfl)) pe_int) pa_nil)))
   (pss_cons (ps_set (i := 4) sc_law.nd rfl (Or.inl rfl) (pe_make T.mk_Book (ok_Book___init__ (K := K) T) (hr.mono (by decide)) (by rfl) T.m_Book (b_Book___init__ T) .nil pass0 (pa_cons (pe_call (ok_way_by (K := K) T) (hr.mono (by decide)) (by rfl) T.m_way_by T.k_way_by (b_way_by T) .nil pass0 (pa_cons (pv 1) pa_nil)) pa_nil)))
   (pss_cons (ps_set (i := 5) sc_law.nd rfl (Or.inl rfl) pe_dnewK)
   (pss_cons (ps_set (i := 6) sc_law.nd rfl (Or.inl rfl) pe_int)
   (pss_cons (ps_set (i := 7) sc_law.nd rfl (Or.inl rfl) pe_int)
   (pss_cons (ps_for PassesOwn.never rfl (pi_listK (K := K) (pe_call (ok__law_days (K := K) T) (hr.mono (by decide)) (by rfl) T.m__law_days T.k__law_days (b__law_days T) .nil pass0 (pa_cons (pe_slice (sl_listK (K := K)) (pv 2) (po_some pe_int) (po_some (pe_op op_add pe_int (pe_op op_mod (pe_ix (ix_listK (K := K)) (pv 2) pe_int (fun _ _ => rfl)) pe_int)))) pa_nil))) (pg_name (i := 8) sc_law.nd rfl (Or.inl rfl))
    (pss_cons (ps_set (i := 9) sc_law.nd rfl (Or.inl rfl) (pe_ix (ix_listK (K := K)) (pv 3) (pe_op op_mod (pe_ix (ix_tupK (K := K)) (pv 8) pe_int (fun _ _ => rfl)) pe_int) (fun _ _ => rfl)))
    (pss_cons (ps_asg (pe_call (ok__law_entry (K := K) T) (hr.mono (by decide)) (by rfl) T.m__law_entry T.k__law_entry (b__law_entry T) .nil pass0 (pa_cons (pv 9) (pa_cons (pe_tup (pa_cons (pe_ix (ix_tupK (K := K)) (pv 8) pe_int (fun _ _ => rfl)) (pa_cons (pe_ix (ix_tupK (K := K)) (pv 8) pe_int (fun _ _ => rfl)) (pa_cons (pe_op op_fdivB (pe_ix (ix_tupK (K := K)) (pv 8) pe_int (fun _ _ => rfl)) pe_int) pa_nil)))) pa_nil))) (pg_tupK (K := K) (n := 2) rfl (pgs_cons (pg_name (i := 10) sc_law.nd rfl (Or.inl rfl)) (pgs_cons (pg_name (i := 11) sc_law.nd rfl (Or.inl rfl)) pgs_nil))))
    (pss_cons (ps_set (i := 12) sc_law.nd rfl (Or.inl rfl) (pe_methD (pv 4) (.cons T.cl_Book T.me_Book_row_of (ok_Book_row_of (K := K) T) (hr.mono (by decide)) (b_Book_row_of T) .nil) pass0 (pa_cons (pv 9) pa_nil)))
    (pss_cons (ps_if (PW.pt (pw_or (pt_cmpR (op_notN) (pe_methD (pv 4) (.cons T.cl_Book T.me_Book_do (ok_Book_do (K := K) T) (hr.mono (by decide)) (b_Book_do T) .nil) pass0 (pa_cons (pv 10) pa_nil)) pe_non (nomark _)) (pw_or1 (pt_not (pt_val (pe_call (ok__law_is_row (K := K) T) (hr.mono (by decide)) (by rfl) T.m__law_is_row T.k__law_is_row (b__law_is_row T) .nil pass0 (pa_cons (pv 12) (pa_cons (pe_dget2 (hu_of hr) (pv 5) (pv 9) (pe_lst pa_nil) ⟨rfl, rfl, rfl, rfl⟩) pa_nil)))))))) (pss_one (ps_ret pe_bl)) pss_nil)
    (pss_cons (ps_set (i := 13) sc_law.nd rfl (Or.inl rfl) (pe_op op_cat (pe_dget2 (hu_of hr) (pv 5) (pv 9) (pe_lst pa_nil) ⟨rfl, rfl, rfl, rfl⟩) (pe_lst (pa_cons (pv 11) pa_nil))))
    (pss_cons (ps_dput (hu_of hr) (pv 5) (pv 9) (pe_sortLam2K (K := K) (by rfl) (pe_sortLam2 (k := 0) (Pt := A.PT) (x := "_law_one") (hr.mono (by decide)) T.lamc T.lamC hB (by rfl) T.b_sorted (by decide +kernel) (pa_cons (pv 13) pa_nil) ⟨rfl, rfl, rfl, by decide +kernel, rfl, by decide +kernel, by decide +kernel⟩ rfl (fun _ _ _ _ _ _ _ hr => (pe_tup (pa_cons (pe_ix (ix_tupK (K := K)) (pv 0) pe_int (fun _ _ => rfl)) (pa_cons (pe_ix (ix_tupK (K := K)) (pv 0) pe_int (fun _ _ => rfl)) pa_nil)))))) rfl)
    (pss_cons (ps_set (i := 6) sc_law.nd rfl (Or.inl rfl) (pe_op op_add (pv 6) (pe_op op_mulU (pe_ix (ix_tupK (K := K)) (pv 11) pe_int (fun _ _ => rfl)) (pe_callTy call_int1 (by rfl) T.b_int (by decide +kernel) (pa_cons (pe_cmpR (op_eq) (pe_methD0 (pv 10) (.cons T.cl_Buy T.me_Buy_word (ok_Buy_word (K := K) T) (hr.mono (by decide)) (b_Buy_word T) (.cons T.cl_Gift T.me_Gift_word (ok_Gift_word (K := K) T) (hr.mono (by decide)) (b_Gift_word T) .nil)) pass0) pe_str (nomark _)) pa_nil)))))
    (pss_cons (ps_set (i := 7) sc_law.nd rfl (Or.inl rfl) (pe_op op_add (pv 7) (pe_op op_mulU (pe_ix (ix_tupK (K := K)) (pv 11) pe_int (fun _ _ => rfl)) (pe_callTy call_int1 (by rfl) T.b_int (by decide +kernel) (pa_cons (pe_cmpR (op_eq) (pe_methD0 (pv 10) (.cons T.cl_Buy T.me_Buy_word (ok_Buy_word (K := K) T) (hr.mono (by decide)) (b_Buy_word T) (.cons T.cl_Gift T.me_Gift_word (ok_Gift_word (K := K) T) (hr.mono (by decide)) (b_Gift_word T) .nil)) pass0) pe_str (nomark _)) pa_nil)))))
    (pss_one (ps_if (pt_not (pt_val (pe_call (ok__law_rows_good (K := K) T) (hr.mono (by decide)) (by rfl) T.m__law_rows_good T.k__law_rows_good (b__law_rows_good T) .nil pass0 (pa_cons (pv 4) (pa_cons (pv 5) (pa_cons (pv 3) pa_nil)))))) (pss_one (ps_ret pe_bl)) pss_nil)))))))))))
   (pss_cons (ps_set (i := 14) sc_law.nd rfl (Or.inl rfl) (pe_ix (ix_listK (K := K)) (pe_comp (cap := [Option.none, some 3]) (N' := ["_law_ware", "_law_wares_here"]) rfl (by walk_at "compok") (pi_listK (K := K) (pe_lst (pa_cons pe_str (pa_cons pe_str (pa_cons pe_str (pa_cons pe_str pa_nil)))))) (fun _ _ _ _ => (pg_name (i := 0) (show (["_law_ware", "_law_wares_here"] : List Str).Nodup from by decide +kernel) rfl (Or.inl rfl) (Or.inr rfl))) (fun _ _ _ _ => (pts_one (pt_cmpR (op_notInK (K := K)) (pv 0) (pv 1) (by with_unfolding_all rfl)))) (fun _ _ _ _ => (pv 0))) pe_int (fun _ _ => rfl)))
   (pss_cons (ps_if (pt_cmpR (op_neRK (K := K) hr) (pe_methD (pv 4) (.cons T.cl_Book T.me_Book_row_of (ok_Book_row_of (K := K) T) (hr.mono (by decide)) (b_Book_row_of T) .nil) pass0 (pa_cons (pv 14) pa_nil)) (pe_lst pa_nil) (nomark _)) (pss_one (ps_ret pe_bl)) pss_nil)
   (pss_one (ps_ret (pe_call (ok__law_sums_good (K := K) T) (hr.mono (by decide)) (by rfl) T.m__law_sums_good T.k__law_sums_good (b__law_sums_good T) .nil pass0 (pa_cons (pv 4) (pa_cons (pv 6) (pa_cons (pv 7) pa_nil)))))))))))))))), ?_⟩
  simp only [start_eq]
  walk_at "nx"
  refine ⟨by rw [sizeLine_eq]; decide, fun p1 hp1 => ?_⟩
  have s1 := Same.new (o := HO.lst [V.str (Str.ofString "eldest"), V.str (Str.ofString "newest"), V.str (Str.ofString "dearest"), V.str (Str.ofString "mean")]) hp1
  have h1 : (upd H p1 (HO.lst [V.str (Str.ofString "eldest"), V.str (Str.ofString "newest"), V.str (Str.ofString "dearest"), V.str (Str.ofString "mean")])) p1 = some (.lst [V.str (Str.ofString "eldest"), V.str (Str.ofString "newest"), V.str (Str.ofString "dearest"), V.str (Str.ofString "mean")]) := upd_same
  generalize upd H p1 _ = H1 at s1 h1 ⊢
  refine ⟨a, ns, 0, rfl, s1.seq hS, _, rfl, ⟨by decide, by decide⟩, by decide, _, SqL.of h1, ?_⟩
  have hw0 := Int.emod_nonneg (ns.getD 0 0 / 2) (show (4 : Int) ≠ 0 by decide)
  have hw1 := Int.emod_lt_of_pos (ns.getD 0 0 / 2) (show (0 : Int) < 4 by decide)
  generalize ns.getD 0 0 / 2 % 4 = wi at hw0 hw1
  obtain ⟨z, C, hz, hC⟩ : ∃ z C, atI [V.str (Str.ofString "eldest"), V.str (Str.ofString "newest"), V.str (Str.ofString "dearest"), V.str (Str.ofString "mean")] wi = some (.str z) /\ WayC A z C := by
   rcases (show wi = 0 \/ wi = 1 \/ wi = 2 \/ wi = 3 by omega) with e | e | e | e <;> subst e
   ·exact ⟨_, _, rfl, .e⟩
   ·exact ⟨_, _, rfl, .n⟩
   ·exact ⟨_, _, rfl, .d⟩
   ·exact ⟨_, _, rfl, .m⟩
  refine ⟨_, hz, ?_⟩
  walk_at "nx"
  refine ⟨a, ns, rfl, s1.seq hS, hl, fun c xs H2 s2 hcn hc hxl => ?_⟩
  walk_at "nx"
  obtain ⟨hd, tl, rfl⟩ : ∃ hd tl, xs = hd :: tl := by
   cases xs with
   | nil => simp at hxl
   | cons x y => exact ⟨x, y, rfl⟩
  refine ⟨_, SqL.of hc, .int hd, atI_nat (j := 0) rfl, _, rfl, ⟨by decide, by decide⟩, _, rfl, fun wp ws H3 s3 hwpn hwl hwn hwu hw => ?_⟩
  walk_at "nx"
  refine ⟨z, C, rfl, hC, fun w dw H4 s4 hwn4 hw4 => ?_⟩
  intro b db hb hdb _
  refine ⟨b, w, H4, db, rfl, new_mk hb hdb, fun H5 kb s5 hB5 hrn ers ela epa ebr => ⟨rfl, ?_⟩⟩
  walk_at "nx"
  intro r hr
  have s6 := Same.new (o := .dK []) hr
  have hr6 : (upd H5 r (.dK [])) r = some (.dK []) := upd_same
  have hne : r ≠ kb.rows := fun e => by rw [e, hB5.r] at hr; cases hr
  generalize upd H5 r (.dK []) = H6 at s6 hr6 ⊢
  walk_at "nx"
  walk_at "nx"
  try dsimp only
  rw [ap_seq, ap_for]
  walk_at "rdi"
  have S36 := s4.trans (s5.trans s6)
  have hc6 := S36 _ _ (s3 _ _ hc)
  refine ⟨_, SqL.of hc6, .int hd, atI_nat (j := 0) rfl, _, rfl, by decide, _, SqL.of hc6, fun c2 hc2 => ?_⟩
  obtain ⟨ys, ey, hyl⟩ := cutV_ints (hd :: tl) (some 1) (some (1 + hd % 25))
  have s7 := Same.new (o := .lst (cutV ((hd :: tl).map V.int) (some 1) (some (1 + hd % 25)))) hc2
  have h7 : (upd H6 c2 (.lst (cutV ((hd :: tl).map V.int) (some 1) (some (1 + hd % 25))))) c2 = some (.lst (ys.map V.int)) := by rw [upd_same, ey]
  generalize upd H6 c2 (.lst (cutV ((hd :: tl).map V.int) (some 1) (some (1 + hd % 25)))) = H7 at s7 h7 ⊢
  refine ⟨c2, ys, rfl, SqL.of h7, by omega, fun pd ts H8 s8 hpdn hpd hTs hgs htl hnu hbf => ⟨pd, rfl, ⟨_, SqL.of hpd⟩, ?_⟩⟩
  have S38 := S36.trans (s7.trans s8)
  have hP8 := s8 _ _ (s7 _ _ (s6 _ _ (s5 _ _ (s4 _ _ (s3 _ _ (s2 _ _ (s1 _ _ hPt)))))))
  have hB8 := hB5.same (s6.trans (s7.trans s8))
  have hr8 := s8 _ _ (s7 _ _ hr6)
  refine ForP.list (K := K) (a := pd) (xs := refsT ts) (fun i σ Hx => ∃ (k2 : BookD) (rl : RW) (v8 v9 v10 v11 v12 v13 v14 : Option V), σ = [some (.ref a), some (.str z), some (.ref c), some (.ref wp), some (.ref b), some (.ref r), some (.int k2.paid), some (.int k2.brought), v8, v9, v10, v11, v12, v13, v14] /\ LawI A ws ts b r wp pd kb.rows i Hx k2 rl /\ LamR Hx A.PT 594 53 qL) ?_ (fun i σ Hx _ ⟨_, _, _, _, _, _, _, _, _, _, I, _⟩ => SqL.of I.P) ?_ ?_
  ·refine ⟨kb, [], _, _, _, _, _, _, _, by rw [epa, ebr], ⟨hB8, rfl, hne, hr8, fun t h => (List.not_mem_nil h).elim, S38 _ _ hw, hpd, hTs, by rw [ers], fun z h => (List.not_mem_nil h).elim, fun z l h => (List.not_mem_nil h).elim, fun z => .nil, fun z => Nat.zero_le _, fun t h => (by rw [ela] at h; cases h), by rw [ers, epa, ebr]; rfl⟩, .inl hP8⟩
  ·rintro i y σ H9 hi ⟨k2, rl, v8, v9, v10, v11, v12, v13, v14, rfl, I, hLR⟩
   obtain ⟨t, hti, rfl⟩ := refsT_get hi
   have htm := List.mem_of_getElem? hti
   have hil : i < ts.length := (List.getElem?_eq_some_iff.mp hti).1
   have ht9 := I.S t htm
   walk_at "rdi"
   walk_at "nx"
   refine ⟨_, SqT.of ht9, .int t.2.2.2, atI_nat (j := 2) rfl, _, rfl, by decide, _, SqL.of I.W, ?_⟩
   have hx0 := Int.emod_nonneg t.2.2.2 (show (3 : Int) ≠ 0 by decide)
   have hx1 := Int.emod_lt_of_pos t.2.2.2 (show (0 : Int) < 3 by decide)
   obtain ⟨wr, hwr, hwm⟩ : ∃ wr, atI (ws.map V.str) (t.2.2.2 % 3) = some (.str wr) /\ wr ∈ ws := by
    obtain ⟨m, hm⟩ : ∃ m : Nat, (m : Int) = t.2.2.2 % 3 := ⟨(t.2.2.2 % 3).toNat, by omega⟩
    have hml : m < ws.length := by omega
    rw [<- hm]
    exact ⟨ws[m], atI_nat (by rw [List.getElem?_map, List.getElem?_eq_getElem hml]; rfl), List.getElem_mem hml⟩
   refine ⟨_, hwr, ?_⟩
   walk_at "nx"
   refine ⟨_, SqT.of ht9, .int t.2.1, atI_nat (j := 0) rfl, _, SqT.of ht9, .int t.2.2.1, atI_nat (j := 1) rfl, _, SqT.of ht9, .int t.2.2.2, atI_nat (j := 2) rfl, _, rfl, ⟨by decide, by decide⟩, by rw [sizeLine_eq]; decide, fun tp htp => ?_⟩
   have s10 := Same.new (o := .tup [V.int t.2.1, V.int t.2.2.1, V.int (t.2.2.2 / 3)]) htp
   have h10 : (upd H9 tp (.tup [V.int t.2.1, V.int t.2.2.1, V.int (t.2.2.2 / 3)])) tp = some (.tup [V.int t.2.1, V.int t.2.2.1, V.int (t.2.2.2 / 3)]) := upd_same
   generalize upd H9 tp (.tup [V.int t.2.1, V.int t.2.2.1, V.int (t.2.2.2 / 3)]) = H10 at s10 h10 ⊢
   refine ⟨wr, tp, t.2.1, t.2.2.1, t.2.2.2 / 3, rfl, SqT.of h10, hwn wr hwm, (hgs t htm).1, (hgs t htm).2, fun tt y l e H11 s11 htt hy hlo hgd ew ed en => ?_⟩
   have S11 := s10.trans s11
   have I11 := I.same S11
   have hLR11 := hLR.same S11
   subst ew
   refine ⟨tt, rfl, _, SqT.of htt, rfl, _, _, rfl, _, _, rfl, rfl, ?_⟩
   walk_at "nx"
   obtain ⟨db, hb11⟩ := I11.B.b
   refine ⟨_, db, _, hb11, _, List.mem_cons_self, by rfl, b, e.ware, k2, rfl, I11.B, fun ah H12 s12 hah hah2 hahL => ?_⟩
   have I12 := I11.same s12
   have hLR12 := hLR11.same s12
   have hy12 := hy.same s12
   have hl12 := s12 _ _ hlo
   have hdz := rowOf_dat I12.d e.ware
   have hnn : e.num ∉ (rowOf k2.rs e.ware).map (·.2.n) := fun hm => by
    obtain ⟨l0, hl0, e0⟩ := List.mem_map.mp hm
    have h2 : l0.2 ∈ (rowOf rl e.ware).map (·.2) := by rw [<- hdz]; exact List.mem_map.mpr ⟨l0, hl0, rfl⟩
    obtain ⟨l1, hl1, e1⟩ := List.mem_map.mp h2
    have h3 := I12.m e.ware l1 hl1
    rw [e1, e0, en] at h3
    obtain ⟨t1, ht1, e2⟩ := List.mem_map.mp h3
    have h4 := hnu
    rw [<- List.take_append_drop i ts, List.map_append] at h4
    refine (List.nodup_append.mp h4).2.2 _ (List.mem_map.mpr ⟨t1, ht1, rfl⟩) t.2.2.1 (List.mem_map.mpr ⟨t, ?_, rfl⟩) e2
    rw [List.drop_eq_getElem_cons hil]
    have : ts[i] = t := by rw [List.getElem?_eq_getElem hil] at hti; exact Option.some.inj hti
    rw [this]
    exact List.mem_cons_self
   have hnames : k2.rs.length <= 3 := by
    have h1 := nodup_leS I12.B.o.u fun x hx => I12.n x (by rw [<- names_dat I12.d]; exact hx)
    rw [List.length_map] at h1
    omega
   have hcan : Can k2 e := by
    refine ⟨hgd, by omega, ?_, ?_, hnn⟩
    ·rw [len_dat hdz]; have := I12.q e.ware; omega
    ·have h1 := I12.u e.ware
     have e1 : ∀ xs : RL, xs.map (·.2.n) = (xs.map (·.2)).map LotD.n := fun xs => by rw [List.map_map]; rfl
     rw [e1, hdz, <- e1]
     exact h1
   have haft : Aft k2 e := fun u hu => by
    obtain ⟨s1, hs1, e1, e2⟩ := I12.l u hu
    have h4 := hbf
    rw [<- List.take_append_drop i ts] at h4
    have h5 := (List.pairwise_append.mp h4).2.2 s1 hs1 t (by
     rw [List.drop_eq_getElem_cons hil]
     have : ts[i] = t := by rw [List.getElem?_eq_getElem hil] at hti; exact Option.some.inj hti
     rw [this]
     exact List.mem_cons_self)
    unfold BfD at h5
    rw [ed, en, <- e1, <- e2]
    exact h5
   obtain ⟨db, hb12⟩ := I12.B.b
   walk_at "nx"
   refine ⟨_, db, _, hb12, _, List.mem_cons_self, by rfl, b, y, k2, e, rfl, I12.B, hy12, hcan, haft, fun q ls t2 H13 o13 hB13 hp13 => ?_⟩
   show (if ¬ V.non = V.non then _ else _)
   rw [if_neg (fun h => h rfl)]
   have keepL : ∀ {x : Addr} {xs : List V}, H12 x = some (.lst xs) -> H13 x = some (.lst xs) := fun h => o13 _ _ (I12.B.neo h fun _ _ _ c => by cases c) (I12.B.ner h fun _ c => by cases c) h
   have keepT : ∀ {x : Addr} {xs : List V}, H12 x = some (.tup xs) -> H13 x = some (.tup xs) := fun h => o13 _ _ (I12.B.neo h fun _ _ _ c => by cases c) (I12.B.ner h fun _ c => by cases c) h
   have hr13 : H13 r = some (.dK (kvR rl)) := o13 _ _ (I12.B.neo I12.R fun _ _ _ c => by cases c) (by rw [I12.e]; exact I12.ne) I12.R
   have hT13 : TRows H13 rl := fun t ht => ⟨keepL (I12.T t ht).1, fun l hl => keepT ((I12.T t ht).2 l hl)⟩
   have hLR13 : LamR H13 A.PT 594 53 qL := by
    rcases hLR12 with h | ⟨c0, h, h'⟩
    ·exact .inl (o13 _ _ (I12.B.neo h fun _ _ _ c => by cases c) (I12.B.ner h fun _ c => by cases c) h)
    ·exact .inr ⟨c0, o13 _ _ (I12.B.neo h fun _ _ _ c => by cases c) (I12.B.ner h fun _ c => by cases c) h, o13 _ _ (I12.B.neo h' fun _ _ _ c => by cases c) (I12.B.ner h' fun _ c => by cases c) h'⟩
   have hahL13 : LotAt A H13 (rowOf k2.rs e.ware) := fun l hl => by
    obtain ⟨dl, h⟩ := hahL l hl
    exact ⟨dl, o13 _ _ (I12.B.nel ⟨dl, h⟩) (I12.B.ner h fun _ c => by cases c) h⟩
   have hy13 : IsE2 A H13 y e := by
    obtain ⟨dy, h⟩ := hy12
    exact ⟨dy, o13 _ _ (I12.B.nee ⟨dy, h⟩) (I12.B.ner h fun _ c => by cases c) h⟩
   have hah13 := keepL hah2
   have hl13 := keepT hl12
   have hW13 := keepL I12.W
   have hP13 := keepL I12.P
   have hS13 : TAt H13 ts := fun t ht => keepT (I12.S t ht)
   refine ⟨.inl ⟨_, .inl hr13⟩, by rw [sizeLine_eq]; decide, fun p14 hp14 => ?_⟩
   have s14 := Same.new (o := .lst []) hp14
   have hp14' : (upd H13 p14 (.lst [])) p14 = some (.lst []) := upd_same
   generalize upd H13 p14 (.lst []) = H14 at s14 hp14' ⊢
   refine ⟨_, .inl ⟨_, Sum.inr e.ware, .inl (s14 _ _ hr13), rfl, rfl⟩, ?_⟩
   obtain ⟨q14, eq14, hq14, hR14⟩ := get_row (z := e.ware) (hT13.same s14) hp14'
   rw [eq14]
   refine ⟨ah, q14, rowOf k2.rs e.ware, rowOf rl e.ware, rfl, s14 _ _ hah13, hq14, hahL13.same s14, hR14, hdz, by rw [len_dat hdz]; have := I12.q e.ware; omega, fun H15 s15 => ⟨true, rfl, ?_⟩⟩
   rw [if_neg (by decide)]
   have S15 := s14.trans s15
   walk_at "nx"
   refine ⟨.inl ⟨_, .inl (S15 _ _ hr13)⟩, by rw [sizeLine_eq]; decide, fun p16 hp16 => ?_⟩
   have s16 := Same.new (o := .lst []) hp16
   have hp16' : (upd H15 p16 (.lst [])) p16 = some (.lst []) := upd_same
   generalize upd H15 p16 (.lst []) = H16 at s16 hp16' ⊢
   have S16 := S15.trans s16
   refine ⟨_, .inl ⟨_, Sum.inr e.ware, .inl (S16 _ _ hr13), rfl, rfl⟩, ?_⟩
   obtain ⟨q16, eq16, hq16, hR16⟩ := get_row (z := e.ware) (hT13.same S16) hp16'
   rw [eq16]
   refine ⟨by rw [sizeLine_eq]; decide, fun p17 hp17 => ?_⟩
   have s17 := Same.new (o := .lst [V.ref l]) hp17
   have h17 : (upd H16 p17 (.lst [V.ref l])) p17 = some (.lst [V.ref l]) := upd_same
   generalize upd H16 p17 (.lst [V.ref l]) = H17 at s17 h17 ⊢
   rw [ap_rCat]
   obtain ⟨os, hos⟩ : ∃ os : RL, os = rowOf rl e.ware ++ [(l, e.lot)] := ⟨_, rfl⟩
   have hosr : refsR (rowOf rl e.ware) ++ [V.ref l] = refsR os := by rw [hos]; unfold refsR; rw [List.map_append]; rfl
   have hosl : os.length <= i + 1 := by rw [hos, List.length_append]; have := I12.q e.ware; simpa using this
   have hi30 : i < 30 := by omega
   refine ⟨_, _, s17 _ _ hq16, h17, by rw [refsR_len, sizeLine_eq]; have := I12.q e.ware; show (rowOf rl e.ware).length + 1 <= _; omega, fun p18 hp18 => ?_⟩
   rw [hosr]
   have s18 := Same.new (o := .lst (refsR os)) hp18
   have h18 : (upd H17 p18 (.lst (refsR os))) p18 = some (.lst (refsR os)) := upd_same
   generalize upd H17 p18 (.lst (refsR os)) = H18 at s18 h18 ⊢
   have S18 := S16.trans (s17.trans s18)
   have hO18 : RowAt H18 os := fun o ho => by
    rw [hos] at ho
    rcases List.mem_append.mp ho with ho | ho
    ·exact s18 _ _ (s17 _ _ (hR16 o ho))
    ·obtain rfl := List.mem_singleton.mp ho
     exact S18 _ _ hl13
   have hon : os.map (·.2.n) = (rowOf rl e.ware).map (·.2.n) ++ [e.num] := by
    rw [hos, List.map_append]
    have : e.lot.n = e.num := by cases e <;> rfl
    rw [<- this]; rfl
   have hnn' : e.num ∉ (rowOf rl e.ware).map (·.2.n) := fun hm => hnn (by
    have e1 : ∀ xs : RL, xs.map (·.2.n) = (xs.map (·.2)).map LotD.n := fun xs => by rw [List.map_map]; rfl
    rw [e1, hdz, <- e1]
    exact hm)
   have hou : (os.map (·.2.n)).Nodup := by
    rw [hon]
    refine List.nodup_append.mpr ⟨I12.u e.ware, by simp, fun y hy z hz => ?_⟩
    obtain rfl := List.mem_singleton.mp hz
    exact fun c => hnn' (c ▸ hy)
   have hLR18 := hLR13.same S18
   obtain ⟨ps18, hP18⟩ := hLR18.at
   walk_at "nx"
   refine ⟨_, SqL.of h18, by rw [refsR_len]; omega, hLR18, kfOf H18, fun y hy => ?_, fun pz zs H19 sX hLR19 hpz hz19 hperm0 hord => ?_⟩
   ·obtain ⟨o, ho, rfl⟩ := List.mem_map.mp hy
    rw [kfOf_at (hO18 o ho)]
    refine ⟨by simp [LotD.key], fun H2 s2 R hR => ?_⟩
    have h2 := fr_X s2 hP18 _ _ kin_t (hO18 o ho)
    exact ⟨_, rfl, _, SqT.of h2, _, rfl, _, rfl, _, SqT.of h2, _, rfl, by rw [sizeLine_eq]; decide, fun t ht => hR t _ (Same.new ht) upd_same⟩
   obtain ⟨os', rfl, hperm⟩ := pull (f := fun r : Addr × LotD => V.ref r.1) hperm0 rfl
   have hord := hord 2 (fun y hy => by
    obtain ⟨r, hr, rfl⟩ := List.mem_map.mp hy
    rw [kfOf_at (hO18 r hr)]
    rfl) (by
    refine List.pairwise_map.mpr (List.pairwise_map.mpr (List.Pairwise.imp_of_mem (fun {a b} ha hb hne z => hne ?_) (List.pairwise_map.mp hou)))
    rw [kfOf_at (hO18 a ha), kfOf_at (hO18 b hb)] at z
    exact (List.cons.inj (List.cons.inj z).2).1)
   have hob : (os'.map (·.2)).Pairwise Bef := by
    refine List.pairwise_map.mpr (List.Pairwise.imp_of_mem (fun {a b} ha hb h => ?_) (List.pairwise_map.mp hord))
    rw [kfOf_at (hO18 a (hperm.mem_iff.mp ha)), kfOf_at (hO18 b (hperm.mem_iff.mp hb))] at h
    exact key_bef h
   have fr19 := fr_X sX hP18
   have hpm : (os'.map (·.2)).Perm ((rowOf rl e.ware).map (·.2) ++ [e.lot]) := by
    have := hperm.map (·.2)
    rw [hos, List.map_append] at this
    exact this
   have els : ls.map (·.2) = os'.map (·.2) := by
    obtain ⟨g1, g2⟩ := hp13
    rw [hdz] at g1
    exact row_eq g1 (g2.imp fun {a b} h => lexB_bef h) hpm hob
   have hB18 := hB13.same S18
   have hr18 := S18 _ _ hr13
   have hPn : ∀ {x : Addr} {kv : List (Key × V)}, H18 x = some (.dK kv) -> x ≠ A.PT := fun h c => by rw [c, hP18] at h; cases h
   have hB19 := hB18.fr fr19 (sX _ _ (hPn hB18.r) hB18.r)
   have hr19 := sX _ _ (hPn hr18) hr18
   have hT19 := (hT13.same S18).fr fr19
   have hO19 : RowAt H19 os' := fun o ho => fr19 _ _ kin_t (hO18 o (hperm.mem_iff.mp ho))
   refine ⟨_, DPut.k (k := Sum.inr e.ware) hr19 ?_, ?_⟩
   ·unfold kvR
    rw [List.length_map, sizeLine_eq]
    have := congrArg List.length (names_dat I12.d)
    rw [List.length_map, List.length_map] at this
    omega
   rw [kvR_put rl e.ware pz os']
   have hrb : b ≠ r := fun c => by
    obtain ⟨dq, hq⟩ := hB19.b
    rw [c, hr19] at hq
    cases hq
   have fr20 := fr_d (u := .dK (kvR (putR rl e.ware pz os'))) hr19
   have hB20 := hB19.fr fr20 ((upd_ne (fun c => I12.ne (by rw [<- c]; exact I12.e))).trans hB19.r)
   have hr20 : (upd H19 r (.dK (kvR (putR rl e.ware pz os')))) r = some (.dK (kvR (putR rl e.ware pz os'))) := upd_same
   have hT20 : TRows (upd H19 r (.dK (kvR (putR rl e.ware pz os')))) (putR rl e.ware pz os') := fun t ht => by
    rcases putR_mem ht with rfl | ht
    ·exact ⟨fr20 _ _ kin_l hz19, hO19.fr fr20⟩
    ·exact ⟨fr20 _ _ kin_l (hT19 t ht).1, (hT19 t ht).2.fr fr20⟩
   have hW20 := fr20 _ _ kin_l (fr19 _ _ kin_l (S18 _ _ hW13))
   have hP20 := fr20 _ _ kin_l (fr19 _ _ kin_l (S18 _ _ hP13))
   have hS20 := ((hS13.same S18).fr fr19).fr fr20
   have hl20 := fr20 _ _ kin_t (fr19 _ _ kin_t (S18 _ _ hl13))
   have hy20 : IsE2 A (upd H19 r (.dK (kvR (putR rl e.ware pz os')))) y e := by
    obtain ⟨dy, h⟩ := hy13
    exact ⟨dy, fr20 _ _ kin_i (fr19 _ _ kin_i (S18 _ _ h))⟩
   have hLR20 : LamR (upd H19 r (.dK (kvR (putR rl e.ware pz os')))) A.PT 594 53 qL := by
    rcases hLR19 with h | ⟨c0, h, h'⟩
    ·exact .inl ((upd_ne (fun c => by rw [c, hr19] at h; cases h)).trans h)
    ·exact .inr ⟨c0, (upd_ne (fun c => by rw [c, hr19] at h; cases h)).trans h, (upd_ne (fun c => by rw [c, hr19] at h'; cases h')).trans h'⟩
   generalize upd H19 r (.dK (kvR (putR rl e.ware pz os'))) = H20 at hB20 hr20 hT20 hW20 hP20 hS20 hl20 hy20 hLR20 ⊢
   walk_at "nx"
   obtain ⟨dy, hy20'⟩ := hy20
   have hlk : e.fs.lookup (Str.ofString "word") = Option.none := by cases e <;> rfl
   refine ⟨_, SqT.of hl20, .int e.lot.c, atI_nat (j := 3) rfl, _, dy, _, hy20', _, mem_wrd A e, hlk, y, rfl, ?_⟩
   refine ⟨rfl, .inr ?_⟩
   have ew1 : (if V.str e.wrd = V.str (Str.ofString "buy") then (1 : Int) else 0) = if e.isBuy = true then 1 else 0 := by
    cases e with
    | buy => rfl
    | gift => exact if_neg (fun c => absurd (show Str.ofString "gift" = Str.ofString "buy" from V.str.inj c) (by decide +kernel))
   have ew2 : (if V.str e.wrd = V.str (Str.ofString "gift") then (1 : Int) else 0) = if e.isBuy = true then 0 else 1 := by
    cases e with
    | buy => exact if_neg (fun c => absurd (show Str.ofString "buy" = Str.ofString "gift" from V.str.inj c) (by decide +kernel))
    | gift => rfl
   have em1 : e.lot.c * (if e.isBuy = true then 1 else 0) = if e.isBuy = true then e.lot.c else 0 := by split <;> omega
   have em2 : e.lot.c * (if e.isBuy = true then 0 else 1) = if e.isBuy = true then 0 else e.lot.c := by split <;> omega
   rw [ew1]
   refine ⟨_, rfl, CMulU.r (by split <;> decide) (by split <;> decide), ?_⟩
   rw [em1]
   walk_at "nx"
   refine ⟨_, SqT.of hl20, .int e.lot.c, atI_nat (j := 3) rfl, _, dy, _, hy20', _, mem_wrd A e, hlk, y, rfl, ?_⟩
   refine ⟨rfl, .inr ?_⟩
   rw [ew2]
   refine ⟨_, rfl, CMulU.r (by split <;> decide) (by split <;> decide), ?_⟩
   rw [em2]
   have hdat := dat_put (z := e.ware) (q := q) (p := pz) I12.d els
   have htk : ts.take (i + 1) = ts.take i ++ [t] := by rw [List.take_add_one, hti]; rfl
   have hnm : ∀ z ∈ (putR rl e.ware pz os').map (·.1), z ∈ ws := fun z hz => by
    rw [putR_names] at hz
    split at hz
    ·exact I12.n z hz
    ·rcases List.mem_append.mp hz with hz | hz
     ·exact I12.n z hz
     ·rw [List.mem_singleton.mp hz]; exact hwm
   have hnos : os'.map (·.2.n) = os'.map (·.2.n) := rfl
   have hmos : ∀ l ∈ os', l.2.n ∈ (ts.take (i + 1)).map (·.2.2.1) := fun l0 hl0 => by
    have h1 : l0.2.n ∈ os.map (·.2.n) := List.mem_map.mpr ⟨l0, hperm.mem_iff.mp hl0, rfl⟩
    rw [hon] at h1
    rw [htk, List.map_append]
    rcases List.mem_append.mp h1 with h1 | h1
    ·obtain ⟨l1, hl1, e1⟩ := List.mem_map.mp h1
     rw [<- e1]
     exact List.mem_append.mpr (.inl (I12.m e.ware l1 hl1))
    ·rw [List.mem_singleton.mp h1, en]
     exact List.mem_append.mpr (.inr (by simp))
   have hcs : cst ls = cst (rowOf k2.rs e.ware) + e.lot.c := by
    have h1 := perm_sum (hp13.1.map LotD.c)
    unfold cst
    rw [h1, List.map_append, List.sum_append]
    simp
   refine ⟨b, r, wp, _, putR rl e.ware pz os', ws, rfl, hB20, hr20, hT20, hW20, hwl, hwu, hdat, hnm, fun H21 s21 => ⟨true, rfl, ?_⟩⟩
   rw [if_neg (by decide)]
   refine ⟨{ k2 with rs := putR k2.rs e.ware q ls, paid := k2.paid + (if e.isBuy = true then e.lot.c else 0), brought := k2.brought + (if e.isBuy = true then 0 else e.lot.c), last := some (t2, e.day, e.num) }, rfl, rfl, putR rl e.ware pz os', LawI.same ⟨hB20, I12.e, I12.ne, hr20, hT20, hW20, hP20, hS20, hdat, hnm, fun z => ?_, fun z => ?_, fun z => ?_, fun u hu => ?_, ?_⟩ s21, hLR20.same s21⟩
   ·rw [rowOf_put]
    split
    ·exact hmos
    ·intro l0 hl0
     rw [htk, List.map_append]
     exact List.mem_append.mpr (.inl (I12.m z l0 hl0))
   ·rw [rowOf_put]
    split
    ·exact (hperm.map (fun r : Addr × LotD => r.2.n)).nodup_iff.mpr hou
    ·exact I12.u z
   ·rw [rowOf_put]
    split
    ·rw [hperm.length_eq]; exact hosl
    ·have := I12.q z; omega
   ·cases hu
    exact ⟨t, by rw [htk]; exact List.mem_append.mpr (.inr (by simp)), ed.symm, en.symm⟩
   ·show cstR (putR k2.rs e.ware q ls) = (k2.paid + if e.isBuy = true then e.lot.c else 0) + (k2.brought + if e.isBuy = true then 0 else e.lot.c)
    rw [cst_put I12.B.o.u, hcs, I12.c]
    split <;> omega
  ·rintro σ H9 ⟨k2, rl, v8, v9, v10, v11, v12, v13, v14, rfl, I, hLR⟩
   try dsimp only
   walk_at "nx"
   refine ⟨by rw [sizeLine_eq]; decide, fun p1 hp1 => ⟨⟨_, SqL.of upd_same⟩, ?_⟩⟩
   have s10 := Same.new (o := .lst (lets.map V.str)) hp1
   have h10 : (upd H9 p1 (.lst (lets.map V.str))) p1 = some (.lst (lets.map V.str)) := upd_same
   change CompP _ _ _ _ _ _ (upd H9 p1 (.lst (lets.map V.str))) _
   generalize upd H9 p1 (.lst (lets.map V.str)) = H10 at s10 h10 ⊢
   have I10 := I.same s10
   refine CompP.list (K := K) (xs := lets.map V.str) (fun σ => ∃ v, σ = [v, some (.ref wp)]) (fun v => !inV v (ws.map V.str)) id (SqL.of h10) ⟨_, rfl⟩ (by rw [List.length_map, sizeLine_eq]; decide) ?_ ?_
   ·rintro x hx σ H11 R1 R2 ⟨_, rfl⟩ s11 k1 k2'
    obtain ⟨d, _, rfl⟩ := List.mem_map.mp hx
    walk_at "rdi"
    refine ⟨_, .inl (SqL.of (s11 _ _ I10.W)), rfl, flat_strs _, ?_⟩
    cases hd0 : inV (V.str d) (ws.map V.str) with
    | false =>
     rw [if_pos rfl]
     exact k1 (by rw [hd0]; rfl) _ _ ⟨_, rfl⟩ (Same.refl _)
    | true =>
     rw [if_neg (by decide)]
     exact k2' (by rw [hd0]; rfl) _ _ ⟨_, rfl⟩ (Same.refl _)
   ·intro D1 H11 hD1 s11 h11
    rw [List.map_id] at h11
    obtain ⟨d, rest, ed, hdn⟩ := lets_some hwl
    rw [ed] at h11
    have I11 := I10.same s11
    refine ⟨D1, rfl, _, SqL.of h11, .str d, atI_nat (j := 0) rfl, ?_⟩
    obtain ⟨db, hb11⟩ := I11.B.b
    walk_at "nx"
    have hem : rowOf k2.rs d = [] := by
     rcases valR k2.rs d with ⟨t, h1, h2, _⟩ | ⟨_, h2, _⟩
     ·exact (hdn (I11.n d (by rw [<- names_dat I11.d]; exact List.mem_map.mpr ⟨t, h1, h2⟩))).elim
     ·exact h2
    refine ⟨_, db, _, hb11, _, List.mem_cons_self, by rfl, b, d, k2, rfl, I11.B, fun l H12 s12 hl12 h12 _ => ⟨by rw [sizeLine_eq]; decide, fun p2 hp2 => ?_⟩⟩
    have s13 := Same.new (o := .lst []) hp2
    have h13 : (upd H12 p2 (.lst [])) p2 = some (.lst []) := upd_same
    generalize upd H12 p2 (.lst []) = H13 at s13 h13 ⊢
    rw [hem] at h12
    refine ⟨l, p2, [], [], rfl, rfl, SqL.of (s13 _ _ h12), SqL.of h13, .inr ⟨rfl, fun v h => (List.not_mem_nil h).elim, ?_⟩⟩
    have I13 := I11.same (s12.trans s13)
    refine ⟨false, rfl, ?_⟩
    rw [if_neg (by decide)]
    exact ⟨b, k2, rfl, I13.B, I13.c, fun H' _ => k H'⟩
end
end My
namespace My
open PySem L2 PyProof.Rows
theorem all_mk {l : PySem.W.OpenLaw} {w : World} {K : Fg_} {h : Heap} {mg : Str -> Option Value} {fa : Addr} (X : K.In h) (G : h.Ns mainGlobals mg) (hfa : mg "law" = some (.ref fa))
  {c0 : Addr}
  (u_Book : PySem.W.nsIn K mainGlobals "Book" = some (some (.ref c0)))
  {c1 : Addr}
  (u_Sale : PySem.W.nsIn K mainGlobals "Sale" = some (some (.ref c1)))
  {c2 : Addr}
  (u_Lot : PySem.W.nsIn K mainGlobals "Lot" = some (some (.ref c2)))
  {c3 : Addr}
  (u_Eldest : PySem.W.nsIn K mainGlobals "Eldest" = some (some (.ref c3)))
  {c4 : Addr}
  (u_Newest : PySem.W.nsIn K mainGlobals "Newest" = some (some (.ref c4)))
  {c5 : Addr}
  (u_Dearest : PySem.W.nsIn K mainGlobals "Dearest" = some (some (.ref c5)))
  {c6 : Addr}
  (u_Mean : PySem.W.nsIn K mainGlobals "Mean" = some (some (.ref c6)))
  {c7 : Addr}
  (u_Entry : PySem.W.nsIn K mainGlobals "Entry" = some (some (.ref c7)))
  {c8 : Addr}
  (u_Gift : PySem.W.nsIn K mainGlobals "Gift" = some (some (.ref c8)))
  {c9 : Addr}
  (u_Buy : PySem.W.nsIn K mainGlobals "Buy" = some (some (.ref c9)))
  {c10 : Addr}
  (u_Way : PySem.W.nsIn K mainGlobals "Way" = some (some (.ref c10)))
  {f0 : Addr} {od0 an0 : Option Addr} {sl0 : Array (Option Value)} {oc0 kV0 dc0 pm0 cd0 ct0 : Value}
  (a0 : PySem.W.nsIn K mainGlobals "_law_cell_at" = some (some (.ref f0)))
  (l0 : K.lookup f0 = some ⟨oc0, od0, .func (PySem.W.fnOf "_law_cell_at" "_law_cell_at" (defArgs s__law_cell_at) (defBody s__law_cell_at) (defScope s__law_cell_at) .none kV0 dc0 pm0 an0 cd0 ct0), sl0⟩)
  (d0 : PySem.W.codeIn K cd0 "_law_cell_at" = true)
  (k0 : PySem.W.keepIn K (.ref f0) = true)
  {f1 : Addr} {od1 an1 : Option Addr} {sl1 : Array (Option Value)} {oc1 kV1 dc1 pm1 cd1 ct1 : Value}
  (a1 : PySem.W.nsIn K mainGlobals "_law_mixed" = some (some (.ref f1)))
  (l1 : K.lookup f1 = some ⟨oc1, od1, .func (PySem.W.fnOf "_law_mixed" "_law_mixed" (defArgs s__law_mixed) (defBody s__law_mixed) (defScope s__law_mixed) .none kV1 dc1 pm1 an1 cd1 ct1), sl1⟩)
  (d1 : PySem.W.codeIn K cd1 "_law_mixed" = true)
  (k1 : PySem.W.keepIn K (.ref f1) = true)
  {f2 : Addr} {od2 an2 : Option Addr} {sl2 : Array (Option Value)} {oc2 kV2 dc2 pm2 cd2 ct2 : Value}
  (a2 : PySem.W.nsIn K mainGlobals "_law_chunks" = some (some (.ref f2)))
  (l2 : K.lookup f2 = some ⟨oc2, od2, .func (PySem.W.fnOf "_law_chunks" "_law_chunks" (defArgs s__law_chunks) (defBody s__law_chunks) (defScope s__law_chunks) .none kV2 dc2 pm2 an2 cd2 ct2), sl2⟩)
  (d2 : PySem.W.codeIn K cd2 "_law_chunks" = true)
  (k2 : PySem.W.keepIn K (.ref f2) = true)
  {f3 : Addr} {od3 an3 : Option Addr} {sl3 : Array (Option Value)} {oc3 kV3 dc3 pm3 cd3 ct3 : Value}
  (a3 : PySem.W.nsIn K mainGlobals "_law_wares" = some (some (.ref f3)))
  (l3 : K.lookup f3 = some ⟨oc3, od3, .func (PySem.W.fnOf "_law_wares" "_law_wares" (defArgs s__law_wares) (defBody s__law_wares) (defScope s__law_wares) .none kV3 dc3 pm3 an3 cd3 ct3), sl3⟩)
  (d3 : PySem.W.codeIn K cd3 "_law_wares" = true)
  (k3 : PySem.W.keepIn K (.ref f3) = true)
  {f4 : Addr} {od4 an4 : Option Addr} {sl4 : Array (Option Value)} {oc4 kV4 dc4 pm4 cd4 ct4 : Value}
  (a4 : PySem.W.findIn K (.ref c0) "__init__" = some (some (.ref f4)))
  (l4 : K.lookup f4 = some ⟨oc4, od4, .func (PySem.W.fnOf "__init__" "Book.__init__" (defArgs s_Book___init__) (defBody s_Book___init__) (defScope s_Book___init__) .none kV4 dc4 pm4 an4 cd4 ct4), sl4⟩)
  (d4 : PySem.W.codeIn K cd4 "Book.__init__" = true)
  (k4 : PySem.W.keepIn K (.ref f4) = true)
  {f5 : Addr} {od5 an5 : Option Addr} {sl5 : Array (Option Value)} {oc5 kV5 dc5 pm5 cd5 ct5 : Value}
  (a5 : PySem.W.nsIn K mainGlobals "_law_small" = some (some (.ref f5)))
  (l5 : K.lookup f5 = some ⟨oc5, od5, .func (PySem.W.fnOf "_law_small" "_law_small" (defArgs s__law_small) (defBody s__law_small) (defScope s__law_small) .none kV5 dc5 pm5 an5 cd5 ct5), sl5⟩)
  (d5 : PySem.W.codeIn K cd5 "_law_small" = true)
  (k5 : PySem.W.keepIn K (.ref f5) = true)
  {f6 : Addr} {od6 an6 : Option Addr} {sl6 : Array (Option Value)} {oc6 kV6 dc6 pm6 cd6 ct6 : Value}
  (a6 : PySem.W.nsIn K mainGlobals "_law_days" = some (some (.ref f6)))
  (l6 : K.lookup f6 = some ⟨oc6, od6, .func (PySem.W.fnOf "_law_days" "_law_days" (defArgs s__law_days) (defBody s__law_days) (defScope s__law_days) .none kV6 dc6 pm6 an6 cd6 ct6), sl6⟩)
  (d6 : PySem.W.codeIn K cd6 "_law_days" = true)
  (k6 : PySem.W.keepIn K (.ref f6) = true)
  {f7 : Addr} {od7 an7 : Option Addr} {sl7 : Array (Option Value)} {oc7 kV7 dc7 pm7 cd7 ct7 : Value}
  (a7 : PySem.W.nsIn K mainGlobals "cost_of_parts" = some (some (.ref f7)))
  (l7 : K.lookup f7 = some ⟨oc7, od7, .func (PySem.W.fnOf "cost_of_parts" "cost_of_parts" (defArgs s_cost_of_parts) (defBody s_cost_of_parts) (defScope s_cost_of_parts) .none kV7 dc7 pm7 an7 cd7 ct7), sl7⟩)
  (d7 : PySem.W.codeIn K cd7 "cost_of_parts" = true)
  (k7 : PySem.W.keepIn K (.ref f7) = true)
  {f8 : Addr} {od8 an8 : Option Addr} {sl8 : Array (Option Value)} {oc8 kV8 dc8 pm8 cd8 ct8 : Value}
  (a8 : PySem.W.nsIn K mainGlobals "cost_in" = some (some (.ref f8)))
  (l8 : K.lookup f8 = some ⟨oc8, od8, .func (PySem.W.fnOf "cost_in" "cost_in" (defArgs s_cost_in) (defBody s_cost_in) (defScope s_cost_in) .none kV8 dc8 pm8 an8 cd8 ct8), sl8⟩)
  (d8 : PySem.W.codeIn K cd8 "cost_in" = true)
  (k8 : PySem.W.keepIn K (.ref f8) = true)
  {f9 : Addr} {od9 an9 : Option Addr} {sl9 : Array (Option Value)} {oc9 kV9 dc9 pm9 cd9 ct9 : Value}
  (a9 : PySem.W.findIn K (.ref c1) "gain" = some (some (.ref f9)))
  (l9 : K.lookup f9 = some ⟨oc9, od9, .func (PySem.W.fnOf "gain" "Sale.gain" (defArgs s_Sale_gain) (defBody s_Sale_gain) (defScope s_Sale_gain) .none kV9 dc9 pm9 an9 cd9 ct9), sl9⟩)
  (d9 : PySem.W.codeIn K cd9 "Sale.gain" = true)
  (k9 : PySem.W.keepIn K (.ref f9) = true)
  {f10 : Addr} {od10 an10 : Option Addr} {sl10 : Array (Option Value)} {oc10 kV10 dc10 pm10 cd10 ct10 : Value}
  (a10 : PySem.W.findIn K (.ref c0) "sums" = some (some (.ref f10)))
  (l10 : K.lookup f10 = some ⟨oc10, od10, .func (PySem.W.fnOf "sums" "Book.sums" (defArgs s_Book_sums) (defBody s_Book_sums) (defScope s_Book_sums) .none kV10 dc10 pm10 an10 cd10 ct10), sl10⟩)
  (d10 : PySem.W.codeIn K cd10 "Book.sums" = true)
  (k10 : PySem.W.keepIn K (.ref f10) = true)
  {f11 : Addr} {od11 an11 : Option Addr} {sl11 : Array (Option Value)} {oc11 kV11 dc11 pm11 cd11 ct11 : Value}
  (a11 : PySem.W.findIn K (.ref c1) "__init__" = some (some (.ref f11)))
  (l11 : K.lookup f11 = some ⟨oc11, od11, .func (PySem.W.fnOf "__init__" "Sale.__init__" (defArgs s_Sale___init__) (defBody s_Sale___init__) (defScope s_Sale___init__) .none kV11 dc11 pm11 an11 cd11 ct11), sl11⟩)
  (d11 : PySem.W.codeIn K cd11 "Sale.__init__" = true)
  (k11 : PySem.W.keepIn K (.ref f11) = true)
  {f12 : Addr} {od12 an12 : Option Addr} {sl12 : Array (Option Value)} {oc12 kV12 dc12 pm12 cd12 ct12 : Value}
  (a12 : PySem.W.nsIn K mainGlobals "copy_of_sale" = some (some (.ref f12)))
  (l12 : K.lookup f12 = some ⟨oc12, od12, .func (PySem.W.fnOf "copy_of_sale" "copy_of_sale" (defArgs s_copy_of_sale) (defBody s_copy_of_sale) (defScope s_copy_of_sale) .none kV12 dc12 pm12 an12 cd12 ct12), sl12⟩)
  (d12 : PySem.W.codeIn K cd12 "copy_of_sale" = true)
  (k12 : PySem.W.keepIn K (.ref f12) = true)
  {f13 : Addr} {od13 an13 : Option Addr} {sl13 : Array (Option Value)} {oc13 kV13 dc13 pm13 cd13 ct13 : Value}
  (a13 : PySem.W.findIn K (.ref c0) "sales" = some (some (.ref f13)))
  (l13 : K.lookup f13 = some ⟨oc13, od13, .func (PySem.W.fnOf "sales" "Book.sales" (defArgs s_Book_sales) (defBody s_Book_sales) (defScope s_Book_sales) .none kV13 dc13 pm13 an13 cd13 ct13), sl13⟩)
  (d13 : PySem.W.codeIn K cd13 "Book.sales" = true)
  (k13 : PySem.W.keepIn K (.ref f13) = true)
  {f14 : Addr} {od14 an14 : Option Addr} {sl14 : Array (Option Value)} {oc14 kV14 dc14 pm14 cd14 ct14 : Value}
  (a14 : PySem.W.findIn K (.ref c2) "told" = some (some (.ref f14)))
  (l14 : K.lookup f14 = some ⟨oc14, od14, .func (PySem.W.fnOf "told" "Lot.told" (defArgs s_Lot_told) (defBody s_Lot_told) (defScope s_Lot_told) .none kV14 dc14 pm14 an14 cd14 ct14), sl14⟩)
  (d14 : PySem.W.codeIn K cd14 "Lot.told" = true)
  (k14 : PySem.W.keepIn K (.ref f14) = true)
  {f15 : Addr} {od15 an15 : Option Addr} {sl15 : Array (Option Value)} {oc15 kV15 dc15 pm15 cd15 ct15 : Value}
  (a15 : PySem.W.findIn K (.ref c0) "given" = some (some (.ref f15)))
  (l15 : K.lookup f15 = some ⟨oc15, od15, .func (PySem.W.fnOf "given" "Book.given" (defArgs s_Book_given) (defBody s_Book_given) (defScope s_Book_given) .none kV15 dc15 pm15 an15 cd15 ct15), sl15⟩)
  (d15 : PySem.W.codeIn K cd15 "Book.given" = true)
  (k15 : PySem.W.keepIn K (.ref f15) = true)
  {f16 : Addr} {od16 an16 : Option Addr} {sl16 : Array (Option Value)} {oc16 kV16 dc16 pm16 cd16 ct16 : Value}
  (a16 : PySem.W.nsIn K mainGlobals "_law_sums_good" = some (some (.ref f16)))
  (l16 : K.lookup f16 = some ⟨oc16, od16, .func (PySem.W.fnOf "_law_sums_good" "_law_sums_good" (defArgs s__law_sums_good) (defBody s__law_sums_good) (defScope s__law_sums_good) .none kV16 dc16 pm16 an16 cd16 ct16), sl16⟩)
  (d16 : PySem.W.codeIn K cd16 "_law_sums_good" = true)
  (k16 : PySem.W.keepIn K (.ref f16) = true)
  {f17 : Addr} {od17 an17 : Option Addr} {sl17 : Array (Option Value)} {oc17 kV17 dc17 pm17 cd17 ct17 : Value}
  (a17 : PySem.W.findIn K (.ref c3) "word" = some (some (.ref f17)))
  (l17 : K.lookup f17 = some ⟨oc17, od17, .func (PySem.W.fnOf "word" "Eldest.word" (defArgs s_Eldest_word) (defBody s_Eldest_word) (defScope s_Eldest_word) .none kV17 dc17 pm17 an17 cd17 ct17), sl17⟩)
  (d17 : PySem.W.codeIn K cd17 "Eldest.word" = true)
  (k17 : PySem.W.keepIn K (.ref f17) = true)
  {f18 : Addr} {od18 an18 : Option Addr} {sl18 : Array (Option Value)} {oc18 kV18 dc18 pm18 cd18 ct18 : Value}
  (a18 : PySem.W.findIn K (.ref c4) "word" = some (some (.ref f18)))
  (l18 : K.lookup f18 = some ⟨oc18, od18, .func (PySem.W.fnOf "word" "Newest.word" (defArgs s_Newest_word) (defBody s_Newest_word) (defScope s_Newest_word) .none kV18 dc18 pm18 an18 cd18 ct18), sl18⟩)
  (d18 : PySem.W.codeIn K cd18 "Newest.word" = true)
  (k18 : PySem.W.keepIn K (.ref f18) = true)
  {f19 : Addr} {od19 an19 : Option Addr} {sl19 : Array (Option Value)} {oc19 kV19 dc19 pm19 cd19 ct19 : Value}
  (a19 : PySem.W.findIn K (.ref c5) "word" = some (some (.ref f19)))
  (l19 : K.lookup f19 = some ⟨oc19, od19, .func (PySem.W.fnOf "word" "Dearest.word" (defArgs s_Dearest_word) (defBody s_Dearest_word) (defScope s_Dearest_word) .none kV19 dc19 pm19 an19 cd19 ct19), sl19⟩)
  (d19 : PySem.W.codeIn K cd19 "Dearest.word" = true)
  (k19 : PySem.W.keepIn K (.ref f19) = true)
  {f20 : Addr} {od20 an20 : Option Addr} {sl20 : Array (Option Value)} {oc20 kV20 dc20 pm20 cd20 ct20 : Value}
  (a20 : PySem.W.findIn K (.ref c6) "word" = some (some (.ref f20)))
  (l20 : K.lookup f20 = some ⟨oc20, od20, .func (PySem.W.fnOf "word" "Mean.word" (defArgs s_Mean_word) (defBody s_Mean_word) (defScope s_Mean_word) .none kV20 dc20 pm20 an20 cd20 ct20), sl20⟩)
  (d20 : PySem.W.codeIn K cd20 "Mean.word" = true)
  (k20 : PySem.W.keepIn K (.ref f20) = true)
  {f21 : Addr} {od21 an21 : Option Addr} {sl21 : Array (Option Value)} {oc21 kV21 dc21 pm21 cd21 ct21 : Value}
  (a21 : PySem.W.nsIn K mainGlobals "way_by" = some (some (.ref f21)))
  (l21 : K.lookup f21 = some ⟨oc21, od21, .func (PySem.W.fnOf "way_by" "way_by" (defArgs s_way_by) (defBody s_way_by) (defScope s_way_by) .none kV21 dc21 pm21 an21 cd21 ct21), sl21⟩)
  (d21 : PySem.W.codeIn K cd21 "way_by" = true)
  (k21 : PySem.W.keepIn K (.ref f21) = true)
  {f22 : Addr} {od22 an22 : Option Addr} {sl22 : Array (Option Value)} {oc22 kV22 dc22 pm22 cd22 ct22 : Value}
  (a22 : PySem.W.nsIn K mainGlobals "is_whole_number" = some (some (.ref f22)))
  (l22 : K.lookup f22 = some ⟨oc22, od22, .func (PySem.W.fnOf "is_whole_number" "is_whole_number" (defArgs s_is_whole_number) (defBody s_is_whole_number) (defScope s_is_whole_number) .none kV22 dc22 pm22 an22 cd22 ct22), sl22⟩)
  (d22 : PySem.W.codeIn K cd22 "is_whole_number" = true)
  (k22 : PySem.W.keepIn K (.ref f22) = true)
  {f23 : Addr} {od23 an23 : Option Addr} {sl23 : Array (Option Value)} {oc23 kV23 dc23 pm23 cd23 ct23 : Value}
  (a23 : PySem.W.nsIn K mainGlobals "check_number" = some (some (.ref f23)))
  (l23 : K.lookup f23 = some ⟨oc23, od23, .func (PySem.W.fnOf "check_number" "check_number" (defArgs s_check_number) (defBody s_check_number) (defScope s_check_number) .none kV23 dc23 pm23 an23 cd23 ct23), sl23⟩)
  (d23 : PySem.W.codeIn K cd23 "check_number" = true)
  (k23 : PySem.W.keepIn K (.ref f23) = true)
  {f24 : Addr} {od24 an24 : Option Addr} {sl24 : Array (Option Value)} {oc24 kV24 dc24 pm24 cd24 ct24 : Value}
  (a24 : PySem.W.nsIn K mainGlobals "is_name" = some (some (.ref f24)))
  (l24 : K.lookup f24 = some ⟨oc24, od24, .func (PySem.W.fnOf "is_name" "is_name" (defArgs s_is_name) (defBody s_is_name) (defScope s_is_name) .none kV24 dc24 pm24 an24 cd24 ct24), sl24⟩)
  (d24 : PySem.W.codeIn K cd24 "is_name" = true)
  (k24 : PySem.W.keepIn K (.ref f24) = true)
  {f25 : Addr} {od25 an25 : Option Addr} {sl25 : Array (Option Value)} {oc25 kV25 dc25 pm25 cd25 ct25 : Value}
  (a25 : PySem.W.nsIn K mainGlobals "check_name" = some (some (.ref f25)))
  (l25 : K.lookup f25 = some ⟨oc25, od25, .func (PySem.W.fnOf "check_name" "check_name" (defArgs s_check_name) (defBody s_check_name) (defScope s_check_name) .none kV25 dc25 pm25 an25 cd25 ct25), sl25⟩)
  (d25 : PySem.W.codeIn K cd25 "check_name" = true)
  (k25 : PySem.W.keepIn K (.ref f25) = true)
  {f26 : Addr} {od26 an26 : Option Addr} {sl26 : Array (Option Value)} {oc26 kV26 dc26 pm26 cd26 ct26 : Value}
  (a26 : PySem.W.findIn K (.ref c7) "__init__" = some (some (.ref f26)))
  (l26 : K.lookup f26 = some ⟨oc26, od26, .func (PySem.W.fnOf "__init__" "Entry.__init__" (defArgs s_Entry___init__) (defBody s_Entry___init__) (defScope s_Entry___init__) .none kV26 dc26 pm26 an26 cd26 ct26), sl26⟩)
  (d26 : PySem.W.codeIn K cd26 "Entry.__init__" = true)
  (k26 : PySem.W.keepIn K (.ref f26) = true)
  {f27 : Addr} {od27 an27 : Option Addr} {sl27 : Array (Option Value)} {oc27 kV27 dc27 pm27 cd27 ct27 : Value}
  (a27 : PySem.W.findIn K (.ref c8) "__init__" = some (some (.ref f27)))
  (l27 : K.lookup f27 = some ⟨oc27, od27, .func (PySem.W.fnOf "__init__" "Gift.__init__" (defArgs s_Gift___init__) (defBody s_Gift___init__) (defScope s_Gift___init__) .none kV27 dc27 pm27 an27 cd27 ct27), sl27⟩)
  (d27 : PySem.W.codeIn K cd27 "Gift.__init__" = true)
  (k27 : PySem.W.keepIn K (.ref f27) = true)
  {f28 : Addr} {od28 an28 : Option Addr} {sl28 : Array (Option Value)} {oc28 kV28 dc28 pm28 cd28 ct28 : Value}
  (a28 : PySem.W.nsIn K mainGlobals "check_trade" = some (some (.ref f28)))
  (l28 : K.lookup f28 = some ⟨oc28, od28, .func (PySem.W.fnOf "check_trade" "check_trade" (defArgs s_check_trade) (defBody s_check_trade) (defScope s_check_trade) .none kV28 dc28 pm28 an28 cd28 ct28), sl28⟩)
  (d28 : PySem.W.codeIn K cd28 "check_trade" = true)
  (k28 : PySem.W.keepIn K (.ref f28) = true)
  {f29 : Addr} {od29 an29 : Option Addr} {sl29 : Array (Option Value)} {oc29 kV29 dc29 pm29 cd29 ct29 : Value}
  (a29 : PySem.W.findIn K (.ref c9) "__init__" = some (some (.ref f29)))
  {td29 : Addr} {odt29 : Option Addr} {oct29 : Value} {slt29 : Array (Option Value)} {nt29 : Nat} {tk29_0 : Tok}
  (l29 : K.lookup f29 = some ⟨oc29, od29, .func (PySem.W.fnOf "__init__" "Buy.__init__" (defArgs s_Buy___init__) (defBody s_Buy___init__) (defScope s_Buy___init__) (.ref td29) kV29 dc29 pm29 an29 cd29 ct29), sl29⟩)
  (d29 : PySem.W.codeIn K cd29 "Buy.__init__" = true)
  (k29 : PySem.W.keepIn K (.ref f29) = true)
  (lt29 : K.lookup td29 = some ⟨oct29, odt29, .seq #[.int 0 tk29_0] nt29, slt29⟩)
  {f30 : Addr} {od30 an30 : Option Addr} {sl30 : Array (Option Value)} {oc30 kV30 dc30 pm30 cd30 ct30 : Value}
  (a30 : PySem.W.nsIn K mainGlobals "_law_entry" = some (some (.ref f30)))
  (l30 : K.lookup f30 = some ⟨oc30, od30, .func (PySem.W.fnOf "_law_entry" "_law_entry" (defArgs s__law_entry) (defBody s__law_entry) (defScope s__law_entry) .none kV30 dc30 pm30 an30 cd30 ct30), sl30⟩)
  (d30 : PySem.W.codeIn K cd30 "_law_entry" = true)
  (k30 : PySem.W.keepIn K (.ref f30) = true)
  {f31 : Addr} {od31 an31 : Option Addr} {sl31 : Array (Option Value)} {oc31 kV31 dc31 pm31 cd31 ct31 : Value}
  (a31 : PySem.W.findIn K (.ref c0) "row_of" = some (some (.ref f31)))
  (l31 : K.lookup f31 = some ⟨oc31, od31, .func (PySem.W.fnOf "row_of" "Book.row_of" (defArgs s_Book_row_of) (defBody s_Book_row_of) (defScope s_Book_row_of) .none kV31 dc31 pm31 an31 cd31 ct31), sl31⟩)
  (d31 : PySem.W.codeIn K cd31 "Book.row_of" = true)
  (k31 : PySem.W.keepIn K (.ref f31) = true)
  {f32 : Addr} {od32 an32 : Option Addr} {sl32 : Array (Option Value)} {oc32 kV32 dc32 pm32 cd32 ct32 : Value}
  (a32 : PySem.W.nsIn K mainGlobals "pieces_in" = some (some (.ref f32)))
  (l32 : K.lookup f32 = some ⟨oc32, od32, .func (PySem.W.fnOf "pieces_in" "pieces_in" (defArgs s_pieces_in) (defBody s_pieces_in) (defScope s_pieces_in) .none kV32 dc32 pm32 an32 cd32 ct32), sl32⟩)
  (d32 : PySem.W.codeIn K cd32 "pieces_in" = true)
  (k32 : PySem.W.keepIn K (.ref f32) = true)
  {f33 : Addr} {od33 an33 : Option Addr} {sl33 : Array (Option Value)} {oc33 kV33 dc33 pm33 cd33 ct33 : Value}
  (a33 : PySem.W.findIn K (.ref c0) "held" = some (some (.ref f33)))
  (l33 : K.lookup f33 = some ⟨oc33, od33, .func (PySem.W.fnOf "held" "Book.held" (defArgs s_Book_held) (defBody s_Book_held) (defScope s_Book_held) .none kV33 dc33 pm33 an33 cd33 ct33), sl33⟩)
  (d33 : PySem.W.codeIn K cd33 "Book.held" = true)
  (k33 : PySem.W.keepIn K (.ref f33) = true)
  {f34 : Addr} {od34 an34 : Option Addr} {sl34 : Array (Option Value)} {oc34 kV34 dc34 pm34 cd34 ct34 : Value}
  (a34 : PySem.W.nsIn K mainGlobals "_law_pieces" = some (some (.ref f34)))
  (l34 : K.lookup f34 = some ⟨oc34, od34, .func (PySem.W.fnOf "_law_pieces" "_law_pieces" (defArgs s__law_pieces) (defBody s__law_pieces) (defScope s__law_pieces) .none kV34 dc34 pm34 an34 cd34 ct34), sl34⟩)
  (d34 : PySem.W.codeIn K cd34 "_law_pieces" = true)
  (k34 : PySem.W.keepIn K (.ref f34) = true)
  {f35 : Addr} {od35 an35 : Option Addr} {sl35 : Array (Option Value)} {oc35 kV35 dc35 pm35 cd35 ct35 : Value}
  (a35 : PySem.W.nsIn K mainGlobals "_law_whole" = some (some (.ref f35)))
  (l35 : K.lookup f35 = some ⟨oc35, od35, .func (PySem.W.fnOf "_law_whole" "_law_whole" (defArgs s__law_whole) (defBody s__law_whole) (defScope s__law_whole) .none kV35 dc35 pm35 an35 cd35 ct35), sl35⟩)
  (d35 : PySem.W.codeIn K cd35 "_law_whole" = true)
  (k35 : PySem.W.keepIn K (.ref f35) = true)
  {f36 : Addr} {od36 an36 : Option Addr} {sl36 : Array (Option Value)} {oc36 kV36 dc36 pm36 cd36 ct36 : Value}
  (a36 : PySem.W.nsIn K mainGlobals "_law_is_row" = some (some (.ref f36)))
  (l36 : K.lookup f36 = some ⟨oc36, od36, .func (PySem.W.fnOf "_law_is_row" "_law_is_row" (defArgs s__law_is_row) (defBody s__law_is_row) (defScope s__law_is_row) .none kV36 dc36 pm36 an36 cd36 ct36), sl36⟩)
  (d36 : PySem.W.codeIn K cd36 "_law_is_row" = true)
  (k36 : PySem.W.keepIn K (.ref f36) = true)
  {f37 : Addr} {od37 an37 : Option Addr} {sl37 : Array (Option Value)} {oc37 kV37 dc37 pm37 cd37 ct37 : Value}
  (a37 : PySem.W.nsIn K mainGlobals "_law_rows_good" = some (some (.ref f37)))
  (l37 : K.lookup f37 = some ⟨oc37, od37, .func (PySem.W.fnOf "_law_rows_good" "_law_rows_good" (defArgs s__law_rows_good) (defBody s__law_rows_good) (defScope s__law_rows_good) .none kV37 dc37 pm37 an37 cd37 ct37), sl37⟩)
  (d37 : PySem.W.codeIn K cd37 "_law_rows_good" = true)
  (k37 : PySem.W.keepIn K (.ref f37) = true)
  {f38 : Addr} {od38 an38 : Option Addr} {sl38 : Array (Option Value)} {oc38 kV38 dc38 pm38 cd38 ct38 : Value}
  (a38 : PySem.W.findIn K (.ref c0) "keep_row" = some (some (.ref f38)))
  (l38 : K.lookup f38 = some ⟨oc38, od38, .func (PySem.W.fnOf "keep_row" "Book.keep_row" (defArgs s_Book_keep_row) (defBody s_Book_keep_row) (defScope s_Book_keep_row) .none kV38 dc38 pm38 an38 cd38 ct38), sl38⟩)
  (d38 : PySem.W.codeIn K cd38 "Book.keep_row" = true)
  (k38 : PySem.W.keepIn K (.ref f38) = true)
  {f39 : Addr} {od39 an39 : Option Addr} {sl39 : Array (Option Value)} {oc39 kV39 dc39 pm39 cd39 ct39 : Value}
  (a39 : PySem.W.nsIn K mainGlobals "place_in_row" = some (some (.ref f39)))
  (l39 : K.lookup f39 = some ⟨oc39, od39, .func (PySem.W.fnOf "place_in_row" "place_in_row" (defArgs s_place_in_row) (defBody s_place_in_row) (defScope s_place_in_row) .none kV39 dc39 pm39 an39 cd39 ct39), sl39⟩)
  (d39 : PySem.W.codeIn K cd39 "place_in_row" = true)
  (k39 : PySem.W.keepIn K (.ref f39) = true)
  {f40 : Addr} {od40 an40 : Option Addr} {sl40 : Array (Option Value)} {oc40 kV40 dc40 pm40 cd40 ct40 : Value}
  (a40 : PySem.W.findIn K (.ref c2) "__init__" = some (some (.ref f40)))
  (l40 : K.lookup f40 = some ⟨oc40, od40, .func (PySem.W.fnOf "__init__" "Lot.__init__" (defArgs s_Lot___init__) (defBody s_Lot___init__) (defScope s_Lot___init__) .none kV40 dc40 pm40 an40 cd40 ct40), sl40⟩)
  (d40 : PySem.W.codeIn K cd40 "Lot.__init__" = true)
  (k40 : PySem.W.keepIn K (.ref f40) = true)
  {f41 : Addr} {od41 an41 : Option Addr} {sl41 : Array (Option Value)} {oc41 kV41 dc41 pm41 cd41 ct41 : Value}
  (a41 : PySem.W.findIn K (.ref c2) "with_more" = some (some (.ref f41)))
  (l41 : K.lookup f41 = some ⟨oc41, od41, .func (PySem.W.fnOf "with_more" "Lot.with_more" (defArgs s_Lot_with_more) (defBody s_Lot_with_more) (defScope s_Lot_with_more) .none kV41 dc41 pm41 an41 cd41 ct41), sl41⟩)
  (d41 : PySem.W.codeIn K cd41 "Lot.with_more" = true)
  (k41 : PySem.W.keepIn K (.ref f41) = true)
  {f42 : Addr} {od42 an42 : Option Addr} {sl42 : Array (Option Value)} {oc42 kV42 dc42 pm42 cd42 ct42 : Value}
  (a42 : PySem.W.nsIn K mainGlobals "row_with" = some (some (.ref f42)))
  (l42 : K.lookup f42 = some ⟨oc42, od42, .func (PySem.W.fnOf "row_with" "row_with" (defArgs s_row_with) (defBody s_row_with) (defScope s_row_with) .none kV42 dc42 pm42 an42 cd42 ct42), sl42⟩)
  (d42 : PySem.W.codeIn K cd42 "row_with" = true)
  (k42 : PySem.W.keepIn K (.ref f42) = true)
  {f43 : Addr} {od43 an43 : Option Addr} {sl43 : Array (Option Value)} {oc43 kV43 dc43 pm43 cd43 ct43 : Value}
  (a43 : PySem.W.findIn K (.ref c0) "put" = some (some (.ref f43)))
  (l43 : K.lookup f43 = some ⟨oc43, od43, .func (PySem.W.fnOf "put" "Book.put" (defArgs s_Book_put) (defBody s_Book_put) (defScope s_Book_put) .none kV43 dc43 pm43 an43 cd43 ct43), sl43⟩)
  (d43 : PySem.W.codeIn K cd43 "Book.put" = true)
  (k43 : PySem.W.keepIn K (.ref f43) = true)
  {f44 : Addr} {od44 an44 : Option Addr} {sl44 : Array (Option Value)} {oc44 kV44 dc44 pm44 cd44 ct44 : Value}
  (a44 : PySem.W.findIn K (.ref c0) "lay_on" = some (some (.ref f44)))
  (l44 : K.lookup f44 = some ⟨oc44, od44, .func (PySem.W.fnOf "lay_on" "Book.lay_on" (defArgs s_Book_lay_on) (defBody s_Book_lay_on) (defScope s_Book_lay_on) .none kV44 dc44 pm44 an44 cd44 ct44), sl44⟩)
  (d44 : PySem.W.codeIn K cd44 "Book.lay_on" = true)
  (k44 : PySem.W.keepIn K (.ref f44) = true)
  {f45 : Addr} {od45 an45 : Option Addr} {sl45 : Array (Option Value)} {oc45 kV45 dc45 pm45 cd45 ct45 : Value}
  (a45 : PySem.W.findIn K (.ref c0) "do_buy" = some (some (.ref f45)))
  (l45 : K.lookup f45 = some ⟨oc45, od45, .func (PySem.W.fnOf "do_buy" "Book.do_buy" (defArgs s_Book_do_buy) (defBody s_Book_do_buy) (defScope s_Book_do_buy) .none kV45 dc45 pm45 an45 cd45 ct45), sl45⟩)
  (d45 : PySem.W.codeIn K cd45 "Book.do_buy" = true)
  (k45 : PySem.W.keepIn K (.ref f45) = true)
  {f46 : Addr} {od46 an46 : Option Addr} {sl46 : Array (Option Value)} {oc46 kV46 dc46 pm46 cd46 ct46 : Value}
  (a46 : PySem.W.findIn K (.ref c0) "do_gift" = some (some (.ref f46)))
  (l46 : K.lookup f46 = some ⟨oc46, od46, .func (PySem.W.fnOf "do_gift" "Book.do_gift" (defArgs s_Book_do_gift) (defBody s_Book_do_gift) (defScope s_Book_do_gift) .none kV46 dc46 pm46 an46 cd46 ct46), sl46⟩)
  (d46 : PySem.W.codeIn K cd46 "Book.do_gift" = true)
  (k46 : PySem.W.keepIn K (.ref f46) = true)
  {f47 : Addr} {od47 an47 : Option Addr} {sl47 : Array (Option Value)} {oc47 kV47 dc47 pm47 cd47 ct47 : Value}
  (a47 : PySem.W.findIn K (.ref c0) "do_by_kind" = some (some (.ref f47)))
  (l47 : K.lookup f47 = some ⟨oc47, od47, .func (PySem.W.fnOf "do_by_kind" "Book.do_by_kind" (defArgs s_Book_do_by_kind) (defBody s_Book_do_by_kind) (defScope s_Book_do_by_kind) .none kV47 dc47 pm47 an47 cd47 ct47), sl47⟩)
  (d47 : PySem.W.codeIn K cd47 "Book.do_by_kind" = true)
  (k47 : PySem.W.keepIn K (.ref f47) = true)
  {f48 : Addr} {od48 an48 : Option Addr} {sl48 : Array (Option Value)} {oc48 kV48 dc48 pm48 cd48 ct48 : Value}
  (a48 : PySem.W.nsIn K mainGlobals "place_of" = some (some (.ref f48)))
  (l48 : K.lookup f48 = some ⟨oc48, od48, .func (PySem.W.fnOf "place_of" "place_of" (defArgs s_place_of) (defBody s_place_of) (defScope s_place_of) .none kV48 dc48 pm48 an48 cd48 ct48), sl48⟩)
  (d48 : PySem.W.codeIn K cd48 "place_of" = true)
  (k48 : PySem.W.keepIn K (.ref f48) = true)
  {f49 : Addr} {od49 an49 : Option Addr} {sl49 : Array (Option Value)} {oc49 kV49 dc49 pm49 cd49 ct49 : Value}
  (a49 : PySem.W.nsIn K mainGlobals "held_with" = some (some (.ref f49)))
  (l49 : K.lookup f49 = some ⟨oc49, od49, .func (PySem.W.fnOf "held_with" "held_with" (defArgs s_held_with) (defBody s_held_with) (defScope s_held_with) .none kV49 dc49 pm49 an49 cd49 ct49), sl49⟩)
  (d49 : PySem.W.codeIn K cd49 "held_with" = true)
  (k49 : PySem.W.keepIn K (.ref f49) = true)
  {f50 : Addr} {od50 an50 : Option Addr} {sl50 : Array (Option Value)} {oc50 kV50 dc50 pm50 cd50 ct50 : Value}
  (a50 : PySem.W.nsIn K mainGlobals "held_with_more" = some (some (.ref f50)))
  (l50 : K.lookup f50 = some ⟨oc50, od50, .func (PySem.W.fnOf "held_with_more" "held_with_more" (defArgs s_held_with_more) (defBody s_held_with_more) (defScope s_held_with_more) .none kV50 dc50 pm50 an50 cd50 ct50), sl50⟩)
  (d50 : PySem.W.codeIn K cd50 "held_with_more" = true)
  (k50 : PySem.W.keepIn K (.ref f50) = true)
  {f51 : Addr} {od51 an51 : Option Addr} {sl51 : Array (Option Value)} {oc51 kV51 dc51 pm51 cd51 ct51 : Value}
  (a51 : PySem.W.findIn K (.ref c9) "held_behind" = some (some (.ref f51)))
  (l51 : K.lookup f51 = some ⟨oc51, od51, .func (PySem.W.fnOf "held_behind" "Buy.held_behind" (defArgs s_Buy_held_behind) (defBody s_Buy_held_behind) (defScope s_Buy_held_behind) .none kV51 dc51 pm51 an51 cd51 ct51), sl51⟩)
  (d51 : PySem.W.codeIn K cd51 "Buy.held_behind" = true)
  (k51 : PySem.W.keepIn K (.ref f51) = true)
  {f52 : Addr} {od52 an52 : Option Addr} {sl52 : Array (Option Value)} {oc52 kV52 dc52 pm52 cd52 ct52 : Value}
  (a52 : PySem.W.findIn K (.ref c8) "held_behind" = some (some (.ref f52)))
  (l52 : K.lookup f52 = some ⟨oc52, od52, .func (PySem.W.fnOf "held_behind" "Gift.held_behind" (defArgs s_Gift_held_behind) (defBody s_Gift_held_behind) (defScope s_Gift_held_behind) .none kV52 dc52 pm52 an52 cd52 ct52), sl52⟩)
  (d52 : PySem.W.codeIn K cd52 "Gift.held_behind" = true)
  (k52 : PySem.W.keepIn K (.ref f52) = true)
  {f53 : Addr} {od53 an53 : Option Addr} {sl53 : Array (Option Value)} {oc53 kV53 dc53 pm53 cd53 ct53 : Value}
  (a53 : PySem.W.findIn K (.ref c0) "do" = some (some (.ref f53)))
  (l53 : K.lookup f53 = some ⟨oc53, od53, .func (PySem.W.fnOf "do" "Book.do" (defArgs s_Book_do) (defBody s_Book_do) (defScope s_Book_do) .none kV53 dc53 pm53 an53 cd53 ct53), sl53⟩)
  (d53 : PySem.W.codeIn K cd53 "Book.do" = true)
  (k53 : PySem.W.keepIn K (.ref f53) = true)
  {f54 : Addr} {od54 an54 : Option Addr} {sl54 : Array (Option Value)} {oc54 kV54 dc54 pm54 cd54 ct54 : Value}
  (a54 : PySem.W.findIn K (.ref c9) "word" = some (some (.ref f54)))
  (l54 : K.lookup f54 = some ⟨oc54, od54, .func (PySem.W.fnOf "word" "Buy.word" (defArgs s_Buy_word) (defBody s_Buy_word) (defScope s_Buy_word) .none kV54 dc54 pm54 an54 cd54 ct54), sl54⟩)
  (d54 : PySem.W.codeIn K cd54 "Buy.word" = true)
  (k54 : PySem.W.keepIn K (.ref f54) = true)
  {f55 : Addr} {od55 an55 : Option Addr} {sl55 : Array (Option Value)} {oc55 kV55 dc55 pm55 cd55 ct55 : Value}
  (a55 : PySem.W.findIn K (.ref c8) "word" = some (some (.ref f55)))
  (l55 : K.lookup f55 = some ⟨oc55, od55, .func (PySem.W.fnOf "word" "Gift.word" (defArgs s_Gift_word) (defBody s_Gift_word) (defScope s_Gift_word) .none kV55 dc55 pm55 an55 cd55 ct55), sl55⟩)
  (d55 : PySem.W.codeIn K cd55 "Gift.word" = true)
  (k55 : PySem.W.keepIn K (.ref f55) = true)
  {f56 : Addr} {od56 an56 : Option Addr} {sl56 : Array (Option Value)} {oc56 kV56 dc56 pm56 cd56 ct56 : Value}
  (a56 : PySem.W.nsIn K mainGlobals "law" = some (some (.ref f56)))
  (l56 : K.lookup f56 = some ⟨oc56, od56, .func (PySem.W.fnOf "law" "law" (defArgs s_law) (defBody s_law) (defScope s_law) .none kV56 dc56 pm56 an56 cd56 ct56), sl56⟩)
  (d56 : PySem.W.codeIn K cd56 "law" = true)
  (k56 : PySem.W.keepIn K (.ref f56) = true)
  (z_len : PySem.W.nsIn K mainGlobals "len" = some none)
  (z_range : PySem.W.nsIn K mainGlobals "range" = some none)
  (z_max : PySem.W.nsIn K mainGlobals "max" = some none)
  (z_min : PySem.W.nsIn K mainGlobals "min" = some none)
  (z_sorted : PySem.W.nsIn K mainGlobals "sorted" = some none)
  (z_sum : PySem.W.nsIn K mainGlobals "sum" = some none)
  (z_list : PySem.W.nsIn K mainGlobals "list" = some none)
  (z_isinstance : PySem.W.nsIn K mainGlobals "isinstance" = some none)
  (z_int : PySem.W.nsIn K mainGlobals "int" = some none)
  (z_bool : PySem.W.nsIn K mainGlobals "bool" = some none)
  (z_all : PySem.W.nsIn K mainGlobals "all" = some none)
  (z_str : PySem.W.nsIn K mainGlobals "str" = some none)
  (z_dict : PySem.W.nsIn K mainGlobals "dict" = some none)
  (z_zip : PySem.W.nsIn K mainGlobals "zip" = some none)
  (z_any : PySem.W.nsIn K mainGlobals "any" = some none)
  {t_MOST_LETTERS : Tok}
  (g_MOST_LETTERS : PySem.W.nsIn K mainGlobals "MOST_LETTERS" = some (some (.int 8 t_MOST_LETTERS)))
  {t_MOST_DAY : Tok}
  (g_MOST_DAY : PySem.W.nsIn K mainGlobals "MOST_DAY" = some (some (.int 1000000 t_MOST_DAY)))
  {t_MOST_NUMBER : Tok}
  (g_MOST_NUMBER : PySem.W.nsIn K mainGlobals "MOST_NUMBER" = some (some (.int 1000000 t_MOST_NUMBER)))
  {t_MOST_PIECES : Tok}
  (g_MOST_PIECES : PySem.W.nsIn K mainGlobals "MOST_PIECES" = some (some (.int 1000000000 t_MOST_PIECES)))
  {t_MOST_GIFT_COST : Tok}
  (g_MOST_GIFT_COST : PySem.W.nsIn K mainGlobals "MOST_GIFT_COST" = some (some (.int 1000000000000000000 t_MOST_GIFT_COST)))
  {t_MOST_PRICE : Tok}
  (g_MOST_PRICE : PySem.W.nsIn K mainGlobals "MOST_PRICE" = some (some (.int 1000000000 t_MOST_PRICE)))
  {t_MOST_FEE : Tok}
  (g_MOST_FEE : PySem.W.nsIn K mainGlobals "MOST_FEE" = some (some (.int 1000000000 t_MOST_FEE)))
  (oc_n : PySem.W.specialIn K (.builtin "object.__class__") "__get__" = some (some (.builtin "getset_descriptor.__get__")))
  (oc_t : PySem.W.takesIn K (.builtin "object.__class__") = some true)
  (pg_Book : PySem.W.plainGet K c0 Str.empty = true)
  (hd_Book : PySem.W.hasDictIn K c0 = true)
  (po_Book : PySem.W.plainOver K c0 = true)
  (sa_Book : PySem.W.findIn K (.ref c0) "__setattr__" = some (some (.builtin "object.__setattr__")))
  (ha_Book : PySem.W.findIn K (.ref c0) "__class__" = some (some (.builtin "object.__class__")))
  (hm_Book : PySem.W.mroIn K c0 (.type "object") = some true)
  (n_Book_way : PySem.W.findIn K (.ref c0) "way" = some none)
  (n_Book_rows : PySem.W.findIn K (.ref c0) "rows" = some none)
  (n_Book_last_place : PySem.W.findIn K (.ref c0) "last_place" = some none)
  (n_Book_paid : PySem.W.findIn K (.ref c0) "paid" = some none)
  (n_Book_brought : PySem.W.findIn K (.ref c0) "brought" = some none)
  (n_Book_sales_done : PySem.W.findIn K (.ref c0) "sales_done" = some none)
  (n_Book_givings_done : PySem.W.findIn K (.ref c0) "givings_done" = some none)
  (pg_Sale : PySem.W.plainGet K c1 Str.empty = true)
  (hd_Sale : PySem.W.hasDictIn K c1 = true)
  (po_Sale : PySem.W.plainOver K c1 = true)
  (sa_Sale : PySem.W.findIn K (.ref c1) "__setattr__" = some (some (.builtin "object.__setattr__")))
  (ha_Sale : PySem.W.findIn K (.ref c1) "__class__" = some (some (.builtin "object.__class__")))
  (hm_Sale : PySem.W.mroIn K c1 (.type "object") = some true)
  (n_Sale_number : PySem.W.findIn K (.ref c1) "number" = some none)
  (n_Sale_day : PySem.W.findIn K (.ref c1) "day" = some none)
  (n_Sale_ware : PySem.W.findIn K (.ref c1) "ware" = some none)
  (n_Sale_proceeds : PySem.W.findIn K (.ref c1) "proceeds" = some none)
  (n_Sale_parts : PySem.W.findIn K (.ref c1) "parts" = some none)
  (n_Sale_laid_on : PySem.W.findIn K (.ref c1) "laid_on" = some none)
  (pg_Lot : PySem.W.plainGet K c2 Str.empty = true)
  (hd_Lot : PySem.W.hasDictIn K c2 = true)
  (po_Lot : PySem.W.plainOver K c2 = true)
  (sa_Lot : PySem.W.findIn K (.ref c2) "__setattr__" = some (some (.builtin "object.__setattr__")))
  (ha_Lot : PySem.W.findIn K (.ref c2) "__class__" = some (some (.builtin "object.__class__")))
  (hm_Lot : PySem.W.mroIn K c2 (.type "object") = some true)
  (n_Lot_number : PySem.W.findIn K (.ref c2) "number" = some none)
  (n_Lot_since : PySem.W.findIn K (.ref c2) "since" = some none)
  (n_Lot_pieces : PySem.W.findIn K (.ref c2) "pieces" = some none)
  (n_Lot_cost : PySem.W.findIn K (.ref c2) "cost" = some none)
  (pg_Eldest : PySem.W.plainGet K c3 Str.empty = true)
  (hd_Eldest : PySem.W.hasDictIn K c3 = true)
  (po_Eldest : PySem.W.plainOver K c3 = true)
  (sa_Eldest : PySem.W.findIn K (.ref c3) "__setattr__" = some (some (.builtin "object.__setattr__")))
  (ha_Eldest : PySem.W.findIn K (.ref c3) "__class__" = some (some (.builtin "object.__class__")))
  (hm_Eldest : PySem.W.mroIn K c3 (.type "object") = some true)
  (pg_Newest : PySem.W.plainGet K c4 Str.empty = true)
  (hd_Newest : PySem.W.hasDictIn K c4 = true)
  (po_Newest : PySem.W.plainOver K c4 = true)
  (sa_Newest : PySem.W.findIn K (.ref c4) "__setattr__" = some (some (.builtin "object.__setattr__")))
  (ha_Newest : PySem.W.findIn K (.ref c4) "__class__" = some (some (.builtin "object.__class__")))
  (hm_Newest : PySem.W.mroIn K c4 (.type "object") = some true)
  (pg_Dearest : PySem.W.plainGet K c5 Str.empty = true)
  (hd_Dearest : PySem.W.hasDictIn K c5 = true)
  (po_Dearest : PySem.W.plainOver K c5 = true)
  (sa_Dearest : PySem.W.findIn K (.ref c5) "__setattr__" = some (some (.builtin "object.__setattr__")))
  (ha_Dearest : PySem.W.findIn K (.ref c5) "__class__" = some (some (.builtin "object.__class__")))
  (hm_Dearest : PySem.W.mroIn K c5 (.type "object") = some true)
  (pg_Mean : PySem.W.plainGet K c6 Str.empty = true)
  (hd_Mean : PySem.W.hasDictIn K c6 = true)
  (po_Mean : PySem.W.plainOver K c6 = true)
  (sa_Mean : PySem.W.findIn K (.ref c6) "__setattr__" = some (some (.builtin "object.__setattr__")))
  (ha_Mean : PySem.W.findIn K (.ref c6) "__class__" = some (some (.builtin "object.__class__")))
  (hm_Mean : PySem.W.mroIn K c6 (.type "object") = some true)
  (pg_Entry : PySem.W.plainGet K c7 Str.empty = true)
  (hd_Entry : PySem.W.hasDictIn K c7 = true)
  (po_Entry : PySem.W.plainOver K c7 = true)
  (sa_Entry : PySem.W.findIn K (.ref c7) "__setattr__" = some (some (.builtin "object.__setattr__")))
  (ha_Entry : PySem.W.findIn K (.ref c7) "__class__" = some (some (.builtin "object.__class__")))
  (hm_Entry : PySem.W.mroIn K c7 (.type "object") = some true)
  (n_Entry_day : PySem.W.findIn K (.ref c7) "day" = some none)
  (n_Entry_number : PySem.W.findIn K (.ref c7) "number" = some none)
  (n_Entry_ware : PySem.W.findIn K (.ref c7) "ware" = some none)
  (pg_Gift : PySem.W.plainGet K c8 Str.empty = true)
  (hd_Gift : PySem.W.hasDictIn K c8 = true)
  (po_Gift : PySem.W.plainOver K c8 = true)
  (sa_Gift : PySem.W.findIn K (.ref c8) "__setattr__" = some (some (.builtin "object.__setattr__")))
  (ha_Gift : PySem.W.findIn K (.ref c8) "__class__" = some (some (.builtin "object.__class__")))
  (hm_Gift : PySem.W.mroIn K c8 (.type "object") = some true)
  (n_Gift_day : PySem.W.findIn K (.ref c8) "day" = some none)
  (n_Gift_number : PySem.W.findIn K (.ref c8) "number" = some none)
  (n_Gift_ware : PySem.W.findIn K (.ref c8) "ware" = some none)
  (n_Gift_pieces : PySem.W.findIn K (.ref c8) "pieces" = some none)
  (n_Gift_cost : PySem.W.findIn K (.ref c8) "cost" = some none)
  (n_Gift_since : PySem.W.findIn K (.ref c8) "since" = some none)
  (pg_Buy : PySem.W.plainGet K c9 Str.empty = true)
  (hd_Buy : PySem.W.hasDictIn K c9 = true)
  (po_Buy : PySem.W.plainOver K c9 = true)
  (sa_Buy : PySem.W.findIn K (.ref c9) "__setattr__" = some (some (.builtin "object.__setattr__")))
  (ha_Buy : PySem.W.findIn K (.ref c9) "__class__" = some (some (.builtin "object.__class__")))
  (hm_Buy : PySem.W.mroIn K c9 (.type "object") = some true)
  (n_Buy_day : PySem.W.findIn K (.ref c9) "day" = some none)
  (n_Buy_number : PySem.W.findIn K (.ref c9) "number" = some none)
  (n_Buy_ware : PySem.W.findIn K (.ref c9) "ware" = some none)
  (n_Buy_pieces : PySem.W.findIn K (.ref c9) "pieces" = some none)
  (n_Buy_price : PySem.W.findIn K (.ref c9) "price" = some none)
  (n_Buy_fee : PySem.W.findIn K (.ref c9) "fee" = some none)
  (n_Buy_cost : PySem.W.findIn K (.ref c9) "cost" = some none)
  (pg_Way : PySem.W.plainGet K c10 Str.empty = true)
  (hd_Way : PySem.W.hasDictIn K c10 = true)
  (po_Way : PySem.W.plainOver K c10 = true)
  (sa_Way : PySem.W.findIn K (.ref c10) "__setattr__" = some (some (.builtin "object.__setattr__")))
  (ha_Way : PySem.W.findIn K (.ref c10) "__class__" = some (some (.builtin "object.__class__")))
  (hm_Way : PySem.W.mroIn K c10 (.type "object") = some true)
  (mka_Sale : PySem.W.makesIn K c1 = true)
  (mkb_Sale : PySem.W.findIn K (.ref c1) "__init__" = some (some (.ref f11)))
  (mkc_Sale : PySem.W.isFn K (.ref f11) = true)
  (mkd_Sale : PySem.W.keepIn K (.ref c1) = true)
  (mka_Gift : PySem.W.makesIn K c8 = true)
  (mkb_Gift : PySem.W.findIn K (.ref c8) "__init__" = some (some (.ref f27)))
  (mkc_Gift : PySem.W.isFn K (.ref f27) = true)
  (mkd_Gift : PySem.W.keepIn K (.ref c8) = true)
  (mka_Buy : PySem.W.makesIn K c9 = true)
  (mkb_Buy : PySem.W.findIn K (.ref c9) "__init__" = some (some (.ref f29)))
  (mkc_Buy : PySem.W.isFn K (.ref f29) = true)
  (mkd_Buy : PySem.W.keepIn K (.ref c9) = true)
  (mka_Lot : PySem.W.makesIn K c2 = true)
  (mkb_Lot : PySem.W.findIn K (.ref c2) "__init__" = some (some (.ref f40)))
  (mkc_Lot : PySem.W.isFn K (.ref f40) = true)
  (mkd_Lot : PySem.W.keepIn K (.ref c2) = true)
  (mka_Book : PySem.W.makesIn K c0 = true)
  (mkb_Book : PySem.W.findIn K (.ref c0) "__init__" = some (some (.ref f4)))
  (mkc_Book : PySem.W.isFn K (.ref f4) = true)
  (mkd_Book : PySem.W.keepIn K (.ref c0) = true)
  (m0a_Eldest : PySem.W.makesIn K c3 = true)
  (m0b_Eldest : PySem.W.findIn K (.ref c3) "__init__" = some (some (.builtin "object.__init__")))
  (m0c_Eldest : PySem.W.keepIn K (.ref c3) = true)
  (m0a_Newest : PySem.W.makesIn K c4 = true)
  (m0b_Newest : PySem.W.findIn K (.ref c4) "__init__" = some (some (.builtin "object.__init__")))
  (m0c_Newest : PySem.W.keepIn K (.ref c4) = true)
  (m0a_Dearest : PySem.W.makesIn K c5 = true)
  (m0b_Dearest : PySem.W.findIn K (.ref c5) "__init__" = some (some (.builtin "object.__init__")))
  (m0c_Dearest : PySem.W.keepIn K (.ref c5) = true)
  (m0a_Mean : PySem.W.makesIn K c6 = true)
  (m0b_Mean : PySem.W.findIn K (.ref c6) "__init__" = some (some (.builtin "object.__init__")))
  (m0c_Mean : PySem.W.keepIn K (.ref c6) = true)
  (mea_Sale_gain : PySem.W.findIn K (.ref c1) "gain" = some (some (.ref f9)))
  (meb_Sale_gain : PySem.W.isFn K (.ref f9) = true)
  (mea_Lot_told : PySem.W.findIn K (.ref c2) "told" = some (some (.ref f14)))
  (meb_Lot_told : PySem.W.isFn K (.ref f14) = true)
  (mea_Book_sums : PySem.W.findIn K (.ref c0) "sums" = some (some (.ref f10)))
  (meb_Book_sums : PySem.W.isFn K (.ref f10) = true)
  (mea_Book_sales : PySem.W.findIn K (.ref c0) "sales" = some (some (.ref f13)))
  (meb_Book_sales : PySem.W.isFn K (.ref f13) = true)
  (mea_Book_given : PySem.W.findIn K (.ref c0) "given" = some (some (.ref f15)))
  (meb_Book_given : PySem.W.isFn K (.ref f15) = true)
  (mea_Eldest_word : PySem.W.findIn K (.ref c3) "word" = some (some (.ref f17)))
  (meb_Eldest_word : PySem.W.isFn K (.ref f17) = true)
  (mea_Newest_word : PySem.W.findIn K (.ref c4) "word" = some (some (.ref f18)))
  (meb_Newest_word : PySem.W.isFn K (.ref f18) = true)
  (mea_Dearest_word : PySem.W.findIn K (.ref c5) "word" = some (some (.ref f19)))
  (meb_Dearest_word : PySem.W.isFn K (.ref f19) = true)
  (mea_Mean_word : PySem.W.findIn K (.ref c6) "word" = some (some (.ref f20)))
  (meb_Mean_word : PySem.W.isFn K (.ref f20) = true)
  (mea_Book_held : PySem.W.findIn K (.ref c0) "held" = some (some (.ref f33)))
  (meb_Book_held : PySem.W.isFn K (.ref f33) = true)
  (mea_Book_row_of : PySem.W.findIn K (.ref c0) "row_of" = some (some (.ref f31)))
  (meb_Book_row_of : PySem.W.isFn K (.ref f31) = true)
  (mea_Lot_with_more : PySem.W.findIn K (.ref c2) "with_more" = some (some (.ref f41)))
  (meb_Lot_with_more : PySem.W.isFn K (.ref f41) = true)
  (mea_Book_keep_row : PySem.W.findIn K (.ref c0) "keep_row" = some (some (.ref f38)))
  (meb_Book_keep_row : PySem.W.isFn K (.ref f38) = true)
  (mea_Book_put : PySem.W.findIn K (.ref c0) "put" = some (some (.ref f43)))
  (meb_Book_put : PySem.W.isFn K (.ref f43) = true)
  (mea_Book_lay_on : PySem.W.findIn K (.ref c0) "lay_on" = some (some (.ref f44)))
  (meb_Book_lay_on : PySem.W.isFn K (.ref f44) = true)
  (mea_Book_do_buy : PySem.W.findIn K (.ref c0) "do_buy" = some (some (.ref f45)))
  (meb_Book_do_buy : PySem.W.isFn K (.ref f45) = true)
  (mea_Book_do_gift : PySem.W.findIn K (.ref c0) "do_gift" = some (some (.ref f46)))
  (meb_Book_do_gift : PySem.W.isFn K (.ref f46) = true)
  (mea_Book_do_by_kind : PySem.W.findIn K (.ref c0) "do_by_kind" = some (some (.ref f47)))
  (meb_Book_do_by_kind : PySem.W.isFn K (.ref f47) = true)
  (mea_Buy_held_behind : PySem.W.findIn K (.ref c9) "held_behind" = some (some (.ref f51)))
  (meb_Buy_held_behind : PySem.W.isFn K (.ref f51) = true)
  (mea_Gift_held_behind : PySem.W.findIn K (.ref c8) "held_behind" = some (some (.ref f52)))
  (meb_Gift_held_behind : PySem.W.isFn K (.ref f52) = true)
  (mea_Book_do : PySem.W.findIn K (.ref c0) "do" = some (some (.ref f53)))
  (meb_Book_do : PySem.W.isFn K (.ref f53) = true)
  (mea_Buy_word : PySem.W.findIn K (.ref c9) "word" = some (some (.ref f54)))
  (meb_Buy_word : PySem.W.isFn K (.ref f54) = true)
  (mea_Gift_word : PySem.W.findIn K (.ref c8) "word" = some (some (.ref f55)))
  (meb_Gift_word : PySem.W.isFn K (.ref f55) = true)
  (cfa_Entry___init__ : PySem.W.specialIn K (.ref c7) "__getattribute__" = some (some (.builtin "type.__getattribute__")))
  (cfb_Entry___init__ : PySem.W.readsIn K c7 (.type "type") = true)
  (cfc_Entry___init__ : PySem.W.findCls K (.ref c7) (.type "type") "__init__" = some (.val (.ref f26)))
  {cT PT : Addr}
  (lamc : cd56 = .ref cT)
  (lamC : PySem.W.codeHdIn K cT PT = true)
  (w_ki_Lot : PySem.W.kitOne K (.ref c2) (.ref c2) = some true)
  (w_ki_BB : PySem.W.kitOne K (.ref c9) (.ref c9) = some true)
  (w_ki_GB : PySem.W.kitOne K (.ref c8) (.ref c9) = some false)
  (w_ki_GG : PySem.W.kitOne K (.ref c8) (.ref c8) = some true)
  : ∃ fd : FuncData, (∀ (s : Shared) (v : Value), BindsTo s fd ⟨[v], []⟩ [("_law_script", v)]) /\ (∃ c, PySem.W.codeHdIn K c PT = true) /\ ∀ base : Heap, K.In base -> base.Ns mainGlobals mg -> base.BuiltinsAt mg PT -> FnOk l.prog w K mg base CX0 9 fa fd ["_law_script"] (sp_law K PT) := by
 have e := hfa.symm.trans (PySem.W.mg_of X G a56)
 cases e
 have T : Txt K mg ⟨f0, f1, f2, f3, f4, f5, f6, f7, f8, f9, f10, f11, f12, f13, f14, f15, f16, f17, f18, f19, f20, f21, f22, f23, f24, f25, f26, f27, f28, f29, f30, f31, f32, f33, f34, f35, f36, f37, f38, f39, f40, f41, f42, f43, f44, f45, f46, f47, f48, f49, f50, f51, f52, f53, f54, f55, fa, c0, c1, c2, c3, c4, c5, c6, c7, c8, c9, c10, t_MOST_LETTERS, t_MOST_DAY, t_MOST_NUMBER, t_MOST_PIECES, t_MOST_GIFT_COST, t_MOST_PRICE, t_MOST_FEE, cT, PT⟩ ⟨_, _, _, _, _, _, _, _, _, _, _, _, _, _, _, _, _, _, _, _, _, _, _, _, _, _, _, _, _, _, _, _, _, _, _, _, _, _, _, _, _, _, _, _, _, _, _, _, _, _, _, _, _, _, _, _, _⟩ := ⟨PySem.W.mg_of X G a0, k0, fun_mk (st := s__law_cell_at) l0 d0 k0, PySem.W.mg_of X G a1, k1, fun_mk (st := s__law_mixed) l1 d1 k1, PySem.W.mg_of X G a2, k2, fun_mk (st := s__law_chunks) l2 d2 k2, PySem.W.mg_of X G a3, k3, fun_mk (st := s__law_wares) l3 d3 k3, fun_mk (st := s_Book___init__) l4 d4 k4, PySem.W.mg_of X G a5, k5, fun_mk (st := s__law_small) l5 d5 k5, PySem.W.mg_of X G a6, k6, fun_mk (st := s__law_days) l6 d6 k6, PySem.W.mg_of X G a7, k7, fun_mk (st := s_cost_of_parts) l7 d7 k7, PySem.W.mg_of X G a8, k8, fun_mk (st := s_cost_in) l8 d8 k8, fun_mk (st := s_Sale_gain) l9 d9 k9, fun_mk (st := s_Book_sums) l10 d10 k10, fun_mk (st := s_Sale___init__) l11 d11 k11, PySem.W.mg_of X G a12, k12, fun_mk (st := s_copy_of_sale) l12 d12 k12, fun_mk (st := s_Book_sales) l13 d13 k13, fun_mk (st := s_Lot_told) l14 d14 k14, fun_mk (st := s_Book_given) l15 d15 k15, PySem.W.mg_of X G a16, k16, fun_mk (st := s__law_sums_good) l16 d16 k16, fun_mk (st := s_Eldest_word) l17 d17 k17, fun_mk (st := s_Newest_word) l18 d18 k18, fun_mk (st := s_Dearest_word) l19 d19 k19, fun_mk (st := s_Mean_word) l20 d20 k20, PySem.W.mg_of X G a21, k21, fun_mk (st := s_way_by) l21 d21 k21, PySem.W.mg_of X G a22, k22, fun_mk (st := s_is_whole_number) l22 d22 k22, PySem.W.mg_of X G a23, k23, fun_mk (st := s_check_number) l23 d23 k23, PySem.W.mg_of X G a24, k24, fun_mk (st := s_is_name) l24 d24 k24, PySem.W.mg_of X G a25, k25, fun_mk (st := s_check_name) l25 d25 k25, fun_mk (st := s_Entry___init__) l26 d26 k26, fun_mk (st := s_Gift___init__) l27 d27 k27, PySem.W.mg_of X G a28, k28, fun_mk (st := s_check_trade) l28 d28 k28, funD_mk (st := s_Buy___init__) (its := [.int 0 tk29_0]) l29 d29 k29 lt29 rfl (.cons ⟨_, rfl⟩ .nil), PySem.W.mg_of X G a30, k30, fun_mk (st := s__law_entry) l30 d30 k30, fun_mk (st := s_Book_row_of) l31 d31 k31, PySem.W.mg_of X G a32, k32, fun_mk (st := s_pieces_in) l32 d32 k32, fun_mk (st := s_Book_held) l33 d33 k33, PySem.W.mg_of X G a34, k34, fun_mk (st := s__law_pieces) l34 d34 k34, PySem.W.mg_of X G a35, k35, fun_mk (st := s__law_whole) l35 d35 k35, PySem.W.mg_of X G a36, k36, fun_mk (st := s__law_is_row) l36 d36 k36, PySem.W.mg_of X G a37, k37, fun_mk (st := s__law_rows_good) l37 d37 k37, fun_mk (st := s_Book_keep_row) l38 d38 k38, PySem.W.mg_of X G a39, k39, fun_mk (st := s_place_in_row) l39 d39 k39, fun_mk (st := s_Lot___init__) l40 d40 k40, fun_mk (st := s_Lot_with_more) l41 d41 k41, PySem.W.mg_of X G a42, k42, fun_mk (st := s_row_with) l42 d42 k42, fun_mk (st := s_Book_put) l43 d43 k43, fun_mk (st := s_Book_lay_on) l44 d44 k44, fun_mk (st := s_Book_do_buy) l45 d45 k45, fun_mk (st := s_Book_do_gift) l46 d46 k46, fun_mk (st := s_Book_do_by_kind) l47 d47 k47, PySem.W.mg_of X G a48, k48, fun_mk (st := s_place_of) l48 d48 k48, PySem.W.mg_of X G a49, k49, fun_mk (st := s_held_with) l49 d49 k49, PySem.W.mg_of X G a50, k50, fun_mk (st := s_held_with_more) l50 d50 k50, fun_mk (st := s_Buy_held_behind) l51 d51 k51, fun_mk (st := s_Gift_held_behind) l52 d52 k52, fun_mk (st := s_Book_do) l53 d53 k53, fun_mk (st := s_Buy_word) l54 d54 k54, fun_mk (st := s_Gift_word) l55 d55 k55, PySem.W.mg_of X G a56, k56, fun_mk (st := s_law) l56 d56 k56, PySem.W.mg_none_of X G z_len, PySem.W.mg_none_of X G z_range, PySem.W.mg_none_of X G z_max, PySem.W.mg_none_of X G z_min, PySem.W.mg_none_of X G z_sorted, PySem.W.mg_none_of X G z_sum, PySem.W.mg_none_of X G z_list, PySem.W.mg_none_of X G z_isinstance, PySem.W.mg_none_of X G z_int, PySem.W.mg_none_of X G z_bool, PySem.W.mg_none_of X G z_all, PySem.W.mg_none_of X G z_str, PySem.W.mg_none_of X G z_dict, PySem.W.mg_none_of X G z_zip, PySem.W.mg_none_of X G z_any, PySem.W.mg_of X G u_Book, PySem.W.mg_of X G u_Sale, PySem.W.mg_of X G u_Lot, PySem.W.mg_of X G u_Eldest, PySem.W.mg_of X G u_Newest, PySem.W.mg_of X G u_Dearest, PySem.W.mg_of X G u_Mean, PySem.W.mg_of X G u_Entry, PySem.W.mg_of X G u_Gift, PySem.W.mg_of X G u_Buy, PySem.W.mg_of X G u_Way, PySem.W.mg_of X G g_MOST_LETTERS, PySem.W.mg_of X G g_MOST_DAY, PySem.W.mg_of X G g_MOST_NUMBER, PySem.W.mg_of X G g_MOST_PIECES, PySem.W.mg_of X G g_MOST_GIFT_COST, PySem.W.mg_of X G g_MOST_PRICE, PySem.W.mg_of X G g_MOST_FEE, ⟨pg_Book, hd_Book, po_Book, sa_Book⟩, ⟨⟨pg_Book, hd_Book, po_Book, sa_Book⟩, ha_Book, oc_n, oc_t, hm_Book⟩, n_Book_way, n_Book_rows, n_Book_last_place, n_Book_paid, n_Book_brought, n_Book_sales_done, n_Book_givings_done, ⟨pg_Sale, hd_Sale, po_Sale, sa_Sale⟩, ⟨⟨pg_Sale, hd_Sale, po_Sale, sa_Sale⟩, ha_Sale, oc_n, oc_t, hm_Sale⟩, n_Sale_number, n_Sale_day, n_Sale_ware, n_Sale_proceeds, n_Sale_parts, n_Sale_laid_on, ⟨pg_Lot, hd_Lot, po_Lot, sa_Lot⟩, ⟨⟨pg_Lot, hd_Lot, po_Lot, sa_Lot⟩, ha_Lot, oc_n, oc_t, hm_Lot⟩, n_Lot_number, n_Lot_since, n_Lot_pieces, n_Lot_cost, ⟨pg_Eldest, hd_Eldest, po_Eldest, sa_Eldest⟩, ⟨⟨pg_Eldest, hd_Eldest, po_Eldest, sa_Eldest⟩, ha_Eldest, oc_n, oc_t, hm_Eldest⟩, ⟨pg_Newest, hd_Newest, po_Newest, sa_Newest⟩, ⟨⟨pg_Newest, hd_Newest, po_Newest, sa_Newest⟩, ha_Newest, oc_n, oc_t, hm_Newest⟩, ⟨pg_Dearest, hd_Dearest, po_Dearest, sa_Dearest⟩, ⟨⟨pg_Dearest, hd_Dearest, po_Dearest, sa_Dearest⟩, ha_Dearest, oc_n, oc_t, hm_Dearest⟩, ⟨pg_Mean, hd_Mean, po_Mean, sa_Mean⟩, ⟨⟨pg_Mean, hd_Mean, po_Mean, sa_Mean⟩, ha_Mean, oc_n, oc_t, hm_Mean⟩, ⟨pg_Entry, hd_Entry, po_Entry, sa_Entry⟩, ⟨⟨pg_Entry, hd_Entry, po_Entry, sa_Entry⟩, ha_Entry, oc_n, oc_t, hm_Entry⟩, n_Entry_day, n_Entry_number, n_Entry_ware, ⟨pg_Gift, hd_Gift, po_Gift, sa_Gift⟩, ⟨⟨pg_Gift, hd_Gift, po_Gift, sa_Gift⟩, ha_Gift, oc_n, oc_t, hm_Gift⟩, n_Gift_day, n_Gift_number, n_Gift_ware, n_Gift_pieces, n_Gift_cost, n_Gift_since, ⟨pg_Buy, hd_Buy, po_Buy, sa_Buy⟩, ⟨⟨pg_Buy, hd_Buy, po_Buy, sa_Buy⟩, ha_Buy, oc_n, oc_t, hm_Buy⟩, n_Buy_day, n_Buy_number, n_Buy_ware, n_Buy_pieces, n_Buy_price, n_Buy_fee, n_Buy_cost, ⟨pg_Way, hd_Way, po_Way, sa_Way⟩, ⟨⟨pg_Way, hd_Way, po_Way, sa_Way⟩, ha_Way, oc_n, oc_t, hm_Way⟩, ⟨mka_Sale, mkb_Sale, mkc_Sale, mkd_Sale⟩, ⟨mka_Gift, mkb_Gift, mkc_Gift, mkd_Gift⟩, ⟨mka_Buy, mkb_Buy, mkc_Buy, mkd_Buy⟩, ⟨mka_Lot, mkb_Lot, mkc_Lot, mkd_Lot⟩, ⟨mka_Book, mkb_Book, mkc_Book, mkd_Book⟩, ⟨m0a_Eldest, m0b_Eldest, m0c_Eldest⟩, ⟨m0a_Newest, m0b_Newest, m0c_Newest⟩, ⟨m0a_Dearest, m0b_Dearest, m0c_Dearest⟩, ⟨m0a_Mean, m0b_Mean, m0c_Mean⟩, ⟨mea_Sale_gain, meb_Sale_gain, k9⟩, ⟨mea_Lot_told, meb_Lot_told, k14⟩, ⟨mea_Book_sums, meb_Book_sums, k10⟩, ⟨mea_Book_sales, meb_Book_sales, k13⟩, ⟨mea_Book_given, meb_Book_given, k15⟩, ⟨mea_Eldest_word, meb_Eldest_word, k17⟩, ⟨mea_Newest_word, meb_Newest_word, k18⟩, ⟨mea_Dearest_word, meb_Dearest_word, k19⟩, ⟨mea_Mean_word, meb_Mean_word, k20⟩, ⟨mea_Book_held, meb_Book_held, k33⟩, ⟨mea_Book_row_of, meb_Book_row_of, k31⟩, ⟨mea_Lot_with_more, meb_Lot_with_more, k41⟩, ⟨mea_Book_keep_row, meb_Book_keep_row, k38⟩, ⟨mea_Book_put, meb_Book_put, k43⟩, ⟨mea_Book_lay_on, meb_Book_lay_on, k44⟩, ⟨mea_Book_do_buy, meb_Book_do_buy, k45⟩, ⟨mea_Book_do_gift, meb_Book_do_gift, k46⟩, ⟨mea_Book_do_by_kind, meb_Book_do_by_kind, k47⟩, ⟨mea_Buy_held_behind, meb_Buy_held_behind, k51⟩, ⟨mea_Gift_held_behind, meb_Gift_held_behind, k52⟩, ⟨mea_Book_do, meb_Book_do, k53⟩, ⟨mea_Buy_word, meb_Buy_word, k54⟩, ⟨mea_Gift_word, meb_Gift_word, k55⟩, ⟨cfa_Entry___init__, cfb_Entry___init__, cfc_Entry___init__⟩, lamc, lamC, w_ki_Lot, w_ki_BB, w_ki_GB, w_ki_GG⟩
 exact ⟨_, fun s v => .of_eq rfl, ⟨_, lamC⟩, fun base _ _ hB => ok_law T hB⟩
theorem walk {l : PySem.W.OpenLaw} {q : Program} {loose : List Str} {XP : (Str -> Option Value) -> Heap -> Prop} {YP : World -> Heap -> Prop} {d : DefRec} {K : Params -> Fg_} {PT : Addr} (hn : l.most = some 63) (hdf : d.params.defaults = [])
  (hY : ∀ (w : World) (h : Heap), YP w h -> (K w.params).In h /\ h.get? PT = some (PySem.W.tabObj #[])) (hKT : ∀ w : World, (K w.params).lookup PT = none)
  (F : ∀ (w : World) (mg : Str -> Option Value) (fa : Addr) (h : Heap), (K w.params).In h -> h.Ns mainGlobals mg -> mg d.name = some (.ref fa) ->
   ∃ fd : FuncData, (∀ (s : Shared) (u : Value), BindsTo s fd ⟨[u], []⟩ [("_law_script", u)]) /\ (∃ c, PySem.W.codeHdIn (K w.params) c PT = true) /\ ∀ base : Heap, (K w.params).In base -> base.Ns mainGlobals mg -> base.BuiltinsAt mg PT -> FnOk l.prog w (K w.params) mg base CX0 9 fa fd ["_law_script"] (sp_law (K w.params) PT)) :
  PySem.W.WalkO q loose XP YP l.row.toRowW d [] (fun f vs => PySem.call f vs) :=
 L2.walk_ofT (n := 63) (k := 9) (x := "_law_script") (CX := fun _ => CX0) (sp := fun w => sp_law (K w.params) PT) hn (by decide) hdf ⟨rfl, by decide, by decide⟩ hY hKT F (fun _ _ a ns hl hP hS => ⟨a, ns, rfl, hS, hl, hP, fun _ => rfl⟩) fun _ _ _ _ _ z => z
end My
namespace PySem.W.Fast
def tw9556516657627883955:=0
def tw12080240993093583197:=0
def tw5076070005369475025:=0
def tw18338585992231060878:=0
def tw8143144557064455169:=0
def tw6655917266410155448:=0
def tw13501369962739016787:=0
def tw5441047413848130133:=0
def tw3457033269772144599:=0
def tw3858066301720456961:=0
def tw15204036666556826279:=0
def tw2548995150140959403:=0
def tw11097597946387187368:=0
def tw1796720470977961585:=0
def tw12857937356035550604:=0
def tw4457924822030718279:=0
def tw13841090603719250104:=0
def tw17697244299567122321:=0
def tw2089553876799989730:=0
def tw8408820840384059044:=0
def tw1197617045865010371:=0
def tw8230987954517091039:=0
def tw10341584558279411862:=0
def tw17247507640624246167:=0
def tw13423597610122125914:=0
def tw5106113560282946817:=0
def tw11494674958567876468:=0
def tw5294314846325511497:=0
def tw1766670931614096580:=0
def tw5679940179569228043:=0
def tw15134512304339097853:=0
def tw12002481191324688812:=0
def tw15614486448167562133:=0
def tw9857707841011670821:=0
def tw5032524664199437892:=0
def tw10697586765002343162:=0
def tw5981109322280969263:=0
def tw11455828481618828200:=0
def tw10915882452175770927:=0
def tw14627277560916663861:=0
def tw15987332427924609696:=0
def tw16284970005504541174:=0
def tw13905507767003218848:=0
def tw3492201823581137737:=0
def tw8504869090405754317:=0
def tw11614710547430952917:=0
def tw16918095969852923488:=0
def tw17621604505995481767:=0
def tw14780406684442353319:=0
def tw2868004277939739033:=0
def tw8895842292128415948:=0
def tw4110919006824199352:=0
def tw1689970349198090924:=0
def tw14648101795092419778:=0
def tw9496899169530422193:=0
def tw9256590853293181221:=0
def tw14164290845315726424:=0
def tw175307758957863556:=0
def tw9519309801688934991:=0
def tw17690024485142476862:=0
def tw11596555305241262092:=0
def tw4423401332975910093:=0
def tw16818605430976501671:=0
def tw18161725917307687067:=0
def tw17111434371604885641:=0
def tw3248920036397278874:=0
def tw1884732820561176736:=0
def tw6042903401790726715:=0
def tw1657693401125710488:=0
def tw3609652638944944120:=0
def tw12006180269835406803:=0
def tw7524705383107424914:=0
def tw10486505383677339746:=0
def tw12973093009595189499:=0
def tw15992842482356527764:=0
def tw99371732078033141:=0
def tw10594377871557511313:=0
def tw10406253155536568046:=0
def tw3317288585528224215:=0
def tw11689530897803018664:=0
def tw17854955414969362282:=0
def tw11169973338541581376:=0
def tw4161250975105901502:=0
def tw11201144686485204194:=0
def tw824552450003727785:=0
def tw4887306867370966694:=0
def tw15454429282272393623:=0
def tw14255337493997011293:=0
def tw9320798818498995178:=0
def tw4717363806691196101:=0
def tw17250963801853438336:=0
def tw5389051084898108909:=0
def tw13509944339738997753:=0
def tw7222397204551537787:=0
def tw8436744649033914330:=0
def tw275603879225938198:=0
def tw15341181372908032300:=0
def tw5789360717840506932:=0
def tw7507285931816036595:=0
def tw7715652694580845496:=0
def tw10705796158257892640:=0
def tw421746679353997370:=0
def tw4587209155142964140:=0
def tw7195406420822356892:=0
def tw13181805836552892097:=0
def tw1175098675234965410:=0
def tw7134452033214791006:=0
def tw905384003648397237:=0
def tw10367310900381908025:=0
def tw4314743709776495255:=0
def tw2834142812567575665:=0
def tw2601149558230450716:=0
def tw7587259957526825170:=0
def tw7338960494651085437:=0
def tw15107282220618333786:=0
def tw2281442624375228556:=0
def tw4438290688386818643:=0
def tw11023659652917096625:=0
def tw17791518345953742640:=0
def tw15821713879511318982:=0
def tw2297998338149342675:=0
def tw9882084066149245366:=0
def tw72489210070864768:=0
def tw17504667840387831970:=0
def tw6639795816196052972:=0
def tw15976794864445007639:=0
def tw16199193430808540439:=0
def tw14614556557365399157:=0
def tw10078275527326943815:=0
def tw5780955531914512012:=0
def tw6140831271825441582:=0
def tw17867347550841714015:=0
def tw16718324557662410696:=0
def tw7037770837841390422:=0
def tw10198089745940313579:=0
def tw16218898680194831183:=0
def tw10524007595999500875:=0
def tw7400150226718468747:=0
def tw9325545913953266476:=0
def tw544792381449678489:=0
def tw6689634488015249352:=0
def tw8842875128272992984:=0
def tw5665207507008878804:=0
def tw1951611997846635754:=0
def tw2150622508334223626:=0
def tw13891903663475402102:=0
def tw2212692120616670831:=0
def tw12160110952383538822:=0
def tw1610620477096284223:=0
def tw7692950598597504114:=0
def tw3123232077774990619:=0
def tw7709946651134510114:=0
def tw5715860800096346050:=0
def tw7711023200803367725:=0
def tw8064023782818786201:=0
def tw15609411528900898905:=0
def tw1406383102059473944:=0
def tw4321009345686783497:=0
def tw13453577857499746109:=0
def tw5446695277987352730:=0
def tw2344296050079077747:=0
def tw18010897055231549076:=0
def tw1813142244938680454:=0
def tw9587116213597940685:=0
def tw949923342603798828:=0
def tw809887465009833978:=0
def tw8735774057822225735:=0
def tw9111899207104465144:=0
def tw139409553192455190:=0
def tw14311601899505915552:=0
def tw8288091876756010101:=0
def tw151432182059435228:=0
def tw3826614010675100432:=0
def tw7520700040280221564:=0
def tw5750772936898513947:=0
def tw10350512150615195922:=0
def tw4385852111673636625:=0
def tw1281141117987642035:=0
def tw1666555338731301279:=0
def tw2748439922111402087:=0
def tw3806120275823187513:=0
def tw12185937782328412752:=0
def tw4560251340379380137:=0
def tw9031019799709703652:=0
def tw13347134469367816407:=0
def tw11073289788578571852:=0
def tw15602847724573412151:=0
def tw17887271279681050144:=0
def tw4001537042759456515:=0
def tw11258888196927452887:=0
def tw18399499491736391550:=0
def tw6914562975761981448:=0
def tw6615292063112512225:=0
def tw4228289869853145317:=0
def tw12288639226854923119:=0
def tw5308075049461680979:=0
def tw18215161050100248610:=0
def tw6315480401610397245:=0
def tw16173748081328802044:=0
def tw15115292608512341027:=0
def tw9413549691494009200:=0
def tw16959354691592801267:=0
def tw1875371149554992186:=0
def tw2148658181122989235:=0
def tw16735305406681560547:=0
def tw5247373425005661824:=0
def tw6503580398140944901:=0
def tw17525067517913626185:=0
def tw15114134126200797908:=0
def tw2926304484725111265:=0
def tw4563580937285353750:=0
def tw2493027448733540006:=0
def tw5125170721212033483:=0
def tw15294272476421223554:=0
def tw11683669519407546514:=0
def tw3448325859726835761:=0
def tw6558065185801074551:=0
def tw10729198090922515311:=0
def tw9429799749956751078:=0
def tw10368112715321646390:=0
def tw15830157243461092275:=0
def tw3803718811494866306:=0
def tw16572684219347220453:=0
def tw11680365363032419985:=0
def tw14817528622084624999:=0
def tw11460934256662710154:=0
def tw5652523997277798754:=0
def tw11079788114234442789:=0
def tw796938635086806840:=0
def tw12302795676988773261:=0
def tw1562156148773925194:=0
def tw8294366173385664688:=0
def tw1999363429842600826:=0
def tw6419538065366351205:=0
def tw13880631834729714091:=0
def tw7803046810220443749:=0
def tw18234955630363538412:=0
def tw16199306276766124652:=0
def tw13538808335694243360:=0
def tw10253403103228874670:=0
def tw4123050230757390216:=0
def tw4104291231608744784:=0
def tw18345971054722463638:=0
def tw15076364896140000969:=0
def tw8859217544289539993:=0
def tw12322293581460402636:=0
def tw6034494155093437891:=0
def tw17282196448147038413:=0
def tw9465971348114503451:=0
def tw16190257632629775806:=0
def tw2633746957739413477:=0
def tw7599747515511046444:=0
def tw18310461813725243516:=0
def tw15010307166552547319:=0
def tw8297377213991571982:=0
def tw11033249991234402317:=0
def tw7040830307571297755:=0
def tw5561071279227120124:=0
def tw10926646332817318668:=0
def tw17756407832546321813:=0
def tw4892664488897623748:=0
def tw16984517732358703612:=0
def tw2165158311048568753:=0
def tw16142945212383303743:=0
def tw14049397994906771201:=0
def tw1064245049759281272:=0
def tw838192355438653466:=0
def tw5607422124437428559:=0
def tw15160550548747655546:=0
def tw17209118694436101368:=0
def tw12989540479068035600:=0
def tw5463261070704056769:=0
end PySem.W.Fast
open PySem PySem.W PyProof.Rows
set_option maxRecDepth 100000 in
set_option maxHeartbeats 0 in
theorem PySem.Challenge.cw_lotledger_k50_bought_and_brought_holds : PySem.Challenge.rw_lotledger_k50_bought_and_brought.Holds := by
 w_on; o_law; k_head; (case hw => w_witness2)
 k_fill
 refine My.walk (l := PySem.Challenge.rw_lotledger_k50_bought_and_brought) rfl rfl (fun w h Y => ⟨PySem.W.km_in_of Y, PySem.W.km_tabs_of Y _ List.mem_cons_self⟩) ?T ?F
 case T => intro w; kernel_rfl
 case F =>
  intro w mg fa h KX G hmg
  refine' My.all_mk KX G hmg ?u_Book ?u_Sale ?u_Lot ?u_Eldest ?u_Newest ?u_Dearest ?u_Mean ?u_Entry ?u_Gift ?u_Buy ?u_Way ?a0 ?l0 ?d0 ?k0 ?a1 ?l1 ?d1 ?k1 ?a2 ?l2 ?d2 ?k2 ?a3 ?l3 ?d3 ?k3 ?a4 ?l4 ?d4 ?k4 ?a5 ?l5 ?d5 ?k5 ?a6 ?l6 ?d6 ?k6 ?a7 ?l7 ?d7 ?k7 ?a8 ?l8 ?d8 ?k8 ?a9 ?l9 ?d9 ?k9 ?a10 ?l10 ?d10 ?k10 ?a11 ?l11 ?d11 ?k11 ?a12 ?l12 ?d12 ?k12 ?a13 ?l13 ?d13 ?k13 ?a14 ?l14 ?d14 ?k14 ?a15 ?l15 ?d15 ?k15 ?a16 ?l16 ?d16 ?k16 ?a17 ?l17 ?d17 ?k17 ?a18 ?l18 ?d18 ?k18 ?a19 ?l19 ?d19 ?k19 ?a20 ?l20 ?d20 ?k20 ?a21 ?l21 ?d21 ?k21 ?a22 ?l22 ?d22 ?k22 ?a23 ?l23 ?d23 ?k23 ?a24 ?l24 ?d24 ?k24 ?a25 ?l25 ?d25 ?k25 ?a26 ?l26 ?d26 ?k26 ?a27 ?l27 ?d27 ?k27 ?a28 ?l28 ?d28 ?k28 ?a29 ?l29 ?d29 ?k29 ?lt29 ?a30 ?l30 ?d30 ?k30 ?a31 ?l31 ?d31 ?k31 ?a32 ?l32 ?d32 ?k32 ?a33 ?l33 ?d33 ?k33 ?a34 ?l34 ?d34 ?k34 ?a35 ?l35 ?d35 ?k35 ?a36 ?l36 ?d36 ?k36 ?a37 ?l37 ?d37 ?k37 ?a38 ?l38 ?d38 ?k38 ?a39 ?l39 ?d39 ?k39 ?a40 ?l40 ?d40 ?k40 ?a41 ?l41 ?d41 ?k41 ?a42 ?l42 ?d42 ?k42 ?a43 ?l43 ?d43 ?k43 ?a44 ?l44 ?d44 ?k44 ?a45 ?l45 ?d45 ?k45 ?a46 ?l46 ?d46 ?k46 ?a47 ?l47 ?d47 ?k47 ?a48 ?l48 ?d48 ?k48 ?a49 ?l49 ?d49 ?k49 ?a50 ?l50 ?d50 ?k50 ?a51 ?l51 ?d51 ?k51 ?a52 ?l52 ?d52 ?k52 ?a53 ?l53 ?d53 ?k53 ?a54 ?l54 ?d54 ?k54 ?a55 ?l55 ?d55 ?k55 ?a56 ?l56 ?d56 ?k56 ?z_len ?z_range ?z_max ?z_min ?z_sorted ?z_sum ?z_list ?z_isinstance ?z_int ?z_bool ?z_all ?z_str ?z_dict ?z_zip ?z_any ?g_MOST_LETTERS ?g_MOST_DAY ?g_MOST_NUMBER ?g_MOST_PIECES ?g_MOST_GIFT_COST ?g_MOST_PRICE ?g_MOST_FEE ?oc_n ?oc_t ?pg_Book ?hd_Book ?po_Book ?sa_Book ?ha_Book ?hm_Book ?n_Book_way ?n_Book_rows ?n_Book_last_place ?n_Book_paid ?n_Book_brought ?n_Book_sales_done ?n_Book_givings_done ?pg_Sale ?hd_Sale ?po_Sale ?sa_Sale ?ha_Sale ?hm_Sale ?n_Sale_number ?n_Sale_day ?n_Sale_ware ?n_Sale_proceeds ?n_Sale_parts ?n_Sale_laid_on ?pg_Lot ?hd_Lot ?po_Lot ?sa_Lot ?ha_Lot ?hm_Lot ?n_Lot_number ?n_Lot_since ?n_Lot_pieces ?n_Lot_cost ?pg_Eldest ?hd_Eldest ?po_Eldest ?sa_Eldest ?ha_Eldest ?hm_Eldest ?pg_Newest ?hd_Newest ?po_Newest ?sa_Newest ?ha_Newest ?hm_Newest ?pg_Dearest ?hd_Dearest ?po_Dearest ?sa_Dearest ?ha_Dearest ?hm_Dearest ?pg_Mean ?hd_Mean ?po_Mean ?sa_Mean ?ha_Mean ?hm_Mean ?pg_Entry ?hd_Entry ?po_Entry ?sa_Entry ?ha_Entry ?hm_Entry ?n_Entry_day ?n_Entry_number ?n_Entry_ware ?pg_Gift ?hd_Gift ?po_Gift ?sa_Gift ?ha_Gift ?hm_Gift ?n_Gift_day ?n_Gift_number ?n_Gift_ware ?n_Gift_pieces ?n_Gift_cost ?n_Gift_since ?pg_Buy ?hd_Buy ?po_Buy ?sa_Buy ?ha_Buy ?hm_Buy ?n_Buy_day ?n_Buy_number ?n_Buy_ware ?n_Buy_pieces ?n_Buy_price ?n_Buy_fee ?n_Buy_cost ?pg_Way ?hd_Way ?po_Way ?sa_Way ?ha_Way ?hm_Way ?mka_Sale ?mkb_Sale ?mkc_Sale ?mkd_Sale ?mka_Gift ?mkb_Gift ?mkc_Gift ?mkd_Gift ?mka_Buy ?mkb_Buy ?mkc_Buy ?mkd_Buy ?mka_Lot ?mkb_Lot ?mkc_Lot ?mkd_Lot ?mka_Book ?mkb_Book ?mkc_Book ?mkd_Book ?m0a_Eldest ?m0b_Eldest ?m0c_Eldest ?m0a_Newest ?m0b_Newest ?m0c_Newest ?m0a_Dearest ?m0b_Dearest ?m0c_Dearest ?m0a_Mean ?m0b_Mean ?m0c_Mean ?mea_Sale_gain ?meb_Sale_gain ?mea_Lot_told ?meb_Lot_told ?mea_Book_sums ?meb_Book_sums ?mea_Book_sales ?meb_Book_sales ?mea_Book_given ?meb_Book_given ?mea_Eldest_word ?meb_Eldest_word ?mea_Newest_word ?meb_Newest_word ?mea_Dearest_word ?meb_Dearest_word ?mea_Mean_word ?meb_Mean_word ?mea_Book_held ?meb_Book_held ?mea_Book_row_of ?meb_Book_row_of ?mea_Lot_with_more ?meb_Lot_with_more ?mea_Book_keep_row ?meb_Book_keep_row ?mea_Book_put ?meb_Book_put ?mea_Book_lay_on ?meb_Book_lay_on ?mea_Book_do_buy ?meb_Book_do_buy ?mea_Book_do_gift ?meb_Book_do_gift ?mea_Book_do_by_kind ?meb_Book_do_by_kind ?mea_Buy_held_behind ?meb_Buy_held_behind ?mea_Gift_held_behind ?meb_Gift_held_behind ?mea_Book_do ?meb_Book_do ?mea_Buy_word ?meb_Buy_word ?mea_Gift_word ?meb_Gift_word ?cfa_Entry___init__ ?cfb_Entry___init__ ?cfc_Entry___init__ ?lamc ?lamC ?w_ki_Lot ?w_ki_BB ?w_ki_GB ?w_ki_GG
  (case u_Book => k_is)
  (case u_Sale => k_is)
  (case u_Lot => k_is)
  (case u_Eldest => k_is)
  (case u_Newest => k_is)
  (case u_Dearest => k_is)
  (case u_Mean => k_is)
  (case u_Entry => k_is)
  (case u_Gift => k_is)
  (case u_Buy => k_is)
  (case u_Way => k_is)
  (case a0 => k_is)
  (case l0 => k_is)
  (case d0 => k_is)
  (case k0 => k_is)
  (case a1 => k_is)
  (case l1 => k_is)
  (case d1 => k_is)
  (case k1 => k_is)
  (case a2 => k_is)
  (case l2 => k_is)
  (case d2 => k_is)
  (case k2 => k_is)
  (case a3 => k_is)
  (case l3 => k_is)
  (case d3 => k_is)
  (case k3 => k_is)
  (case a4 => k_is)
  (case l4 => k_is)
  (case d4 => k_is)
  (case k4 => k_is)
  (case a5 => k_is)
  (case l5 => k_is)
  (case d5 => k_is)
  (case k5 => k_is)
  (case a6 => k_is)
  (case l6 => k_is)
  (case d6 => k_is)
  (case k6 => k_is)
  (case a7 => k_is)
  (case l7 => k_is)
  (case d7 => k_is)
  (case k7 => k_is)
  (case a8 => k_is)
  (case l8 => k_is)
  (case d8 => k_is)
  (case k8 => k_is)
  (case a9 => k_is)
  (case l9 => k_is)
  (case d9 => k_is)
  (case k9 => k_is)
  (case a10 => k_is)
  (case l10 => k_is)
  (case d10 => k_is)
  (case k10 => k_is)
  (case a11 => k_is)
  (case l11 => k_is)
  (case d11 => k_is)
  (case k11 => k_is)
  (case a12 => k_is)
  (case l12 => k_is)
  (case d12 => k_is)
  (case k12 => k_is)
  (case a13 => k_is)
  (case l13 => k_is)
  (case d13 => k_is)
  (case k13 => k_is)
  (case a14 => k_is)
  (case l14 => k_is)
  (case d14 => k_is)
  (case k14 => k_is)
  (case a15 => k_is)
  (case l15 => k_is)
  (case d15 => k_is)
  (case k15 => k_is)
  (case a16 => k_is)
  (case l16 => k_is)
  (case d16 => k_is)
  (case k16 => k_is)
  (case a17 => k_is)
  (case l17 => k_is)
  (case d17 => k_is)
  (case k17 => k_is)
  (case a18 => k_is)
  (case l18 => k_is)
  (case d18 => k_is)
  (case k18 => k_is)
  (case a19 => k_is)
  (case l19 => k_is)
  (case d19 => k_is)
  (case k19 => k_is)
  (case a20 => k_is)
  (case l20 => k_is)
  (case d20 => k_is)
  (case k20 => k_is)
  (case a21 => k_is)
  (case l21 => k_is)
  (case d21 => k_is)
  (case k21 => k_is)
  (case a22 => k_is)
  (case l22 => k_is)
  (case d22 => k_is)
  (case k22 => k_is)
  (case a23 => k_is)
  (case l23 => k_is)
  (case d23 => k_is)
  (case k23 => k_is)
  (case a24 => k_is)
  (case l24 => k_is)
  (case d24 => k_is)
  (case k24 => k_is)
  (case a25 => k_is)
  (case l25 => k_is)
  (case d25 => k_is)
  (case k25 => k_is)
  (case a26 => k_is)
  (case l26 => k_is)
  (case d26 => k_is)
  (case k26 => k_is)
  (case a27 => k_is)
  (case l27 => k_is)
  (case d27 => k_is)
  (case k27 => k_is)
  (case a28 => k_is)
  (case l28 => k_is)
  (case d28 => k_is)
  (case k28 => k_is)
  (case a29 => k_is)
  (case l29 => k_is)
  (case d29 => k_is)
  (case k29 => k_is)
  (case lt29 => k_is)
  (case a30 => k_is)
  (case l30 => k_is)
  (case d30 => k_is)
  (case k30 => k_is)
  (case a31 => k_is)
  (case l31 => k_is)
  (case d31 => k_is)
  (case k31 => k_is)
  (case a32 => k_is)
  (case l32 => k_is)
  (case d32 => k_is)
  (case k32 => k_is)
  (case a33 => k_is)
  (case l33 => k_is)
  (case d33 => k_is)
  (case k33 => k_is)
  (case a34 => k_is)
  (case l34 => k_is)
  (case d34 => k_is)
  (case k34 => k_is)
  (case a35 => k_is)
  (case l35 => k_is)
  (case d35 => k_is)
  (case k35 => k_is)
  (case a36 => k_is)
  (case l36 => k_is)
  (case d36 => k_is)
  (case k36 => k_is)
  (case a37 => k_is)
  (case l37 => k_is)
  (case d37 => k_is)
  (case k37 => k_is)
  (case a38 => k_is)
  (case l38 => k_is)
  (case d38 => k_is)
  (case k38 => k_is)
  (case a39 => k_is)
  (case l39 => k_is)
  (case d39 => k_is)
  (case k39 => k_is)
  (case a40 => k_is)
  (case l40 => k_is)
  (case d40 => k_is)
  (case k40 => k_is)
  (case a41 => k_is)
  (case l41 => k_is)
  (case d41 => k_is)
  (case k41 => k_is)
  (case a42 => k_is)
  (case l42 => k_is)
  (case d42 => k_is)
  (case k42 => k_is)
  (case a43 => k_is)
  (case l43 => k_is)
  (case d43 => k_is)
  (case k43 => k_is)
  (case a44 => k_is)
  (case l44 => k_is)
  (case d44 => k_is)
  (case k44 => k_is)
  (case a45 => k_is)
  (case l45 => k_is)
  (case d45 => k_is)
  (case k45 => k_is)
  (case a46 => k_is)
  (case l46 => k_is)
  (case d46 => k_is)
  (case k46 => k_is)
  (case a47 => k_is)
  (case l47 => k_is)
  (case d47 => k_is)
  (case k47 => k_is)
  (case a48 => k_is)
  (case l48 => k_is)
  (case d48 => k_is)
  (case k48 => k_is)
  (case a49 => k_is)
  (case l49 => k_is)
  (case d49 => k_is)
  (case k49 => k_is)
  (case a50 => k_is)
  (case l50 => k_is)
  (case d50 => k_is)
  (case k50 => k_is)
  (case a51 => k_is)
  (case l51 => k_is)
  (case d51 => k_is)
  (case k51 => k_is)
  (case a52 => k_is)
  (case l52 => k_is)
  (case d52 => k_is)
  (case k52 => k_is)
  (case a53 => k_is)
  (case l53 => k_is)
  (case d53 => k_is)
  (case k53 => k_is)
  (case a54 => k_is)
  (case l54 => k_is)
  (case d54 => k_is)
  (case k54 => k_is)
  (case a55 => k_is)
  (case l55 => k_is)
  (case d55 => k_is)
  (case k55 => k_is)
  (case a56 => k_is)
  (case l56 => k_is)
  (case d56 => k_is)
  (case k56 => k_is)
  (case z_len => k_is)
  (case z_range => k_is)
  (case z_max => k_is)
  (case z_min => k_is)
  (case z_sorted => k_is)
  (case z_sum => k_is)
  (case z_list => k_is)
  (case z_isinstance => k_is)
  (case z_int => k_is)
  (case z_bool => k_is)
  (case z_all => k_is)
  (case z_str => k_is)
  (case z_dict => k_is)
  (case z_zip => k_is)
  (case z_any => k_is)
  (case g_MOST_LETTERS => k_is)
  (case g_MOST_DAY => k_is)
  (case g_MOST_NUMBER => k_is)
  (case g_MOST_PIECES => k_is)
  (case g_MOST_GIFT_COST => k_is)
  (case g_MOST_PRICE => k_is)
  (case g_MOST_FEE => k_is)
  (case oc_n => k_is)
  (case oc_t => k_is)
  (case pg_Book => k_is)
  (case hd_Book => k_is)
  (case po_Book => k_is)
  (case sa_Book => k_is)
  (case ha_Book => k_is)
  (case hm_Book => k_is)
  (case n_Book_way => k_is)
  (case n_Book_rows => k_is)
  (case n_Book_last_place => k_is)
  (case n_Book_paid => k_is)
  (case n_Book_brought => k_is)
  (case n_Book_sales_done => k_is)
  (case n_Book_givings_done => k_is)
  (case pg_Sale => k_is)
  (case hd_Sale => k_is)
  (case po_Sale => k_is)
  (case sa_Sale => k_is)
  (case ha_Sale => k_is)
  (case hm_Sale => k_is)
  (case n_Sale_number => k_is)
  (case n_Sale_day => k_is)
  (case n_Sale_ware => k_is)
  (case n_Sale_proceeds => k_is)
  (case n_Sale_parts => k_is)
  (case n_Sale_laid_on => k_is)
  (case pg_Lot => k_is)
  (case hd_Lot => k_is)
  (case po_Lot => k_is)
  (case sa_Lot => k_is)
  (case ha_Lot => k_is)
  (case hm_Lot => k_is)
  (case n_Lot_number => k_is)
  (case n_Lot_since => k_is)
  (case n_Lot_pieces => k_is)
  (case n_Lot_cost => k_is)
  (case pg_Eldest => k_is)
  (case hd_Eldest => k_is)
  (case po_Eldest => k_is)
  (case sa_Eldest => k_is)
  (case ha_Eldest => k_is)
  (case hm_Eldest => k_is)
  (case pg_Newest => k_is)
  (case hd_Newest => k_is)
  (case po_Newest => k_is)
  (case sa_Newest => k_is)
  (case ha_Newest => k_is)
  (case hm_Newest => k_is)
  (case pg_Dearest => k_is)
  (case hd_Dearest => k_is)
  (case po_Dearest => k_is)
  (case sa_Dearest => k_is)
  (case ha_Dearest => k_is)
  (case hm_Dearest => k_is)
  (case pg_Mean => k_is)
  (case hd_Mean => k_is)
  (case po_Mean => k_is)
  (case sa_Mean => k_is)
  (case ha_Mean => k_is)
  (case hm_Mean => k_is)
  (case pg_Entry => k_is)
  (case hd_Entry => k_is)
  (case po_Entry => k_is)
  (case sa_Entry => k_is)
  (case ha_Entry => k_is)
  (case hm_Entry => k_is)
  (case n_Entry_day => k_is)
  (case n_Entry_number => k_is)
  (case n_Entry_ware => k_is)
  (case pg_Gift => k_is)
  (case hd_Gift => k_is)
  (case po_Gift => k_is)
  (case sa_Gift => k_is)
  (case ha_Gift => k_is)
  (case hm_Gift => k_is)
  (case n_Gift_day => k_is)
  (case n_Gift_number => k_is)
  (case n_Gift_ware => k_is)
  (case n_Gift_pieces => k_is)
  (case n_Gift_cost => k_is)
  (case n_Gift_since => k_is)
  (case pg_Buy => k_is)
  (case hd_Buy => k_is)
  (case po_Buy => k_is)
  (case sa_Buy => k_is)
  (case ha_Buy => k_is)
  (case hm_Buy => k_is)
  (case n_Buy_day => k_is)
  (case n_Buy_number => k_is)
  (case n_Buy_ware => k_is)
  (case n_Buy_pieces => k_is)
  (case n_Buy_price => k_is)
  (case n_Buy_fee => k_is)
  (case n_Buy_cost => k_is)
  (case pg_Way => k_is)
  (case hd_Way => k_is)
  (case po_Way => k_is)
  (case sa_Way => k_is)
  (case ha_Way => k_is)
  (case hm_Way => k_is)
  (case mka_Sale => k_is)
  (case mkb_Sale => k_is)
  (case mkc_Sale => k_is)
  (case mkd_Sale => k_is)
  (case mka_Gift => k_is)
  (case mkb_Gift => k_is)
  (case mkc_Gift => k_is)
  (case mkd_Gift => k_is)
  (case mka_Buy => k_is)
  (case mkb_Buy => k_is)
  (case mkc_Buy => k_is)
  (case mkd_Buy => k_is)
  (case mka_Lot => k_is)
  (case mkb_Lot => k_is)
  (case mkc_Lot => k_is)
  (case mkd_Lot => k_is)
  (case mka_Book => k_is)
  (case mkb_Book => k_is)
  (case mkc_Book => k_is)
  (case mkd_Book => k_is)
  (case m0a_Eldest => k_is)
  (case m0b_Eldest => k_is)
  (case m0c_Eldest => k_is)
  (case m0a_Newest => k_is)
  (case m0b_Newest => k_is)
  (case m0c_Newest => k_is)
  (case m0a_Dearest => k_is)
  (case m0b_Dearest => k_is)
  (case m0c_Dearest => k_is)
  (case m0a_Mean => k_is)
  (case m0b_Mean => k_is)
  (case m0c_Mean => k_is)
  (case mea_Sale_gain => k_is)
  (case meb_Sale_gain => k_is)
  (case mea_Lot_told => k_is)
  (case meb_Lot_told => k_is)
  (case mea_Book_sums => k_is)
  (case meb_Book_sums => k_is)
  (case mea_Book_sales => k_is)
  (case meb_Book_sales => k_is)
  (case mea_Book_given => k_is)
  (case meb_Book_given => k_is)
  (case mea_Eldest_word => k_is)
  (case meb_Eldest_word => k_is)
  (case mea_Newest_word => k_is)
  (case meb_Newest_word => k_is)
  (case mea_Dearest_word => k_is)
  (case meb_Dearest_word => k_is)
  (case mea_Mean_word => k_is)
  (case meb_Mean_word => k_is)
  (case mea_Book_held => k_is)
  (case meb_Book_held => k_is)
  (case mea_Book_row_of => k_is)
  (case meb_Book_row_of => k_is)
  (case mea_Lot_with_more => k_is)
  (case meb_Lot_with_more => k_is)
  (case mea_Book_keep_row => k_is)
  (case meb_Book_keep_row => k_is)
  (case mea_Book_put => k_is)
  (case meb_Book_put => k_is)
  (case mea_Book_lay_on => k_is)
  (case meb_Book_lay_on => k_is)
  (case mea_Book_do_buy => k_is)
  (case meb_Book_do_buy => k_is)
  (case mea_Book_do_gift => k_is)
  (case meb_Book_do_gift => k_is)
  (case mea_Book_do_by_kind => k_is)
  (case meb_Book_do_by_kind => k_is)
  (case mea_Buy_held_behind => k_is)
  (case meb_Buy_held_behind => k_is)
  (case mea_Gift_held_behind => k_is)
  (case meb_Gift_held_behind => k_is)
  (case mea_Book_do => k_is)
  (case meb_Book_do => k_is)
  (case mea_Buy_word => k_is)
  (case meb_Buy_word => k_is)
  (case mea_Gift_word => k_is)
  (case meb_Gift_word => k_is)
  (case cfa_Entry___init__ => k_is)
  (case cfb_Entry___init__ => k_is)
  (case cfc_Entry___init__ => k_is)
  (case lamc => exact rfl)
  (case lamC => kernel_rfl)
  (case w_ki_Lot => kit_is)
  (case w_ki_BB => kit_is)
  (case w_ki_GB => kit_is)
  (case w_ki_GG => kit_is)
