import PyProof.Rows.All
import Wide.All
import OpenK.AllK
import Wide.FinOn
import Lean
import PyProof.EqAt
import PyProof.EqKinds
import PyProof.NeKinds
import PyProof.TupleCall
import PySem.Challenge.RW_lotledger_k85_reports_by_hand
set_option Elab.async false
set_option linter.all false
set_option maxRecDepth 100000
set_option maxHeartbeats 4000000
abbrev Fg_ := PySem.W.Frag
namespace L2
open PySem PySem.Spec PyProof.Rows
abbrev Key := Sum Int Str
def yR : Key -> Value -> Bool
 | .inl k, v => Value.isInt k v
 | .inr x, v => Value.isStrOf x v
def Ox (w : World) : Key -> Int
 | .inl k => hashInt k
 | .inr x => hashStr w x
theorem bY : ∀ {k : Key} {v : Value}, yR k v = true -> (∃ i t, k = Sum.inl i /\ v = Value.int i t) \/ (∃ x t, k = Sum.inr x /\ v = Value.str x t)
 | .inl i, v, h => by
  obtain ⟨t, e⟩ := Value.isInt_shape (k := i) (v := v) h
  exact .inl ⟨i, t, rfl, e⟩
 | .inr x, v, h => by
  obtain ⟨t, e⟩ := Value.isStrOf_shape (x := x) (v := v) h
  exact .inr ⟨x, t, rfl, e⟩
theorem Ao (i : Int) (t : Tok) : yR (.inl i) (.int i t) = true := by simp [yR, Value.isInt]
theorem Dk (x : Str) (t : Tok) : yR (.inr x) (.str x t) = true := by simp [yR, Value.isStrOf]
theorem JK (a b : Int) : decide ((Sum.inl a : Key) = Sum.inl b) = (a == b) := by
 by_cases e : a = b
 ·subst e; simp
 ·have h : ¬ (Sum.inl a : Key) = Sum.inl b := fun q => e (Sum.inl.inj q)
  rw [decide_eq_false h]
  exact (beq_eq_false_iff_ne.mpr e).symm
theorem Ln (a b : Str) : decide ((Sum.inr a : Key) = Sum.inr b) = decide (a = b) := by
 by_cases e : a = b
 ·subst e; simp
 ·have h : ¬ (Sum.inr a : Key) = Sum.inr b := fun q => e (Sum.inr.inj q)
  rw [decide_eq_false h, decide_eq_false e]
theorem JG (a : Int) (b : Str) : decide ((Sum.inl a : Key) = Sum.inr b) = false := decide_eq_false (fun q => nomatch q)
theorem Kv (a : Str) (b : Int) : decide ((Sum.inr a : Key) = Sum.inl b) = false := decide_eq_false (fun q => nomatch q)
def bh (prog : Program) (w : World) : PySem.KeyKind prog w Key where
 is := yR
 hash := Ox w
 inj := fun v a b ha hb => by
  rcases bY ha with ⟨i, t, rfl, rfl⟩ | ⟨x, t, rfl, rfl⟩
  ·rcases bY hb with ⟨j, u, rfl, e⟩ | ⟨y, u, rfl, e⟩
   ·injection e with e1 _; rw [e1]
   ·exact nomatch e
  ·rcases bY hb with ⟨j, u, rfl, e⟩ | ⟨y, u, rfl, e⟩
   ·exact nomatch e
   ·injection e with e1 _; rw [e1]
 byValue := fun k v h => by
  rcases bY h with ⟨i, t, rfl, rfl⟩ | ⟨x, t, rfl, rfl⟩ <;> rfl
 pyHash := fun hv h => by
  rcases bY hv with ⟨i, t, rfl, rfl⟩ | ⟨x, t, rfl, rfl⟩
  ·exact wpAny_pyHash_int h
  ·exact wpAny_pyHash_str h
 eqBool := fun hu hv h => by
  rcases bY hu with ⟨i, t, rfl, rfl⟩ | ⟨x, t, rfl, rfl⟩
  ·rcases bY hv with ⟨j, u, rfl, rfl⟩ | ⟨y, u, rfl, rfl⟩
   ·rw [JK] at h; exact wpAny_eqBool_int h
   ·rw [JG] at h; exact SeqAt.EqAt.int_str i t y u _ _ _ _ h
  ·rcases bY hv with ⟨j, u, rfl, rfl⟩ | ⟨y, u, rfl, rfl⟩
   ·rw [Kv] at h; exact SeqAt.EqAt.str_int x t j u _ _ _ _ h
   ·rw [Ln] at h; exact wpAny_eqBool_str h
 «strs» := fun k x t v h => by
  rcases bY h with ⟨i, u, rfl, e⟩ | ⟨y, u, rfl, e⟩
  ·exact nomatch e
  ·injection e with e1 _
   subst e1
   cases v <;> rfl
theorem xx (prog : Program) (w : World) (i : Int) (t : Tok) : (bh prog w).is (.inl i) (.int i t) = true := Ao i t
theorem vU (prog : Program) (w : World) (x : Str) (t : Tok) : (bh prog w).is (.inr x) (.str x t) = true := Dk x t
end L2
namespace L2
open PySem PySem.Spec PyProof.Rows
inductive V where
 | non | bl (b : Bool) | int (i : Int) | str (x : Str) | byt (b : Array UInt8) | flt (b : UInt64) | ref (a : Addr) | ty (n : String)
 deriving DecidableEq
def RelV : V -> Value -> Prop
 | .non, u => u = Value.none
 | .bl b, u => u = Value.bool b
 | .int i, u => ∃ t, u = Value.int i t
 | .str x, u => ∃ t, u = Value.str x t
 | .byt b, u => ∃ t, u = Value.bytes b t
 | .flt b, u => ∃ t, u = Value.float b t
 | .ref a, u => u = Value.ref a
 | .ty n, u => u = Value.type n
abbrev Vals : List V -> List Value -> Prop := Paired RelV
theorem Vals.length {xs : List V} {us : List Value} (r : Vals xs us) : xs.length = us.length := Paired.length r
theorem Vals.get : ∀ {xs : List V} {us : List Value} {i : Nat} {x : V}, Vals xs us -> xs[i]? = some x -> ∃ u, us[i]? = some u /\ RelV x u
 | _, _, _, _, .nil, e => by simp at e
 | _, _, 0, _, .cons r _, e => by simp at e; subst e; exact ⟨_, rfl, r⟩
 | _, _, i + 1, x, .cons _ t, e => by
  obtain ⟨u, h1, h2⟩ := Vals.get (i := i) (x := x) t (by simpa using e)
  exact ⟨u, by simpa using h1, h2⟩
theorem Vals.set {x : V} {u : Value} (r : RelV x u) : ∀ {xs : List V} {us : List Value} (i : Nat), Vals xs us -> Vals (xs.set i x) (us.set i u)
 | _, _, _, .nil => .nil
 | _, _, 0, .cons _ t => .cons r t
 | _, _, i + 1, .cons q t => .cons q (Vals.set r i t)
theorem Vals.append : ∀ {xs ys : List V} {us ws : List Value}, Vals xs us -> Vals ys ws -> Vals (xs ++ ys) (us ++ ws)
 | _, _, _, _, .nil, s => s
 | _, _, _, _, .cons r t, s => .cons r (Vals.append t s)
theorem Vals.take : ∀ {xs : List V} {us : List Value} (n : Nat), Vals xs us -> Vals (xs.take n) (us.take n)
 | _, _, 0, _ => .nil
 | _, _, _ + 1, .nil => .nil
 | _, _, n + 1, .cons r t => .cons r (Vals.take n t)
theorem Vals.drop : ∀ {xs : List V} {us : List Value} (n : Nat), Vals xs us -> Vals (xs.drop n) (us.drop n)
 | _, _, 0, r => r
 | _, _, _ + 1, .nil => .nil
 | _, _, n + 1, .cons _ t => Vals.drop n t
def RelO : Option V -> Option Value -> Prop
 | some v, some u => RelV v u
 | none, none => True
 | _, _ => False
def KV {κ : Type} : List (κ × V) -> List (κ × Value) -> Prop := Paired fun (p : κ × V) (q : κ × Value) => p.1 = q.1 /\ RelV p.2 q.2
def kV : Key -> V
 | .inl i => .int i
 | .inr x => .str x
inductive HO where
 | lst (xs : List V)
 | tup (xs : List V)
 | dK (kvs : List (Key × V)) | dT (kvs : List (List Key × V))
 | set (S : Int -> Bool) (n : Nat)
 | ins (C dx : Addr) (fs : List (Str × V))
 | own (x : Addr)
 | xd (fs : List (Str × V))
 | met (f x : Addr)
 | rng (lo hi : Int)
 | frz (o : Obj) (u : HO)
 | tbl (ps : Array Value)
 | ext (φ : Heap -> Prop)
abbrev Hp := Addr -> Option HO
def upd (H : Hp) (a : Addr) (o : HO) : Hp := fun b => if b = a then some o else H b
theorem au {H : Hp} {a : Addr} {o : HO} : upd H a o a = some o := by unfold upd; rw [if_pos rfl]
theorem aF {H : Hp} {a b : Addr} {o : HO} (h : b ≠ a) : upd H a o b = H b := by unfold upd; rw [if_neg h]
theorem MT {H : Hp} {a b : Addr} {o u : HO} (h : H a = some o) (h' : H b = some u) (d : o ≠ u) : a ≠ b := by
 intro e; subst e; rw [h] at h'; exact d (Option.some.inj h')
theorem aN {H : Hp} {a b : Addr} {o : HO} (h : H a = some o) (h' : H b = none) : a ≠ b := by
 intro e; subst e; rw [h] at h'; cases h'
section
variable (P : Program) (w : World)
def ObjOk (H : Hp) (h : Heap) (a : Addr) : HO -> Prop
 | .lst xs => xs.length <= sizeLine /\ ∃ (its : List Value) (n : Nat), Vals xs its /\ h.get? a = some { cls := .type "list", data := .seq its.toArray n }
 | .tup xs => xs.length <= sizeLine /\ ∃ its : List Value, Vals xs its /\ IsTup h a its.toArray
 | .dK kvs => kvs.length <= sizeLine /\ (a == sysModules) = false /\ ∃ vs, KV kvs vs /\ h.DictOf (bh P w) a vs
 | .dT kvs => kvs.length <= sizeLine /\ (a == sysModules) = false /\ ∃ xs : List (List Key × Addr × Value),
   Paired (fun (p : List Key × V) (q : List Key × Addr × Value) => p.1 = q.1 /\ H q.2.1 = some (.tup (p.1.map kV)) /\ RelV p.2 q.2.2) kvs xs /\
   ∃ o es ep, h.get? a = some o /\ o.ExactDict /\ o.data = .dict es ep /\ es.toList = xs.map (entryOfKey (tupleKind (bh P w))) /\ (xs.map (·.1)).Nodup
 | .set S n => h.SetOf (intKind P w) a S n
 | .ins C dx fs => H dx = some (.own a) /\ fs.length <= 1000 /\ dx ≠ a /\ h.get? a = some (PySem.W.instObj C dx) /\
   ∃ mA, h.Ns1 dx mA /\ (∀ f, RelO (fs.lookup f) (mA f)) /\ PySem.Within mA (fs.map (·.1))
 | .own _ => ∃ o, h.get? a = some o
 | .xd fs => ∃ mA, h.Ns1 a mA /\ ∀ f, RelO (fs.lookup f) (mA f)
 | .rng lo hi => ∃ t u v, h.get? a = some { cls := .type "range", data := .fields #[.int lo t, .int hi u, .int 1 v] }
 | .frz o u => h.get? a = some o /\ ObjOk H h a u
 | .tbl ps => h.get? a = some { cls := .none, data := .fields ps }
 | .met f x => h.get? a = some (PySem.W.methodObj (.ref f) (.ref x))
 | .ext φ => φ h /\ (∃ o, h.get? a = some o) /\ ∀ h1 h2 : Heap, φ h1 -> (∀ o, h1.get? a = some o -> h2.get? a = some o) -> φ h2
def HOk (H : Hp) (h : Heap) : Prop := ∀ a o, H a = some o -> ObjOk P w H h a o
end
section
variable {P : Program} {w : World} {H H' : Hp} {h h' : Heap} {a : Addr} {o : HO}
theorem ObjOk.lt (x : ObjOk P w H h a o) : a < h.objs.size := by
 cases o with
 | lst xs => obtain ⟨_, _, _, _, e⟩ := x; exact Heap.lt_size e
 | tup xs => obtain ⟨_, _, _, p⟩ := x; exact p.lt
 | dK kvs => obtain ⟨_, _, _, _, o, _, _, e, _⟩ := x; exact Heap.lt_size e
 | dT kvs => obtain ⟨_, _, _, _, o, _, _, e, _⟩ := x; exact Heap.lt_size e
 | set S n => obtain ⟨o, _, _, _, e, _⟩ := x; exact Heap.lt_size e
 | ins C dx fs => obtain ⟨_, _, _, e, _⟩ := x; exact Heap.lt_size e
 | own y => obtain ⟨_, e⟩ := x; exact Heap.lt_size e
 | xd fs => obtain ⟨_, ⟨_, _, _, e, _⟩, _⟩ := x; exact Heap.lt_size e
 | rng lo hi => obtain ⟨_, _, _, e⟩ := x; exact Heap.lt_size e
 | frz ob u => obtain ⟨e, _⟩ := x; exact Heap.lt_size e
 | tbl ps => exact Heap.lt_size (show h.get? a = some _ from x)
 | met f y => exact Heap.lt_size (show h.get? a = some _ from x)
 | ext φ => obtain ⟨_, ⟨_, e⟩, _⟩ := x; exact Heap.lt_size e
theorem Paired.mapP {α β : Type} {F G : α -> β -> Prop} : ∀ {l₁ : List α} {l₂ : List β}, Paired F l₁ l₂ -> (∀ a b, F a b -> G a b) -> Paired G l₁ l₂
 | _, _, .nil, _ => .nil
 | _, _, .cons r t, f => .cons (f _ _ r) (Paired.mapP t f)
theorem ObjOk.stay (x : ObjOk P w H h a o) (k : ∀ b u, (b = a \/ H b = some (.own a)) -> h.get? b = some u -> h'.get? b = some u)
  (ho : ∀ b, H b = some (.own a) -> H' b = some (.own a)) (ht : ∀ b xs, H b = some (.tup xs) -> H' b = some (.tup xs)) : ObjOk P w H' h' a o := by
 induction o with
 | lst xs => obtain ⟨z, its, n, r, e⟩ := x; exact ⟨z, its, n, r, k _ _ (.inl rfl) e⟩
 | tup xs => obtain ⟨z, its, r, ob, e, c⟩ := x; exact ⟨z, its, r, ob, k _ _ (.inl rfl) e, c⟩
 | dK kvs => obtain ⟨z, y, vs, r, ob, es, ep, e, c⟩ := x; exact ⟨z, y, vs, r, ob, es, ep, k _ _ (.inl rfl) e, c⟩
 | dT kvs =>
  obtain ⟨z, y, xs, r, ob, es, ep, e, c⟩ := x
  exact ⟨z, y, xs, Paired.mapP r fun p q z => ⟨z.1, ht _ _ z.2.1, z.2.2⟩, ob, es, ep, k _ _ (.inl rfl) e, c⟩
 | set S n => obtain ⟨ob, es, ep, t, e, c⟩ := x; exact ⟨ob, es, ep, t, k _ _ (.inl rfl) e, c⟩
 | ins C dx fs =>
  obtain ⟨d, z, ne, e, mA, ⟨od, es, ep, e2, c⟩, r⟩ := x
  exact ⟨ho _ d, z, ne, k _ _ (.inl rfl) e, mA, ⟨od, es, ep, k _ _ (.inr d) e2, c⟩, r⟩
 | own y => obtain ⟨ob, e⟩ := x; exact ⟨ob, k _ _ (.inl rfl) e⟩
 | xd fs => obtain ⟨mA, ⟨od, es, ep, e, c⟩, r⟩ := x; exact ⟨mA, ⟨od, es, ep, k _ _ (.inl rfl) e, c⟩, r⟩
 | rng lo hi => obtain ⟨t, u, v, e⟩ := x; exact ⟨t, u, v, k _ _ (.inl rfl) e⟩
 | frz ob u ih => obtain ⟨e, q⟩ := x; exact ⟨k _ _ (.inl rfl) e, ih q⟩
 | tbl ps =>
  have e : h.get? a = some { cls := .none, data := .fields ps } := x
  show h'.get? a = some { cls := .none, data := .fields ps }
  exact k a _ (.inl rfl) e
 | met f y =>
  have e : h.get? a = some (PySem.W.methodObj (.ref f) (.ref y)) := x
  show h'.get? a = some (PySem.W.methodObj (.ref f) (.ref y))
  exact k a _ (.inl rfl) e
 | ext φ => obtain ⟨p, ⟨o, e⟩, st⟩ := x; exact ⟨st _ _ p fun o q => k _ _ (.inl rfl) q, ⟨o, k _ _ (.inl rfl) e⟩, st⟩
theorem HOk.lt (x : HOk P w H h) (e : H a = some o) : a < h.objs.size := (x a o e).lt
theorem HOk.fresh (x : HOk P w H h) (e : h.objs.size <= a) : H a = none := by
 cases q : H a with
 | none => rfl
 | some u => exact absurd (Nat.lt_of_lt_of_le (x.lt q) e) (Nat.lt_irrefl _)
theorem HOk.kept (x : HOk P w H h) (k : ∀ b u, h.get? b = some u -> h'.get? b = some u) : HOk P w H h' := fun a o e =>
 (x a o e).stay (fun b u _ q => k b u q) (fun _ q => q) fun _ _ q => q
theorem HOk.laid (x : HOk P w H h) (k : ∀ b u, h.get? b = some u -> h'.get? b = some u) (hp : h.objs.size <= a) (new : ObjOk P w (upd H a o) h' a o) : HOk P w (upd H a o) h' := fun b u e => by
 have hn := x.fresh hp
 by_cases hb : b = a
 ·subst hb; rw [au] at e; cases e; exact new
 ·rw [aF hb] at e
  exact (x b u e).stay (fun c v _ q => k c v q) (fun c q => by rw [aF (aN q hn)]; exact q) fun c xs q => by rw [aF (aN q hn)]; exact q
end
def Rd (H : Hp) (a : Addr) (u : HO) : Prop := H a = some u \/ ∃ o, H a = some (.frz o u)
theorem Rd.ok {P : Program} {w : World} {H : Hp} {h : Heap} {a : Addr} {u : HO} (r : Rd H a u) (x : HOk P w H h) : ObjOk P w H h a u := by
 rcases r with r | ⟨o, r⟩
 ·exact x a u r
 ·obtain ⟨_, q⟩ := x a _ r
  exact q
def Mut : Option HO -> Prop
 | some (.lst _) => True
 | some (.dK _) => True
 | some (.dT _) => True
 | some (.set _ _) => True
 | some (.ins _ _ _) => True
 | some (.ext _) => True
 | _ => False
section
variable {P : Program} {w : World} {H : Hp} {h h' : Heap} {x e : Addr} {o' : HO}
theorem HOk.write (ok : HOk P w H h) (mu : Mut (H x)) (he : e = x \/ H e = some (.own x)) (k : ∀ b u, b ≠ e -> h.get? b = some u -> h'.get? b = some u) (heo : ∃ u, h'.get? e = some u)
  (new : ObjOk P w (upd H x o') h' x o') : HOk P w (upd H x o') h' := fun b u q => by
 have nown : ∀ c y, H c = some (.own y) -> c ≠ x := fun c y r z => by subst z; rw [r] at mu; exact mu
 have ntup : ∀ c xs, H c = some (.tup xs) -> c ≠ x := fun c xs r z => by subst z; rw [r] at mu; exact mu
 by_cases hb : b = x
 ·subst hb; rw [au] at q; cases q; exact new
 ·rw [aF hb] at q
  by_cases hbe : b = e
  ·have q' : H b = some (.own x) := by
    rcases he with z | z
    ·exact absurd (hbe.trans z) hb
    ·rw [hbe]; exact z
   rw [q] at q'; cases q'
   obtain ⟨v, hv⟩ := heo
   exact ⟨v, by rw [hbe]; exact hv⟩
  ·refine (ok b u q).stay (fun c v hc r => k c v ?_ r) (fun c r => by rw [aF (nown c b r)]; exact r) fun c xs r => by rw [aF (ntup c xs r)]; exact r
   rcases hc with rfl | hc
   ·exact hbe
   ·rintro rfl
    rcases he with z | z
    ·exact nown c b hc z
    ·rw [hc] at z; cases z; exact hb rfl
end
structure Un (fs ex : List Addr) (H H' : Hp) (h h' : Heap) : Prop where
 keep : ∀ b o, h.get? b = some o -> H b = none -> b ∉ fs -> b ∉ ex -> h'.get? b = some o
 slot : ∀ b o, h.get? b = some o -> H b = none -> b ∈ fs -> b ∉ ex -> ∃ sl, h'.get? b = some { o with slots := sl }
 free : ∀ b o, h.get? b = some o -> H b = none -> b ∉ ex -> H' b = none
 there : ∀ b o, h.get? b = some o -> b ∉ ex -> ∃ o', h'.get? b = some o'
 tups : ∀ b xs, H b = some (.tup xs) -> H' b = some (.tup xs)
 frzs : ∀ b o u, H b = some (.frz o u) -> H' b = some (.frz o u)
 tbls : ∀ b ps, H b = some (.tbl ps) -> ∃ more, H' b = some (.tbl (ps ++ more))
section
variable {fs fs' ex ex' : List Addr} {H H1 H2 : Hp} {h h1 h2 h' : Heap} {a x e : Addr} {o : HO}
theorem Un.any (u : Un fs ex H H1 h h1) {b : Addr} {ob : Obj} (q : h.get? b = some ob) (n : H b = none) (hx : b ∉ ex) : ∃ sl, h1.get? b = some { ob with slots := sl } := by
 by_cases hb : b ∈ fs
 ·exact u.slot b ob q n hb hx
 ·exact ⟨ob.slots, u.keep b ob q n hb hx⟩
theorem Un.trans (a : Un fs ex H H1 h h1) (b : Un fs ex H1 H2 h1 h2) : Un fs ex H H2 h h2 where
 keep := fun c ob q n hc hx => b.keep c ob (a.keep c ob q n hc hx) (a.free c ob q n hx) hc hx
 slot := fun c ob q n hc hx => by
  obtain ⟨sl, e1⟩ := a.slot c ob q n hc hx
  obtain ⟨sl', e2⟩ := b.slot c _ e1 (a.free c ob q n hx) hc hx
  exact ⟨sl', e2⟩
 free := fun c ob q n hx => by
  obtain ⟨o', e1⟩ := a.there c ob q hx
  exact b.free c o' e1 (a.free c ob q n hx) hx
 there := fun c ob q hx => by
  obtain ⟨o', e1⟩ := a.there c ob q hx
  exact b.there c o' e1 hx
 tups := fun c xs q => b.tups c xs (a.tups c xs q)
 frzs := fun c ob xs q => b.frzs c ob xs (a.frzs c ob xs q)
 tbls := fun c ps q => by
  obtain ⟨m1, e1⟩ := a.tbls c ps q
  obtain ⟨m2, e2⟩ := b.tbls c _ e1
  exact ⟨m1 ++ m2, by rw [e2, Array.append_assoc]⟩
theorem Un.kept (k : ∀ b u, h.get? b = some u -> h'.get? b = some u) : Un fs ex H H h h' :=
 ⟨fun b ob q _ _ _ => k b ob q, fun b ob q _ _ _ => ⟨ob.slots, k b ob q⟩, fun _ _ _ n _ => n, fun b ob q _ => ⟨ob, k b ob q⟩, fun _ _ q => q, fun _ _ _ q => q, fun _ ps q => ⟨#[], by rw [q]; simp⟩⟩
theorem Un.refl : Un fs ex H H h h := Un.kept fun _ _ q => q
theorem Un.laid (k : ∀ b u, h.get? b = some u -> h'.get? b = some u) (hp : h.objs.size <= a) (hn : H a = none) : Un fs ex H (upd H a o) h h' where
 keep := fun b u q _ _ _ => k b u q
 slot := fun b u q _ _ _ => ⟨u.slots, k b u q⟩
 free := fun b u q n _ => by rw [aF (Nat.ne_of_lt (Nat.lt_of_lt_of_le (Heap.lt_size q) hp))]; exact n
 there := fun b u q _ => ⟨u, k b u q⟩
 tups := fun b xs q => by rw [aF (aN q hn)]; exact q
 frzs := fun b u xs q => by rw [aF (aN q hn)]; exact q
 tbls := fun b ps q => ⟨#[], by rw [aF (aN q hn), q]; simp⟩
theorem Un.write (mu : Mut (H x)) (he : e = x \/ H e = some (.own x)) (k : ∀ b u, b ≠ e -> h.get? b = some u -> h'.get? b = some u) (heo : ∃ u, h'.get? e = some u) : Un fs ex H (upd H x o) h h' := by
 have hx : ∀ b, H b = none -> b ≠ x := fun b n z => by subst z; rw [n] at mu; exact mu
 have hb : ∀ b, H b = none -> b ≠ e := fun b n z => by
  subst z
  rcases he with r | r
  ·exact hx b n r
  ·rw [n] at r; cases r
 have hm : ∀ b u, H b = some u -> ¬ Mut (some u) -> b ≠ x := fun b u q nm z => by subst z; rw [q] at mu; exact nm mu
 refine ⟨fun b u q n _ _ => k b u (hb b n) q, fun b u q n _ _ => ⟨u.slots, k b u (hb b n) q⟩, fun b u q n _ => by rw [aF (hx b n)]; exact n, fun b u q _ => ?_,
  fun b xs q => by rw [aF (hm b _ q fun z => z)]; exact q, fun b u xs q => by rw [aF (hm b _ q fun z => z)]; exact q, fun b ps q => ⟨#[], by rw [aF (hm b _ q fun z => z), q]; simp⟩⟩
 by_cases hbe : b = e
 ·subst hbe; exact heo
 ·exact ⟨u, k b u hbe q⟩
end
def trk (h : Heap) (H : Hp) : List Addr := (List.range h.objs.size).filter fun a => (H a).isSome
def Fi (h : Heap) (H : Hp) : Heap := PySem.W.hideAll h (trk h H)
theorem Dc (h : Heap) (H : Hp) : (Fi h H).objs.size = h.objs.size := PySem.W.hideAll_size _ _
theorem Es {h : Heap} {H : Hp} {b : Addr} {o : Obj} (e : h.get? b = some o) (n : H b = none) : (Fi h H).get? b = some o :=
 PySem.W.hideAll_get _ e fun hm => by
  have q : (H b).isSome = true := (List.mem_filter.mp hm).2
  rw [n] at q; simp at q
theorem Im {h : Heap} {H : Hp} {b : Addr} {o : Obj} (e : (Fi h H).get? b = some o) : h.get? b = some o /\ H b = none := by
 have e' : h.get? b = some o := PySem.W.of_hideAll (trk h H) e
 refine ⟨e', ?_⟩
 cases q : H b with
 | none => rfl
 | some x =>
  have hm : b ∈ trk h H := List.mem_filter.mpr ⟨List.mem_range.mpr (Heap.lt_size e'), by simp [q]⟩
  have z : (Fi h H).get? b = none := PySem.W.hideAll_none (trk h H) hm
  rw [z] at e; cases e
def Jg (g h : Heap) (L : Addr) : List (Addr × Obj) := (List.range h.objs.size).filterMap fun a => if a = L \/ (g.get? a).isSome = true then none else (h.get? a).map fun o => (a, o)
def rest (g h : Heap) (L d : Addr) : List (Addr × Obj) := (Jg g h L).filter fun p => decide (p.1 ≠ d)
end L2
namespace L2
open PySem PySem.Spec PyProof.Rows
structure Mod (K : Fg_) (mg : Str -> Option Value) (base : Heap) : Prop where
 kin : K.In base
 glob : base.Ns mainGlobals mg
 blt : ∃ mb, base.Ns builtinsNs mb /\ ∀ x : Str, x ≠ "__name__" -> mb x = bootBuiltins x
 nolimit : base.NoLimit
structure Cx where
 prog : Program
 w : World
 K : Fg_
 mg : Str -> Option Value
 base : Heap
 A : Around
 N : List Str
 s₀ : Shared
 H₀ : Hp
 env : Env
 outer : List Env
 stack : List Env
 ex : List Addr
 fn : Str -> Bool
 calm : Bool
 pn : List (Addr × Obj)
 xe : Value -> Shared -> Prop
def frs (l : List Env) : List Addr := l.filterMap (·.frame)
abbrev Cx.fs (X : Cx) : List Addr := frs X.outer
def Vis (sc : Scope) (x : Str) : Prop := sc.names.lookup x = some .local \/ sc.names.lookup x = some .cell \/ sc.names.lookup x = some .free
def Loc (sc : Scope) (x : Str) : Prop := sc.names.lookup x = some .local \/ sc.names.lookup x = some .cell
def Look (env : Env) (h : Heap) (m : Str -> Option Value) (x : Str) (u : Value) : Prop :=
 (env.kindOf x = some .local /\ m x = some u) \/ ((env.kindOf x = some .cell \/ env.kindOf x = some .free) /\ ∃ c, env.cells.lookup x = some c /\ h.IsCell c (some u))
structure Cx.Ok (X : Cx) : Prop where
 mod : Mod X.K X.mg X.base
 kind : X.env.scope.kind = .function
 glob : X.env.globals = mainGlobals
 blt : X.env.builtins = builtinsNs
 above : X.s₀.heap.objs.size <= X.env.locals
 inj : ∀ x y c, X.env.cells.lookup x = some c -> X.env.cells.lookup y = some c -> x = y
 has : ∀ x, (X.env.kindOf x = some .cell \/ X.env.kindOf x = some .free) -> ∃ c, X.env.cells.lookup x = some c
 cab : ∀ x c, X.fn x = true -> X.env.cells.lookup x = some c -> X.s₀.heap.objs.size <= c
 hd : X.calm = true -> X.A.handled = none
 frames : X.A.frames = some X.stack
 stk : X.stack = X.outer \/ (X.stack = X.env :: X.outer /\ X.env.frame = some X.env.locals)
 exf : ∀ b ∈ X.ex, b ≠ X.env.locals /\ ∀ x c, X.env.cells.lookup x = some c -> c ≠ b
 bs : ∀ b o, X.base.get? b = some o -> X.s₀.heap.get? b = some o /\ X.H₀ b = none
 bsz : X.base.objs.size <= X.s₀.heap.objs.size
 noex : ∀ b o, X.base.get? b = some o -> b ∉ X.ex
 exfs : ∀ b ∈ X.ex, b ∉ X.fs
 funs : X.s₀.heap.FunFrames X.base X.outer
 frf : ∀ b ∈ X.fs, X.H₀ b = none
structure Inv (X : Cx) (pins : List (Addr × Obj)) (σ : List (Option V)) (H : Hp) (s : Shared) : Prop where
 ok : X.Ok
 os : s.os = X.s₀.os
 bare : AllBare s.gens
 base : Un X.fs X.ex X.H₀ H X.s₀.heap s.heap
 loc : ∃ m, s.heap.Ns X.env.locals m /\ ∀ (i : Nat) (x : Str) (v : V), X.N[i]? = some x -> σ[i]? = some (some v) -> Vis X.env.scope x -> ∃ u, RelV v u /\ Look X.env s.heap m x u
 cell : ∀ x c, X.env.cells.lookup x = some c -> ∃ v, s.heap.IsCell c v
 free : H X.env.locals = none
 freeC : ∀ x c, X.env.cells.lookup x = some c -> H c = none
 pin : ∀ p ∈ X.pn ++ pins, s.heap.get? p.1 = some p.2 /\ H p.1 = none /\ p.1 ≠ X.env.locals /\ p.1 ∉ X.fs /\ ∀ v, p.2.data ≠ .cell v
 hok : HOk X.prog X.w H s.heap
 len : σ.length = X.N.length
section
variable {X : Cx} {pins : List (Addr × Obj)} {σ : List (Option V)} {H H' : Hp} {s : Shared} {h' : Heap}
theorem Cx.Ok.nofr (ok : X.Ok) {b : Addr} {o : Obj} (e : X.base.get? b = some o) : b ∉ X.fs := fun hb => by
 have := (ok.funs.mem hb).1
 rw [e] at this; cases this
theorem Inv.bs (I : Inv X pins σ H s) : ∀ b o, X.base.get? b = some o -> s.heap.get? b = some o /\ H b = none := fun b o e =>
 ⟨I.base.keep b o (I.ok.bs b o e).1 (I.ok.bs b o e).2 (I.ok.nofr e) (I.ok.noex b o e), I.base.free b o (I.ok.bs b o e).1 (I.ok.bs b o e).2 (I.ok.noex b o e)⟩
theorem Inv.bk (I : Inv X pins σ H s) : ∀ b o, X.base.get? b = some o -> s.heap.get? b = some o := fun b o e => (I.bs b o e).1
theorem Inv.mod (I : Inv X pins σ H s) : Mod X.K X.mg X.base := I.ok.mod
theorem Inv.kIn (I : Inv X pins σ H s) : X.K.In s.heap := I.ok.mod.kin.keeps I.bk
theorem Inv.fr (I : Inv X pins σ H s) : ∃ m, Fr X.base X.env.locals s.heap m :=
 let ⟨m, hn, _⟩ := I.loc
 ⟨m, hn, I.bk, Nat.le_trans I.ok.bsz I.ok.above⟩
theorem Inv.lt (I : Inv X pins σ H s) : X.env.locals < s.heap.objs.size := let ⟨_, hn, _⟩ := I.loc; hn.lt
theorem Inv.sz (I : Inv X pins σ H s) : X.s₀.heap.objs.size <= s.heap.objs.size := Nat.le_trans I.ok.above (Nat.le_of_lt I.lt)
theorem Inv.nofs (I : Inv X pins σ H s) {a : Addr} (h : s.heap.objs.size <= a) : a ∉ X.fs := fun hb => by
 obtain ⟨_, o, ho, _⟩ := I.ok.funs.mem hb
 exact absurd (Nat.lt_of_lt_of_le (Heap.lt_size ho) (Nat.le_trans I.sz h)) (Nat.lt_irrefl _)
theorem Inv.cne (I : Inv X pins σ H s) : ∀ x c, X.env.cells.lookup x = some c -> c ≠ X.env.locals := fun x c e z => by
 obtain ⟨v, o, ho, hd⟩ := I.cell x c e
 obtain ⟨m, ⟨o', es, ep, ho', hd', _⟩, _⟩ := I.loc
 rw [z, ho'] at ho; cases ho; rw [hd'] at hd; cases hd
theorem Inv.funs (I : Inv X pins σ H s) : s.heap.FunFrames X.base X.outer := by
 have all : ∀ (l : List Env), (∀ b ∈ frs l, b ∈ X.fs) -> X.s₀.heap.FunFrames X.base l -> s.heap.FunFrames X.base l := by
  intro l
  induction l with
  | nil => intro _ _; trivial
  | cons env r ih =>
   intro hs hl
   obtain ⟨hk, ⟨L, o, hf, hn, ho, hd⟩, hr⟩ := hl
   have hL : L ∈ X.fs := hs L (by unfold frs; rw [List.filterMap_cons, hf]; exact List.mem_cons_self)
   obtain ⟨sl, e⟩ := I.base.slot L o ho (I.ok.frf L hL) hL fun z => I.ok.exfs L z hL
   exact ⟨hk, ⟨L, _, hf, hn, e, hd⟩, ih (fun b hb => hs b (by unfold frs; rw [List.filterMap_cons, hf]; exact List.mem_cons_of_mem _ hb)) hr⟩
 exact all X.outer (fun _ hb => hb) I.ok.funs
theorem Inv.stack (I : Inv X pins σ H s) : s.heap.FunFrames X.base X.stack := by
 rcases I.ok.stk with e | ⟨e, hf⟩
 ·rw [e]; exact I.funs
 ·rw [e]
  obtain ⟨m, hn, _⟩ := I.loc
  refine .cons (by rw [I.ok.kind]; decide) hf hn ?_ I.funs
  exact Heap.get?_none_of_le (Nat.le_trans I.ok.bsz I.ok.above)
theorem Inv.stkSub (I : Inv X pins σ H s) : ∀ b ∈ frs X.stack, b ∈ X.env.locals :: X.fs := fun b hb => by
 rcases I.ok.stk with e | ⟨e, hf⟩
 ·rw [e] at hb; exact List.mem_cons_of_mem _ hb
 ·rw [e] at hb
  unfold frs at hb
  rw [List.filterMap_cons, hf] at hb
  exact hb
theorem Inv.stkFree (I : Inv X pins σ H s) : ∀ b ∈ frs X.stack, H b = none := fun b hb => by
 rcases List.mem_cons.mp (I.stkSub b hb) with e | hb
 ·rw [e]; exact I.free
 ·obtain ⟨_, o, ho, _⟩ := I.ok.funs.mem hb
  exact I.base.free b o ho (I.ok.frf b hb) fun z => I.ok.exfs b z hb
theorem Inv.step {g' : Array GenState} {t' : Nat} {d' : Drawn} {ch : List Addr} (I : Inv X pins σ H s)
  (hch : ∀ b ∈ ch, (b ∈ X.ex \/ X.s₀.heap.objs.size <= b) /\ b ≠ X.env.locals /\ (∀ x c, X.env.cells.lookup x = some c -> c ≠ b) /\ ∀ p ∈ X.pn ++ pins, p.1 ≠ b)
  (keep : ∀ b o, b ≠ X.env.locals -> b ∉ X.fs -> b ∉ ch -> s.heap.get? b = some o -> H b = none -> h'.get? b = some o)
  (slot : ∀ b o, b ≠ X.env.locals -> b ∈ X.fs -> b ∉ ch -> s.heap.get? b = some o -> H b = none -> ∃ sl, h'.get? b = some { o with slots := sl }) (free : ∀ b o, b ∉ ch -> s.heap.get? b = some o -> H b = none -> H' b = none)
  (there : ∀ b o, b ∉ ch -> s.heap.get? b = some o -> ∃ o', h'.get? b = some o')
  (tups : ∀ b xs, H b = some (.tup xs) -> H' b = some (.tup xs)) (frzs : ∀ b o u, H b = some (.frz o u) -> H' b = some (.frz o u)) (tbls : ∀ b ps, H b = some (.tbl ps) -> ∃ more, H' b = some (.tbl (ps ++ more)))
  (ns : ∀ m, s.heap.Ns X.env.locals m -> h'.Ns X.env.locals m) (hok : HOk X.prog X.w H' h') (hg : AllBare g') :
  Inv X pins σ H' { s with heap := h', gens := g', drawn := d', toks := t' } := by
 have neL : ∀ b o, X.s₀.heap.get? b = some o -> b ≠ X.env.locals := fun b o e => Nat.ne_of_lt (Nat.lt_of_lt_of_le (Heap.lt_size e) I.ok.above)
 have neC : ∀ b o, X.s₀.heap.get? b = some o -> b ∉ X.ex -> b ∉ ch := fun b o e hx hb => by
  rcases (hch b hb).1 with z | z
  ·exact hx z
  ·exact absurd (Nat.lt_of_lt_of_le (Heap.lt_size e) z) (Nat.lt_irrefl _)
 have cellK : ∀ x c, X.env.cells.lookup x = some c -> ∀ v, s.heap.IsCell c v -> h'.IsCell c v := fun x c e v ⟨o, ho, hd⟩ => by
  have nch : c ∉ ch := fun z => (hch c z).2.2.1 x c e rfl
  by_cases hc : c ∈ X.fs
  ·obtain ⟨sl, q⟩ := slot c o (I.cne x c e) hc nch ho (I.freeC x c e)
   exact ⟨_, q, hd⟩
  ·exact ⟨o, keep c o (I.cne x c e) hc nch ho (I.freeC x c e), hd⟩
 refine ⟨I.ok, I.os, hg, ⟨fun b o e n hb hx => ?_, fun b o e n hb hx => ?_, fun b o e n hx => ?_, fun b o e hx => ?_, fun b xs e => tups b xs (I.base.tups b xs e), fun b o xs e => frzs b o xs (I.base.frzs b o xs e), fun b ps e => ?_⟩, ?_, fun x c e => ?_, ?_, fun x c e => ?_, fun p hp => ?_, hok, I.len⟩
 ·exact keep b o (neL b o e) hb (neC b o e hx) (I.base.keep b o e n hb hx) (I.base.free b o e n hx)
 ·obtain ⟨sl, e1⟩ := I.base.slot b o e n hb hx
  obtain ⟨sl', e2⟩ := slot b _ (neL b o e) hb (neC b o e hx) e1 (I.base.free b o e n hx)
  exact ⟨sl', e2⟩
 ·obtain ⟨o', e1⟩ := I.base.there b o e hx
  exact free b o' (neC b o e hx) e1 (I.base.free b o e n hx)
 ·obtain ⟨o', e1⟩ := I.base.there b o e hx
  exact there b o' (neC b o e hx) e1
 ·obtain ⟨m1, e1⟩ := I.base.tbls b ps e
  obtain ⟨m2, e2⟩ := tbls b _ e1
  exact ⟨m1 ++ m2, by rw [e2, Array.append_assoc]⟩
 ·obtain ⟨m, hn, hl⟩ := I.loc
  refine ⟨m, ns m hn, fun i x v e1 e2 e3 => ?_⟩
  obtain ⟨u, r, l⟩ := hl i x v e1 e2 e3
  refine ⟨u, r, ?_⟩
  rcases l with l | ⟨k, c, e, z⟩
  ·exact .inl l
  ·exact .inr ⟨k, c, e, cellK x c e _ z⟩
 ·obtain ⟨v, z⟩ := I.cell x c e
  exact ⟨v, cellK x c e v z⟩
 ·obtain ⟨m, ⟨o, _, _, ho, _⟩, _⟩ := I.loc
  exact free _ o (fun z => (hch _ z).2.1 rfl) ho I.free
 ·obtain ⟨v, o, ho, hd⟩ := I.cell x c e
  exact free c o (fun z => (hch c z).2.2.1 x c e rfl) ho (I.freeC x c e)
 ·obtain ⟨e, n, ne, nf, d⟩ := I.pin p hp
  have nch : p.1 ∉ ch := fun z => (hch p.1 z).2.2.2 p hp rfl
  exact ⟨keep p.1 p.2 ne nf nch e n, free p.1 p.2 nch e n, ne, nf, d⟩
theorem Inv.un {t' : Nat} (I : Inv X pins σ H s) (u : Un X.fs [] H H' s.heap h') (hok : HOk X.prog X.w H' h') : Inv X pins σ H' { s with heap := h', toks := t' } := by
 obtain ⟨m, ⟨o, es, ep, ho, r⟩, _⟩ := id I.loc
 obtain ⟨sl, hL⟩ := u.any ho I.free (by simp)
 exact I.step (g' := s.gens) (d' := s.drawn) (ch := []) (fun _ z => nomatch z) (fun b o _ hb _ e n => u.keep b o e n hb (by simp)) (fun b o _ hb _ e n => u.slot b o e n hb (by simp)) (fun b o _ e n => u.free b o e n (by simp)) (fun b o _ e => u.there b o e (by simp)) u.tups u.frzs u.tbls (fun m' hm => by
  obtain ⟨o', es', ep', ho', r'⟩ := hm
  rw [ho] at ho'; cases ho'
  exact ⟨_, es', ep', hL, r'⟩) hok I.bare
theorem Inv.call {g' : Array GenState} {t' : Nat} {d' : Drawn} {ch : List Addr} (I : Inv X pins σ H s) (u : Un (frs X.stack) ch H H' s.heap h') (hok : HOk X.prog X.w H' h') (hg : AllBare g')
  (hch : ∀ b ∈ ch, (b ∈ X.ex \/ X.s₀.heap.objs.size <= b) /\ b ≠ X.env.locals /\ (∀ x c, X.env.cells.lookup x = some c -> c ≠ b) /\ ∀ p ∈ X.pn ++ pins, p.1 ≠ b) :
  Inv X pins σ H' { s with heap := h', gens := g', drawn := d', toks := t' } := by
 obtain ⟨m, ⟨o, es, ep, ho, r⟩, _⟩ := id I.loc
 obtain ⟨sl, hL⟩ := u.any ho I.free fun z => (hch _ z).2.1 rfl
 exact I.step (ch := ch) hch (fun b o hL hb hc e n => u.keep b o e n (fun z => (List.mem_cons.mp (I.stkSub b z)).elim hL hb) hc) (fun b o _ _ hc e n => u.any e n hc) (fun b o hc e n => u.free b o e n hc) (fun b o hc e => u.there b o e hc) u.tups u.frzs u.tbls (fun m' hm => by
  obtain ⟨o', es', ep', ho', r'⟩ := hm
  rw [ho] at ho'; cases ho'
  exact ⟨_, es', ep', hL, r'⟩) hok hg
theorem Inv.turned {t' : Nat} {it : Addr} (I : Inv X pins σ H s) (k : ∀ b o, b ≠ it -> s.heap.get? b = some o -> h'.get? b = some o) (hn : H it = none) (hL : it ≠ X.env.locals)
  (h1 : it ∈ X.ex \/ X.s₀.heap.objs.size <= it) (h2 : ∀ x c, X.env.cells.lookup x = some c -> c ≠ it) (h3 : ∀ p ∈ X.pn ++ pins, p.1 ≠ it) : Inv X pins σ H { s with heap := h', toks := t' } := by
 have nit : ∀ b u, H b = some u -> b ≠ it := fun b u e z => by rw [z, hn] at e; cases e
 refine I.step (g' := s.gens) (d' := s.drawn) (ch := [it]) (fun b hb => ?_) (fun b o _ _ hc e _ => k b o (fun z => hc (by simp [z])) e) (fun b o _ _ hc e _ => ⟨o.slots, k b o (fun z => hc (by simp [z])) e⟩) (fun _ _ _ _ n => n)
  (fun b o hc e => ⟨o, k b o (fun z => hc (by simp [z])) e⟩) (fun _ _ e => e) (fun _ _ _ e => e) (fun b ps e => ⟨#[], by rw [e]; simp⟩) (fun m hm => ?_) (fun b u e => ?_) I.bare
 ·have e : b = it := by simpa using hb
  subst e
  exact ⟨h1, hL, h2, h3⟩
 ·obtain ⟨o, es, ep, ho, r⟩ := hm
  exact ⟨o, es, ep, k _ o (Ne.symm hL) ho, r⟩
 ·refine (I.hok b u e).stay (fun c v hc q => k c v ?_ q) (fun _ q => q) fun _ _ q => q
  rcases hc with z | z
  ·rw [z]; exact nit b u e
  ·exact nit c _ z
theorem Inv.tok (I : Inv X pins σ H s) (t : Nat) : Inv X pins σ H { s with toks := t } := I.un (h' := s.heap) (t' := t) Un.refl I.hok
theorem Inv.kept {t' : Nat} (I : Inv X pins σ H s) (k : ∀ b u, s.heap.get? b = some u -> h'.get? b = some u) : Inv X pins σ H { s with heap := h', toks := t' } := I.un (Un.kept k) (I.hok.kept k)
theorem Inv.laid {a : Addr} {o : HO} {t' : Nat} (I : Inv X pins σ H s) (k : ∀ b u, s.heap.get? b = some u -> h'.get? b = some u) (hp : s.heap.objs.size <= a) (new : ObjOk X.prog X.w (upd H a o) h' a o) :
  Inv X pins σ (upd H a o) { s with heap := h', toks := t' } := I.un (Un.laid k hp (I.hok.fresh hp)) (I.hok.laid k hp new)
theorem Inv.write {x e : Addr} {o : HO} {t' : Nat} (I : Inv X pins σ H s) (mu : Mut (H x)) (he : e = x \/ H e = some (.own x)) (k : ∀ b u, b ≠ e -> s.heap.get? b = some u -> h'.get? b = some u) (heo : ∃ u, h'.get? e = some u)
  (new : ObjOk X.prog X.w (upd H x o) h' x o) : Inv X pins σ (upd H x o) { s with heap := h', toks := t' } := I.un (Un.write mu he k heo) (I.hok.write mu he k heo new)
theorem Inv.pins_of {pins' : List (Addr × Obj)} (I : Inv X pins σ H s) (h : ∀ p ∈ pins', s.heap.get? p.1 = some p.2 /\ H p.1 = none /\ p.1 ≠ X.env.locals /\ p.1 ∉ X.fs /\ ∀ v, p.2.data ≠ .cell v) : Inv X pins' σ H s :=
 ⟨I.ok, I.os, I.bare, I.base, I.loc, I.cell, I.free, I.freeC, fun p hp => (List.mem_append.mp hp).elim (fun z => I.pin p (List.mem_append_left _ z)) (h p), I.hok, I.len⟩
theorem ye {N : List Str} (hN : N.Nodup) {i j : Nat} {x : Str} (a : N[i]? = some x) (b : N[j]? = some x) : i = j := by
 obtain ⟨h1, e1⟩ := List.getElem?_eq_some_iff.mp a
 obtain ⟨h2, e2⟩ := List.getElem?_eq_some_iff.mp b
 exact (List.getElem_inj hN).mp (e1.trans e2.symm)
theorem uW {M : Model} {A : Around} {E : Value -> Shared -> Prop} {i : Nat} {x : Str} {v : V} {u : Value} {Q : Unit -> Shared -> Prop} (I : Inv X pins σ H s) (hN : X.N.Nodup) (hi : X.N[i]? = some x) (hx : Loc X.env.scope x) (r : RelV v u)
  (h : ∀ s', Inv X pins (σ.set i (some v)) H s' -> (∃ a, Heap.SameBut a s.heap s'.heap /\ (a = X.env.locals \/ X.env.cells.lookup x = some a)) -> Q () s') (hf : X.fn x = true \/ X.env.scope.names.lookup x = some .local := by first | exact .inl rfl | exact .inr rfl | assumption) : wpAny M A (storeName X.env x u) Q E s := by
 obtain ⟨m, hn, hl⟩ := id I.loc
 have hcls : (X.env.scope.kind == .class || (X.env.scope.kind == .module && X.env.locals != X.env.globals)) = false := by rw [I.ok.kind]; rfl
 have hiσ : i < σ.length := by rw [I.len]; exact (List.getElem?_eq_some_iff.mp hi).1
 have cne := I.cne
 have tracked : ∀ {a : Addr} {h' : Heap}, (∃ o, s.heap.get? a = some o /\ H a = none) -> Heap.SameBut a s.heap h' -> HOk X.prog X.w H h' := fun {a h'} ha hs b ob e => by
  obtain ⟨_, _, hfree⟩ := ha
  refine (I.hok b ob e).stay (fun c w' hc q => (hs.2 c ?_).trans q) (fun _ q => q) fun _ _ q => q
  rintro rfl
  rcases hc with rfl | hc
  ·rw [hfree] at e; cases e
  ·rw [hfree] at hc; cases hc
 rcases hx with hk | hk
 ·refine wpAny_storeName_local hk hn (fun h' hn' hs => ?_) hcls
  obtain ⟨oL, _, _, hoL, _⟩ := id hn
  refine h _ ⟨I.ok, I.os, I.bare, ⟨fun b o e n hb hx => ?_, fun b o e n hb hx => ?_, I.base.free, fun b o e hx => ?_, I.base.tups, I.base.frzs, I.base.tbls⟩, ⟨_, hn', fun j y v' e1 e2 e3 => ?_⟩, fun y c e => ?_, I.free, I.freeC, fun p hp => ?_, tracked ⟨oL, hoL, I.free⟩ hs, by simpa using I.len⟩ ⟨_, hs, .inl rfl⟩
  ·exact (hs.2 b (Nat.ne_of_lt (Nat.lt_of_lt_of_le (Heap.lt_size e) I.ok.above))).trans (I.base.keep b o e n hb hx)
  ·obtain ⟨sl, e1⟩ := I.base.slot b o e n hb hx
   exact ⟨sl, (hs.2 b (Nat.ne_of_lt (Nat.lt_of_lt_of_le (Heap.lt_size e) I.ok.above))).trans e1⟩
  ·obtain ⟨o', e1⟩ := I.base.there b o e hx
   exact ⟨o', (hs.2 b (Nat.ne_of_lt (Nat.lt_of_lt_of_le (Heap.lt_size e) I.ok.above))).trans e1⟩
  ·by_cases hj : j = i
   ·subst hj
    rw [hi] at e1; cases e1
    rw [List.getElem?_set_self hiσ] at e2
    cases e2
    exact ⟨u, r, .inl ⟨hk, by simp⟩⟩
   ·rw [List.getElem?_set_ne (Ne.symm hj)] at e2
    obtain ⟨u', r', q⟩ := hl j y v' e1 e2 e3
    refine ⟨u', r', ?_⟩
    rcases q with ⟨k, e⟩ | ⟨k, c, e, z⟩
    ·refine .inl ⟨k, ?_⟩
     have : y ≠ x := fun e => hj (ye hN e1 (e ▸ hi))
     simp [this, e]
    ·exact .inr ⟨k, c, e, z.sameBut hs (cne y c e)⟩
  ·obtain ⟨w', z⟩ := I.cell y c e
   exact ⟨w', z.sameBut hs (cne y c e)⟩
  ·obtain ⟨e, n, ne, nf, d⟩ := I.pin p hp
   exact ⟨(hs.2 p.1 ne).trans e, n, ne, nf, d⟩
 ·have hfn : X.fn x = true := by
   rcases hf with z | z
   ·exact z
   ·rw [z] at hk; cases hk
  obtain ⟨c, hc⟩ := I.ok.has x (.inl hk)
  obtain ⟨w', z⟩ := I.cell x c hc
  refine wpAny_storeName_cell I.ok.kind hk hc z (fun h' hc' hs => ?_)
  obtain ⟨oc, hoc, hocd⟩ := id z
  refine h { s with heap := h' } ⟨I.ok, I.os, I.bare, ⟨fun b o e n hb hx => ?_, fun b o e n hb hx => ?_, I.base.free, fun b o e hx => ?_, I.base.tups, I.base.frzs, I.base.tbls⟩, ⟨m, hn.sameBut hs (Ne.symm (cne x c hc)), fun j y v' e1 e2 e3 => ?_⟩, fun y c' e => ?_, I.free, I.freeC, fun p hp => ?_, tracked ⟨oc, hoc, I.freeC x c hc⟩ hs, by simpa using I.len⟩ ⟨c, hs, .inr hc⟩
  ·exact (hs.2 b (Nat.ne_of_lt (Nat.lt_of_lt_of_le (Heap.lt_size e) (I.ok.cab x c hfn hc)))).trans (I.base.keep b o e n hb hx)
  ·obtain ⟨sl, e1⟩ := I.base.slot b o e n hb hx
   exact ⟨sl, (hs.2 b (Nat.ne_of_lt (Nat.lt_of_lt_of_le (Heap.lt_size e) (I.ok.cab x c hfn hc)))).trans e1⟩
  ·obtain ⟨o', e1⟩ := I.base.there b o e hx
   exact ⟨o', (hs.2 b (Nat.ne_of_lt (Nat.lt_of_lt_of_le (Heap.lt_size e) (I.ok.cab x c hfn hc)))).trans e1⟩
  ·by_cases hj : j = i
   ·subst hj
    rw [hi] at e1; cases e1
    rw [List.getElem?_set_self hiσ] at e2
    cases e2
    exact ⟨u, r, .inr ⟨.inl hk, c, hc, hc'⟩⟩
   ·rw [List.getElem?_set_ne (Ne.symm hj)] at e2
    obtain ⟨u', r', q⟩ := hl j y v' e1 e2 e3
    refine ⟨u', r', ?_⟩
    rcases q with q | ⟨k, c', e, z'⟩
    ·exact .inl q
    ·refine .inr ⟨k, c', e, z'.sameBut hs ?_⟩
     rintro rfl
     exact hj (ye hN e1 (I.ok.inj _ _ _ e hc ▸ hi))
  ·by_cases hcc : c' = c
   ·subst hcc; exact ⟨_, hc'⟩
   ·obtain ⟨w2, z2⟩ := I.cell y c' e
    exact ⟨w2, z2.sameBut hs hcc⟩
  ·obtain ⟨e, n, ne, nf, d⟩ := I.pin p hp
   refine ⟨(hs.2 p.1 ?_).trans e, n, ne, nf, d⟩
   intro q
   rw [q, hoc] at e
   have q' : oc = p.2 := Option.some.inj e
   exact d w' (by rw [<- q']; exact hocd)
theorem yK {M : Model} {A : Around} {E : Value -> Shared -> Prop} {i : Nat} {x : Str} {v : V} {u : Value} {Q : Unit -> Shared -> Prop} (I : Inv X pins σ H s) (hN : X.N.Nodup) (hi : X.N[i]? = some x) (hx : Loc X.env.scope x) (r : RelV v u)
  (h : ∀ s', Inv X pins (σ.set i (some v)) H s' -> Q () s') (hf : X.fn x = true \/ X.env.scope.names.lookup x = some .local := by first | exact .inl rfl | exact .inr rfl | assumption) : wpAny M A (storeName X.env x u) Q E s :=
 uW I hN hi hx r (fun s' I' _ => h s' I') hf
theorem Inv.call' {s' : Shared} {ch : List Addr} (I : Inv X pins σ H s) (ho : s'.os = s.os) (u : Un (frs X.stack) ch H H' s.heap s'.heap) (hok : HOk X.prog X.w H' s'.heap) (hg : AllBare s'.gens)
  (hch : ∀ b ∈ ch, (b ∈ X.ex \/ X.s₀.heap.objs.size <= b) /\ b ≠ X.env.locals /\ (∀ x c, X.env.cells.lookup x = some c -> c ≠ b) /\ ∀ p ∈ X.pn ++ pins, p.1 ≠ b) : Inv X pins σ H' s' := by
 obtain ⟨h', g', d', t', o'⟩ := s'
 have e : o' = s.os := ho
 subst e
 exact I.call (g' := g') (t' := t') (d' := d') u hok hg hch
end
abbrev XK := Value -> Option Addr -> Hp -> Prop
abbrev St := List (Option V)
abbrev VK := V -> Hp -> Prop
abbrev TE := St -> Hp -> VK -> Prop
abbrev TT := St -> Hp -> (Bool -> Hp -> Prop) -> Prop
abbrev TA := St -> Hp -> (List V -> Hp -> Prop) -> Prop
structure Ends where
 nx : St -> Hp -> Prop
 rt : VK
 bk : St -> Hp -> Prop := fun _ _ => False
 ct : St -> Hp -> Prop := fun _ _ => False
abbrev TS := Ends -> St -> Hp -> Prop
def EP (X : Cx) (pins : List (Addr × Obj)) (σ : St) (Q : VK) (u : Value) (s' : Shared) : Prop := ∃ v H', Inv X pins σ H' s' /\ RelV v u /\ Q v H'
def TP (X : Cx) (pins : List (Addr × Obj)) (σ : St) (Q : Bool -> Hp -> Prop) (b : Bool) (s' : Shared) : Prop := ∃ H', Inv X pins σ H' s' /\ Q b H'
def AP (X : Cx) (pins : List (Addr × Obj)) (σ : St) (Q : List V -> Hp -> Prop) (us : List Value) (s' : Shared) : Prop := ∃ vs H', Inv X pins σ H' s' /\ Vals vs us /\ Q vs H'
def SP (X : Cx) (pins : List (Addr × Obj)) (D : Ends) (f : Flow) (s' : Shared) : Prop :=
 match f with
 | .next => ∃ σ' H', Inv X pins σ' H' s' /\ D.nx σ' H'
 | .brk => ∃ σ' H', Inv X pins σ' H' s' /\ D.bk σ' H'
 | .cont => ∃ σ' H', Inv X pins σ' H' s' /\ D.ct σ' H'
 | .ret u => ∃ v σ' H', Inv X pins σ' H' s' /\ RelV v u /\ D.rt v H'
def PE (X : Cx) (e : Expr) (t : TE) : Prop :=
 ∀ (pins : List (Addr × Obj)) (s : Shared) (σ : St) (H : Hp) (Q : VK), Inv X pins σ H s -> t σ H Q -> wpAny (model X.prog X.w) X.A (eval e X.env) (EP X pins σ Q) X.xe s
def PT (X : Cx) (e : Expr) (t : TT) : Prop :=
 ∀ (pins : List (Addr × Obj)) (s : Shared) (σ : St) (H : Hp) (Q : Bool -> Hp -> Prop), Inv X pins σ H s -> t σ H Q -> wpAny (model X.prog X.w) X.A (isTrue e X.env (eval e X.env)) (TP X pins σ Q) X.xe s
def PW (X : Cx) (e : Expr) (t : TT) : Prop :=
 ∀ (whole : Sem Value) (pins : List (Addr × Obj)) (s : Shared) (σ : St) (H : Hp) (Q : Bool -> Hp -> Prop), Inv X pins σ H s -> t σ H Q -> wpAny (model X.prog X.w) X.A (isTrue e X.env whole) (TP X pins σ Q) X.xe s
theorem PW.pt {X : Cx} {e : Expr} {t : TT} (h : PW X e t) : PT X e t := h _
def PA (X : Cx) (es : List Expr) (t : TA) : Prop :=
 ∀ (pos : Pos) (pins : List (Addr × Obj)) (s : Shared) (σ : St) (H : Hp) (Q : List V -> Hp -> Prop), Inv X pins σ H s -> t σ H Q -> wpAny (model X.prog X.w) X.A (spliced (backTo pos (starEach es X.env))) (AP X pins σ Q) X.xe s
def PS (X : Cx) (st : Stmt) (t : TS) : Prop :=
 ∀ (pins : List (Addr × Obj)) (s : Shared) (σ : St) (H : Hp) (D : Ends), Inv X pins σ H s -> t D σ H -> wpAny (model X.prog X.w) X.A (exec st X.env) (SP X pins D) X.xe s
def PSs (X : Cx) (st : List Stmt) (t : TS) : Prop :=
 ∀ (pins : List (Addr × Obj)) (s : Shared) (σ : St) (H : Hp) (D : Ends), Inv X pins σ H s -> t D σ H -> wpAny (model X.prog X.w) X.A (execs st X.env) (SP X pins D) X.xe s
theorem thn {α : Type} {t : Sem α} {Q Q' : α -> Shared -> Prop} {M : Model} {A : Around} {E : Value -> Shared -> Prop} {s : Shared} (h : wpAny M A t Q E s) (hQ : ∀ a s, Q a s -> Q' a s) : wpAny M A t Q' E s := wpAny_mono h hQ fun _ _ x => x
end L2
namespace L2
open PySem PySem.Spec PyProof.Rows
section
variable {X : Cx}
def KH (i : Nat) : TE := fun σ H Q => ∃ v, σ[i]? = some (some v) /\ Q v H
def tC (v : V) : TE := fun _ H Q => Q v H
theorem JT {i : Nat} {x : Str} {pos : Pos} (hN : X.N[i]? = some x) (hv : Vis X.env.scope x) (hd : (x == ("__debug__" : Str)) = false := by decide) (hcd : (x == ("__classdict__" : Str)) = false := by decide) : PE X (.Name x pos) (KH i) := by
 intro pins s σ H Q I h
 obtain ⟨v, e, h⟩ := h
 obtain ⟨m, hn, hl⟩ := I.loc
 obtain ⟨u, r, l⟩ := hl i x v hN e hv
 have fin : EP X pins σ Q u s := ⟨v, H, I, r, h⟩
 rcases l with ⟨hk, hm⟩ | ⟨hk, c, hc, hcell⟩
 ·exact wpAny_Name (wpAny_loadName_local I.ok.kind hk hn hm fin) hd
 ·rcases hk with hk | hk
  ·exact wpAny_Name (wpAny_loadName_cell I.ok.kind hk hc hcell fin) hd
  ·exact wpAny_Name (wpAny_loadName_free I.ok.kind hk hc hcell fin hcd) hd
theorem aG {i j pos} : PE X (.Constant (.int i) j pos) (tC (.int i)) := fun _ _ _ H _ I h => wpAny_Constant_int ⟨.int i, H, I.tok _, ⟨_, rfl⟩, h⟩
theorem MF {b j pos} : PE X (.Constant (.bool b) j pos) (tC (.bl b)) := fun _ _ _ H _ I h => Constant_bool ⟨.bl b, H, I, rfl, h⟩
theorem fM {j pos} : PE X (.Constant .none j pos) (tC .non) := fun _ _ _ H _ I h => Constant_none ⟨.non, H, I, rfl, h⟩
theorem bF {x j pos} : PE X (.Constant (.str x) j pos) (tC (.str x)) := fun _ _ _ H _ I h => Calls.Constant_str ⟨.str x, H, I.tok _, ⟨_, rfl⟩, h⟩
def Gl (X : Cx) (x : Str) : Prop := X.env.kindOf x = some .globalImplicit
theorem qb {E : Value -> Shared -> Prop} {pins : List (Addr × Obj)} {s : Shared} {σ : St} {H : Hp} {x : Str} {u : Value} {pos : Pos} {Q : Value -> Shared -> Prop} (I : Inv X pins σ H s) (hg : Gl X x) (hm : X.mg x = some u) (h : Q u s)
  (hd : (x == ("__debug__" : Str)) = false := by decide) : wpAny (model X.prog X.w) X.A (eval (.Name x pos) X.env) Q E s :=
 Calls.Name_function_global I.ok.kind hg (Calls.loadGlobal_global (by rw [I.ok.glob]; exact I.mod.glob.keeps I.bk) hm h) hd
theorem pH {E : Value -> Shared -> Prop} {pins : List (Addr × Obj)} {s : Shared} {σ : St} {H : Hp} {x : Str} {u : Value} {pos : Pos} {Q : Value -> Shared -> Prop} (I : Inv X pins σ H s) (hg : Gl X x) (hm : X.mg x = none) (hv : bootBuiltins x = some u) (h : Q u s)
  (hn : x ≠ "__name__" := by decide) (hd : (x == ("__debug__" : Str)) = false := by decide) : wpAny (model X.prog X.w) X.A (eval (.Name x pos) X.env) Q E s := by
 obtain ⟨mb, h1, h2⟩ := I.mod.blt
 exact Calls.Name_function_global I.ok.kind hg (Calls.loadGlobal_builtin (by rw [I.ok.glob]; exact I.mod.glob.keeps I.bk) hm (by rw [I.ok.blt]; exact h1.keeps I.bk) ((h2 x hn).trans hv) h) hd
theorem fj {x : Str} {v : V} {u : Value} {pos : Pos} (hg : Gl X x) (hm : X.mg x = some u) (r : RelV v u) (hd : (x == ("__debug__" : Str)) = false := by decide) : PE X (.Name x pos) (tC v) :=
 fun _ _ _ H _ I h => qb I hg hm ⟨v, H, I, r, h⟩ hd
theorem HN {x : Str} {v : V} {u : Value} {pos : Pos} (hg : Gl X x) (hm : X.mg x = none) (hv : bootBuiltins x = some u) (r : RelV v u) (hn : x ≠ "__name__" := by decide) (hd : (x == ("__debug__" : Str)) = false := by decide) : PE X (.Name x pos) (tC v) :=
 fun _ _ _ H _ I h => pH I hg hm hv ⟨v, H, I, r, h⟩ hn hd
variable {a b : Expr} {ta tb : TE} {pos : Pos}
def tB (t : TE) : TT := fun σ H Q => t σ H fun x H1 => ∃ c, x = .bl c /\ Q c H1
theorem kZ {e : Expr} {t : TE} (h : PE X e t) (he : ∀ whole, isTrue e X.env whole = (do let v <- whole; standAt e.pos; holding [v] (truthy v)) := by intro _; rfl) : PT X e (tB t) := by
 intro pins s σ H Q I hw
 refine isTrue_plain (thn (h pins s σ H _ I hw) fun v s1 ⟨x, H1, I1, r1, q1⟩ => ?_) (he _)
 obtain ⟨d, rfl, q⟩ := q1
 cases r1
 exact wpAny_truthy_bool ⟨H1, I1, q⟩
variable {tA tB' : TT} {rest : List Expr}
def Oi (t u : TT) : TT := fun σ H Q => t σ H fun c H1 => if c = true then u σ H1 Q else Q false H1
def tOr (t u : TT) : TT := fun σ H Q => t σ H fun c H1 => if c = true then Q true H1 else u σ H1 Q
def Ob (t : TT) : TT := fun σ H Q => t σ H fun c H1 => Q (!c) H1
theorem wN (ha : PT X a tA) : PW X (.BoolOp .And [a] pos) tA := by
 intro wh pins s σ H Q I h
 refine isTrue_and (thn (ha pins s σ H Q I h) fun c s1 e => ?_)
 cases c with
 | true => exact isTrue_and_nil e
 | false => exact e
theorem Cu (ha : PT X a tA) : PW X (.BoolOp .Or [a] pos) tA := by
 intro wh pins s σ H Q I h
 refine isTrue_or (thn (ha pins s σ H Q I h) fun c s1 e => ?_)
 cases c with
 | false => exact isTrue_or_nil e
 | true => exact e
theorem zZ (ha : PT X a tA) (hb : PW X (.BoolOp .And (b :: rest) pos) tB') : PW X (.BoolOp .And (a :: b :: rest) pos) (Oi tA tB') := by
 intro wh pins s σ H Q I h
 refine isTrue_and (thn (ha pins s σ H _ I h) fun c s1 ⟨H1, I1, q1⟩ => ?_)
 cases c with
 | true => exact hb wh pins s1 σ H1 Q I1 q1
 | false => exact ⟨H1, I1, q1⟩
theorem Bw (ha : PT X a tA) (hb : PW X (.BoolOp .Or (b :: rest) pos) tB') : PW X (.BoolOp .Or (a :: b :: rest) pos) (tOr tA tB') := by
 intro wh pins s σ H Q I h
 refine isTrue_or (thn (ha pins s σ H _ I h) fun c s1 ⟨H1, I1, q1⟩ => ?_)
 cases c with
 | true => exact ⟨H1, I1, q1⟩
 | false => exact hb wh pins s1 σ H1 Q I1 q1
theorem Bb (ha : PT X a tA) : PT X (.UnaryOp .Not a pos) (Ob tA) := by
 intro pins s σ H Q I h
 exact isTrue_not (ha pins s σ H (fun c H1 => Q (!c) H1) I h)
def Mg (ta tb : TE) : TE := fun σ H Q => ta σ H fun x H1 => ∃ c, x = .bl c /\ if c = true then tb σ H1 Q else Q (.bl false) H1
def JP (ta : TE) : TE := fun σ H Q => ta σ H fun x H1 => ∃ c, x = .bl c /\ Q (.bl (!c)) H1
theorem JF {op} {t : TE} (h : PE X a t) : PE X (.BoolOp op [a] pos) t := fun pins s σ H Q I hw => BoolOp_one (h pins s σ H Q I hw)
theorem JV (ha : PE X a ta) (hb : PE X (.BoolOp .And (b :: rest) pos) tb) : PE X (.BoolOp .And (a :: b :: rest) pos) (Mg ta tb) := by
 intro pins s σ H Q I h
 refine BoolOp_and (thn (ha pins s σ H _ I h) fun v s1 ⟨x, H1, I1, r1, q1⟩ => ?_)
 obtain ⟨c, rfl, q1⟩ := q1
 cases r1
 refine wpAny_truthy_bool ?_
 cases c with
 | true => exact hb pins s1 σ H1 Q I1 q1
 | false => exact ⟨.bl false, H1, I1, rfl, q1⟩
theorem Kq (ha : PE X a ta) : PE X (.UnaryOp .Not a pos) (JP ta) := by
 intro pins s σ H Q I h
 refine UnaryOp_ (thn (ha pins s σ H _ I h) fun v s1 ⟨x, H1, I1, r1, q1⟩ => ?_)
 obtain ⟨c, rfl, q1⟩ := q1
 cases r1
 exact not_of (wpAny_truthy_bool ⟨.bl (!c), H1, I1, rfl, q1⟩)
def tIf (t : TT) (ta tb : TE) : TE := fun σ H Q => t σ H fun c H1 => if c = true then ta σ H1 Q else tb σ H1 Q
theorem jD {c : Expr} (hc : PT X c tA) (ha : PE X a ta) (hb : PE X b tb) : PE X (.IfExp c a b pos) (tIf tA ta tb) := by
 intro pins s σ H Q I h
 refine wpAny_IfExp (thn (hc pins s σ H _ I h) fun d s1 ⟨H1, I1, q1⟩ => ?_)
 cases d with
 | true => exact ha pins s1 σ H1 Q I1 q1
 | false => exact hb pins s1 σ H1 Q I1 q1
end
end L2
namespace L2
open PySem PySem.Spec PyProof.Rows
def SqL (K : Fg_) (H : Hp) (a : Addr) (xs : List V) : Prop :=
 Rd H a (.lst xs) \/
  ∃ (o : Obj) (its : Array Value) (n : Nat), K.lookup a = some o /\ o.cls = .type "list" /\ o.dict = none /\ o.data = .seq its n /\ its.size <= sizeLine /\ Vals xs its.toList
def SqT (K : Fg_) (H : Hp) (a : Addr) (xs : List V) : Prop :=
 Rd H a (.tup xs) \/
  ∃ (o : Obj) (its : Array Value) (n : Nat), K.lookup a = some o /\ o.cls = .type "tuple" /\ o.data = .seq its n /\ its.size <= sizeLine /\ Vals xs its.toList
def Ow : Value -> Option V
 | .none => some .non
 | .bool b => some (.bl b)
 | .int i _ => some (.int i)
 | .str x _ => some (.str x)
 | .bytes b _ => some (.byt b)
 | .float b _ => some (.flt b)
 | .ref a => some (.ref a)
 | .type n => some (.ty n)
 | _ => none
theorem RelV.abs {x : V} {u : Value} (r : RelV x u) : Ow u = some x := by
 cases x with
 | non => cases r; rfl
 | bl _ => cases r; rfl
 | int _ => obtain ⟨t, rfl⟩ := r; rfl
 | str _ => obtain ⟨t, rfl⟩ := r; rfl
 | byt _ => obtain ⟨t, rfl⟩ := r; rfl
 | flt _ => obtain ⟨t, rfl⟩ := r; rfl
 | ref _ => cases r; rfl
 | ty _ => cases r; rfl
theorem RelV.inj {x y : V} {u : Value} (r : RelV x u) (q : RelV y u) : x = y := Option.some.inj (r.abs.symm.trans q.abs)
theorem Vals.inj : ∀ {xs ys : List V} {us : List Value}, Vals xs us -> Vals ys us -> xs = ys
 | _, _, _, .nil, .nil => rfl
 | _, _, _, .cons r t, .cons r' t' => by rw [r.inj r', Vals.inj t t']
section
variable {X : Cx} {pins : List (Addr × Obj)} {σ : St} {H : Hp} {s : Shared} {a : Addr} {xs ys : List V}
theorem SqL.of {K : Fg_} (h : H a = some (.lst xs)) : SqL K H a xs := .inl (.inl h)
theorem SqT.of {K : Fg_} (h : H a = some (.tup xs)) : SqT K H a xs := .inl (.inl h)
theorem Inv.list (I : Inv X pins σ H s) (h : SqL X.K H a xs) : ∃ its : List Value, Vals xs its /\ PlainL s.heap a its.toArray /\ xs.length <= sizeLine := by
 rcases h with h | ⟨o, its, n, hk, hc, hd, hs, hz, r⟩
 ·obtain ⟨z, its, n, r, e⟩ := h.ok I.hok
  exact ⟨its, r, ⟨_, n, e, rfl, rfl, rfl⟩, z⟩
 ·refine ⟨its.toList, r, ⟨o, n, I.kIn a o hk, hc, hd, by simpa using hs⟩, ?_⟩
  have e := r.length
  simp only [Array.length_toList] at e
  omega
theorem Inv.tuple (I : Inv X pins σ H s) (h : SqT X.K H a xs) : ∃ its : List Value, Vals xs its /\ IsTup s.heap a its.toArray /\ xs.length <= sizeLine := by
 rcases h with h | ⟨o, its, n, hk, hc, hs, hz, r⟩
 ·obtain ⟨z, its, r, p⟩ := h.ok I.hok
  exact ⟨its, r, p, z⟩
 ·refine ⟨its.toList, r, ⟨o, I.kIn a o hk, hc, n, by simpa using hs⟩, ?_⟩
  have e := r.length
  simp only [Array.length_toList] at e
  omega
theorem Inv.list_inj (I : Inv X pins σ H s) (h : SqL X.K H a xs) (h' : SqL X.K H a ys) : xs = ys := by
 obtain ⟨its, r, ⟨o, n, e, _, _, d⟩, _⟩ := I.list h
 obtain ⟨its', r', ⟨o', n', e', _, _, d'⟩, _⟩ := I.list h'
 rw [e] at e'; cases e'
 rw [d] at d'
 injection d' with d1 _
 have : its = its' := by simpa using congrArg Array.toList d1
 subst this
 exact r.inj r'
end
abbrev Cx.wish (X : Cx) (E : Value -> Shared -> Prop) : Cx := { X with xe := E }
abbrev Cx.nox (X : Cx) : Cx := X.wish fun _ _ => False
theorem Cx.Ok.wish {X : Cx} (ok : X.Ok) (E : Value -> Shared -> Prop) : (X.wish E).Ok :=
 ⟨ok.mod, ok.kind, ok.glob, ok.blt, ok.above, ok.inj, ok.has, ok.cab, ok.hd, ok.frames, ok.stk, ok.exf, ok.bs, ok.bsz, ok.noex, ok.exfs, ok.funs, ok.frf⟩
theorem Cx.Ok.unwish {X : Cx} {E : Value -> Shared -> Prop} (ok : (X.wish E).Ok) : X.Ok :=
 ⟨ok.mod, ok.kind, ok.glob, ok.blt, ok.above, ok.inj, ok.has, ok.cab, ok.hd, ok.frames, ok.stk, ok.exf, ok.bs, ok.bsz, ok.noex, ok.exfs, ok.funs, ok.frf⟩
section
variable {X : Cx} {pins : List (Addr × Obj)} {σ : St} {H : Hp} {s : Shared} {E : Value -> Shared -> Prop}
theorem Inv.wish (I : Inv X pins σ H s) (E : Value -> Shared -> Prop) : Inv (X.wish E) pins σ H s := ⟨I.ok.wish E, I.os, I.bare, I.base, I.loc, I.cell, I.free, I.freeC, I.pin, I.hok, I.len⟩
theorem Inv.unwish (I : Inv (X.wish E) pins σ H s) : Inv X pins σ H s := ⟨I.ok.unwish, I.os, I.bare, I.base, I.loc, I.cell, I.free, I.freeC, I.pin, I.hok, I.len⟩
theorem SP.unwish {D : Ends} {f : Flow} {s' : Shared} (h : SP (X.wish E) pins D f s') : SP X pins D f s' := by
 cases f with
 | next => obtain ⟨σ', H', I, q⟩ := h; exact ⟨σ', H', I.unwish, q⟩
 | brk => obtain ⟨σ', H', I, q⟩ := h; exact ⟨σ', H', I.unwish, q⟩
 | cont => obtain ⟨σ', H', I, q⟩ := h; exact ⟨σ', H', I.unwish, q⟩
 | ret u => obtain ⟨v, σ', H', I, r, q⟩ := h; exact ⟨v, σ', H', I.unwish, r, q⟩
theorem PSs.nox {st : List Stmt} {t : TS} (h : PSs X.nox st t) : PSs X st t := fun pins s σ H D I hw =>
 wpAny_mono (h pins s σ H D (I.wish _) hw) (fun _ _ q => q.unwish) fun _ _ z => False.elim z
end
section
variable {X : Cx} {st : Stmt} {rest : List Stmt} {t u : TS} {e : Expr} {te : TE} {pos : Pos}
def JR : TS := fun D σ H => D.nx σ H
def JS (t u : TS) : TS := fun D σ H => t { D with nx := u D } σ H
theorem dg : PSs X [] JR := fun _ _ σ H _ I h => wpAny_execs_nil ⟨σ, H, I, h⟩
theorem ao (h1 : PS X st t) (h2 : PSs X rest u) : PSs X (st :: rest) (JS t u) := by
 intro pins s σ H D I h
 refine wpAny_execs_cons (thn (h1 pins s σ H { D with nx := u D } I h) fun f s1 q => ?_)
 cases f with
 | next =>
  obtain ⟨σ', H', I', q⟩ := q
  exact h2 pins s1 σ' H' D I' q
 | ret v => exact q
 | brk => exact q
 | cont => exact q
theorem aA (h1 : PS X st t) : PSs X [st] t := by
 intro pins s σ H D I h
 refine wpAny_execs_cons (thn (h1 pins s σ H D I h) fun f s1 q => ?_)
 cases f with
 | next => exact wpAny_execs_nil q
 | ret v => exact q
 | brk => exact q
 | cont => exact q
def GK : TS := fun D σ H => D.bk σ H
theorem Eh : PS X (.Break pos) GK := fun _ _ σ H _ I h => wpAny_Break ⟨σ, H, I, h⟩
theorem Inv.quiet {pins : List (Addr × Obj)} {σ : St} {H : Hp} {s : Shared} (I : Inv X pins σ H s) : interactive X.env = false := by simp [interactive, I.ok.kind]
def Lb (te : TE) : TS := fun D σ H => te σ H fun _ H1 => D.nx σ H1
theorem aW (he : PE X e te) (hs : swapsWith e none pos.line X.env = pure false := by rfl) : PS X (.Expr e pos) (Lb te) := by
 intro pins s σ H D I h
 exact wpAny_Expr_any (thn (he pins s σ H _ I h) fun v s1 ⟨x, H1, I1, r1, q1⟩ => ⟨σ, H1, I1, q1⟩) I.quiet hs
def Oe (te : TE) : TS := fun D σ H => te σ H D.rt
theorem aR (he : PE X e te) : PS X (.Return (some e) pos) (Oe te) := by
 intro pins s σ H D I h
 exact wpAny_Return_some (thn (he pins s σ H _ I h) fun v s1 ⟨x, H1, I1, r1, q1⟩ => ⟨x, σ, H1, I1, r1, q1⟩)
def Ko : TS := fun D _ H => D.rt .non H
theorem Js : PS X (.Return none pos) Ko := fun _ _ σ H _ I h => wpAny_Return_none ⟨.non, σ, H, I, rfl, h⟩
def Mq (c : TT) (t u : TS) : TS := fun D σ H => c σ H fun b H1 => if b = true then t D σ H1 else u D σ H1
theorem fL {c : Expr} {a b : List Stmt} {tc : TT} (hc : PT X c tc) (ha : PSs X a t) (hb : PSs X b u) : PS X (.If c a b pos) (Mq tc t u) := by
 intro pins s σ H D I h
 refine wpAny_If (thn (hc pins s σ H _ I h) fun d s1 ⟨H1, I1, q1⟩ => ?_)
 cases d with
 | true => exact ha pins s1 σ H1 D I1 q1
 | false => exact hb pins s1 σ H1 D I1 q1
def Kl : TS := fun _ _ _ => False
theorem dj : PS X st Kl := fun _ _ _ _ _ _ h => h.elim
end
abbrev TG := V -> St -> Hp -> (St -> Hp -> Prop) -> Prop
abbrev TGs := List V -> St -> Hp -> (St -> Hp -> Prop) -> Prop
def PG (X : Cx) (target : Expr) (t : TG) : Prop :=
 ∀ (pins : List (Addr × Obj)) (s : Shared) (σ : St) (H : Hp) (v : V) (u : Value) (Q : St -> Hp -> Prop), Inv X pins σ H s -> RelV v u -> t v σ H Q ->
  wpAny (model X.prog X.w) X.A (assign target X.env u) (fun _ s' => ∃ σ' H', Inv X pins σ' H' s' /\ Q σ' H') X.xe s
def PGs (X : Cx) (ts : List Expr) (t : TGs) : Prop :=
 ∀ (pins : List (Addr × Obj)) (s : Shared) (σ : St) (H : Hp) (vs : List V) (us : List Value) (Q : St -> Hp -> Prop), Inv X pins σ H s -> Vals vs us -> t vs σ H Q ->
  wpAny (model X.prog X.w) X.A (assignInOrder ((assignEach ts X.env).map (·.2)) us) (fun _ s' => ∃ σ' H', Inv X pins σ' H' s' /\ Q σ' H') X.xe s
abbrev Nk := V -> V -> V -> Hp -> (Hp -> Prop) -> Prop
def Od (X : Cx) (t : Nk) : Prop :=
 ∀ (pins : List (Addr × Obj)) (s : Shared) (σ : St) (H : Hp) (o i v : V) (ov iv u : Value) (Q : Hp -> Prop), Inv X pins σ H s -> RelV o ov -> RelV i iv -> RelV v u -> t o i v H Q ->
  wpAny (model X.prog X.w) X.A (setItem ov iv u) (fun _ s' => ∃ H', Inv X pins σ H' s' /\ Q H') X.xe s
section
variable {X : Cx} {pos : Pos}
def xq (i : Nat) : TG := fun v σ H Q => Q (σ.set i (some v)) H
theorem aH {i : Nat} {x : Str} (hN : X.N.Nodup) (hi : X.N[i]? = some x) (hx : Loc X.env.scope x) (hf : X.fn x = true \/ X.env.scope.names.lookup x = some .local := by first | exact .inl rfl | exact .inr rfl | assumption) : PG X (.Name x pos) (xq i) := by
 intro pins s σ H v u Q I r h
 exact wpAny_assign_Name (yK I hN hi hx r (fun s' I' => ⟨_, H, I', h⟩) hf)
def Oa : TGs := fun vs σ H Q => vs = [] /\ Q σ H
def Ka (t : TG) (u : TGs) : TGs := fun vs σ H Q => ∃ v r, vs = v :: r /\ t v σ H fun σ' H' => u r σ' H' Q
theorem fW : PGs X [] Oa := by
 intro pins s σ H vs us Q I r h
 obtain ⟨e, h⟩ := h
 subst e
 cases r
 exact assignInOrder_nil ⟨σ, H, I, h⟩
theorem aU {e : Expr} {es : List Expr} {t : TG} {u : TGs} (h1 : PG X e t) (h2 : PGs X es u)
  (hs : (assignEach (e :: es) X.env).map (·.2) = assign e X.env :: (assignEach es X.env).map (·.2) := by rfl) : PGs X (e :: es) (Ka t u) := by
 intro pins s σ H vs us Q I r h
 obtain ⟨v, vr, e1, h⟩ := h
 subst e1
 cases r with
 | cons r rr =>
  rw [hs]
  refine assignInOrder_cons (thn (h1 pins s σ H _ _ _ I r h) fun _ s1 ⟨σ1, H1, I1, q1⟩ => ?_)
  exact h2 pins s1 σ1 H1 _ _ Q I1 rr q1
def MN (K : Fg_) (n : Nat) (t : TGs) : TG := fun v σ H Q => ∃ a xs, v = .ref a /\ SqT K H a xs /\ xs.length = n /\ t xs σ H Q
theorem Lw {es : List Expr} {k : Nat} {t : TGs} {n : Nat} (hc : X.calm = true) (h : PGs X es t)
  (hn : (assignEach es X.env).length = n := by rfl) (hst : (assignEach es X.env).findIdx? (·.1) = none := by rfl) : PG X (.Tuple es k pos) (MN X.K n t) := by
 intro pins s σ H v u Q I r hw
 obtain ⟨a, xs, e1, hq, hl, hw⟩ := hw
 subst e1
 cases r
 obtain ⟨its, rv, ht, hz⟩ := I.tuple hq
 refine assign_Tuple_tuple (I.ok.hd hc) ht (by simp [hn, <- hl, rv.length]) hst fun h' hx => ?_
 have I1 : Inv X pins σ H { s with heap := h' } := I.kept (t' := s.toks) fun b o e => hx b o (Nat.ne_of_lt (Heap.lt_size e)) e
 exact h pins _ σ H xs _ Q I1 (by simpa using rv) hw
def Oq (to ti : TE) (t : Nk) : TG := fun v σ H Q => to σ H fun o H1 => ti σ H1 fun i H2 => t o i v H2 fun H3 => Q σ H3
theorem Ku {o i : Expr} {to ti : TE} {t : Nk} (ho : PE X o to) (hi : PE X i ti) (hs : Od X t)
  (ha : ∀ v, assign (.Subscript o i pos) X.env v = (do
   let ov <- holding [v] (eval o X.env)
   let iv <- holding [v, ov] (eval i X.env)
   standAt pos
   holding [v, ov, iv] (setItem ov iv v)
   release [v, ov, iv] []) := by intro _; rfl) : PG X (.Subscript o i pos) (Oq to ti t) := by
 intro pins s σ H v u Q I r h
 rw [ha]
 refine wpAny_bind (wpAny_holding (thn (ho pins s σ H _ I h) fun ov s1 ⟨x, H1, I1, r1, q1⟩ => ?_))
 refine wpAny_bind (wpAny_holding (thn (hi pins s1 σ H1 _ I1 q1) fun iv s2 ⟨y, H2, I2, r2, q2⟩ => ?_))
 refine wpAny_bind (wpAny_standAt (wpAny_bind (wpAny_holding (thn (hs pins s2 σ H2 x y v ov iv u _ I2 r1 r2 r q2) fun _ s3 ⟨H3, I3, q3⟩ => ?_))))
 exact wpAny_release ⟨σ, H3, I3, q3⟩
def Mm (te : TE) (g : TG) : TS := fun D σ H => te σ H fun x H1 => g x σ H1 D.nx
theorem Bm {tg e : Expr} {te : TE} {g : TG} (he : PE X e te) (hg : PG X tg g) (hs : swapsWithSole [tg] e pos.line X.env = pure false := by rfl) (hw : swappedStores [tg] e X.env = pure none := by rfl)
  (h1 : (assignEach [tg] X.env).map (·.2) = [assign tg X.env] := by rfl) : PS X (.Assign [tg] e pos) (Mm te g) := by
 intro pins s σ H D I h
 refine wpAny_Assign_stores (thn (he pins s σ H _ I h) fun v s1 ⟨x, H1, I1, r1, q1⟩ => ?_) hs hw
 rw [h1]
 exact thn (hg pins s1 σ H1 x v _ I1 r1 q1) fun _ s2 q => q
theorem aO {i : Nat} {x : Str} {e : Expr} {te : TE} {pos' : Pos} (hN : X.N.Nodup) (hi : X.N[i]? = some x) (hx : Loc X.env.scope x) (he : PE X e te) (hs : swapsWith e (some (.Name x pos')) pos.line X.env = pure false := by rfl) (hf : X.fn x = true \/ X.env.scope.names.lookup x = some .local := by first | exact .inl rfl | exact .inr rfl | assumption) :
  PS X (.Assign [.Name x pos'] e pos) (Mm te (xq i)) := by
 intro pins s σ H D I h
 refine wpAny_Assign_Name (thn (he pins s σ H _ I h) fun v s1 ⟨y, H1, I1, r1, q1⟩ => ?_) hs
 exact yK I1 hN hi hx r1 (fun s2 I2 => ⟨_, H1, I2, q1⟩) hf
end
section
variable {X : Cx} {pos : Pos}
def Kz (c : TT) (tb : TS) : TS := fun D σ H => ∃ W : Nat -> St -> Hp -> Prop, (∃ m, W m σ H) /\ ∀ m σ H, W m σ H ->
 c σ H fun b H1 => if b = true then ∃ N : St -> Hp -> Prop, (∀ σ' H', N σ' H' -> ∃ m', m' < m /\ W m' σ' H') /\ tb { D with nx := N, ct := N, bk := D.nx } σ H1 else D.nx σ H1
theorem Ge {c : Expr} {body : List Stmt} {tc : TT} {tb : TS} (hp : PassesOwn (model X.prog X.w) X.A X.env X.xe) (hc : PT X c tc) (hb : PSs X body tb) : PS X (.While c body [] pos) (Kz tc tb) := by
 intro pins s σ H D I h
 obtain ⟨W, ⟨m0, w0⟩, turn⟩ := h
 refine wpAny_While (codeAny_whileLoop (fun n s' => ∃ σ' H', Inv X pins σ' H' s' /\ W n σ' H') ?_ m0 ⟨σ, H, I, w0⟩)
 rintro n s1 ⟨σ1, H1, I1, w1⟩
 refine wpAny_passesOwn hp (thn (hc pins s1 σ1 H1 _ I1 (turn n σ1 H1 w1)) fun b s2 ⟨H2, I2, q2⟩ => ?_)
 cases b with
 | true =>
  obtain ⟨N, hN, q2⟩ := q2
  rw [if_pos rfl]
  refine wpAny_passesOwn hp (thn (hb pins s2 σ1 H2 _ I2 q2) fun f s3 q3 => ?_)
  cases f with
  | next =>
   obtain ⟨σ3, H3, I3, n3⟩ := q3
   obtain ⟨m', hm, w3⟩ := hN σ3 H3 n3
   exact ⟨m', hm, σ3, H3, I3, w3⟩
  | cont =>
   obtain ⟨σ3, H3, I3, n3⟩ := q3
   obtain ⟨m', hm, w3⟩ := hN σ3 H3 n3
   exact ⟨m', hm, σ3, H3, I3, w3⟩
  | brk => exact q3
  | ret v => exact q3
 | false =>
  rw [if_neg Bool.false_ne_true]
  exact wpAny_execs_nil ⟨σ1, H2, I2, q2⟩
end
structure It where
 go : Nat -> Hp -> Prop
 yld : Nat -> Hp -> V -> Hp -> Prop
 stop : Nat -> Hp -> Prop
def yo (X : Cx) (pins : List (Addr × Obj)) (H : Hp) (b : Addr) : Prop :=
 H b = none /\ b ≠ X.env.locals /\ b ∉ X.fs /\ (b ∈ X.ex \/ X.s₀.heap.objs.size <= b) /\ (∀ x c, X.env.cells.lookup x = some c -> c ≠ b) /\ ∀ p ∈ X.pn ++ pins, p.1 ≠ b
theorem Inv.fpOk {X : Cx} {pins : List (Addr × Obj)} {σ : St} {H H' : Hp} {s : Shared} {b : Addr} (I : Inv X pins σ H s) (hb : s.heap.objs.size <= b) (hn : H' b = none) : yo X pins H' b := by
 refine ⟨hn, Nat.ne_of_gt (Nat.lt_of_lt_of_le I.lt hb), I.nofs hb, .inr (Nat.le_trans I.sz hb), fun x c e z => ?_, fun p hp z => ?_⟩
 ·obtain ⟨v, q⟩ := I.cell x c e
  exact absurd (Nat.lt_of_lt_of_le q.lt (by rw [z]; exact hb)) (Nat.lt_irrefl _)
 ·exact absurd (Nat.lt_of_lt_of_le (Heap.lt_size (I.pin p hp).1) (by rw [z]; exact hb)) (Nat.lt_irrefl _)
structure Turn (P : Program) (w : World) (K : Fg_) (tg : Expr) (J : It) (fp : List Addr) (it : Addr) (tn : Nat -> Heap -> Prop) : Prop where
 mem : it ∈ fp
 obj : ∀ i h, tn i h -> ∀ b ∈ fp, ∃ o, h.get? b = some o /\ ∀ v, o.data ≠ .cell v
 keep : ∀ i h h', tn i h -> (∀ b ∈ fp, ∀ o, h.get? b = some o -> h'.get? b = some o) -> tn i h'
 item : ∀ (X : Cx), X.prog = P -> X.w = w -> X.K = K -> X.calm = true -> ∀ (i : Nat) (pins : List (Addr × Obj)) (s : Shared) (σ : St) (H : Hp) (E : Value -> Shared -> Prop), Inv X pins σ H s -> (∀ b ∈ fp, yo X pins H b) -> tn i s.heap -> J.go i H ->
  wpAny (model P w) X.A (pyNext (.ref it)) (fun r s1 => ∃ u, r = some u /\
   wpAny (model P w) X.A (letOwnedTupleGo tg (.ref it) u) (fun _ s2 => ∃ x H', Inv X pins σ H' s2 /\ RelV x u /\ J.yld i H x H' /\ tn (i + 1) s2.heap /\ ∀ b ∈ fp, H' b = none) E s1) E s
 done : ∀ (X : Cx), X.prog = P -> X.w = w -> X.K = K -> X.calm = true -> ∀ (i : Nat) (pins : List (Addr × Obj)) (s : Shared) (σ : St) (H : Hp) (E : Value -> Shared -> Prop), Inv X pins σ H s -> (∀ b ∈ fp, yo X pins H b) -> tn i s.heap -> J.stop i H ->
  wpAny (model P w) X.A (pyNext (.ref it)) (fun r s1 => r = none /\ Inv X pins σ H s1) E s
 self : ∀ (A : Around) (i : Nat) (s : Shared) (Q : Value -> Shared -> Prop) (E : Value -> Shared -> Prop), tn i s.heap -> Q (.ref it) s -> wpAny (model P w) A (pyIter (.ref it)) Q E s
abbrev TI := St -> Hp -> (It -> Hp -> Prop) -> Prop
def PIE (X : Cx) (pins : List (Addr × Obj)) (σ : St) (tg : Expr) (R : It -> Hp -> Prop) (itv : Value) (s2 : Shared) : Prop :=
 ∃ (it : Addr) (fp : List Addr) (tn : Nat -> Heap -> Prop) (J : It) (H' : Hp), itv = .ref it /\ Inv X pins σ H' s2 /\ Turn X.prog X.w X.K tg J fp it tn /\ tn 0 s2.heap /\ (∀ b ∈ fp, yo X pins H' b) /\ R J H'
def PI (X : Cx) (tg iter : Expr) (wi : TI) : Prop :=
 ∀ (pins : List (Addr × Obj)) (s : Shared) (σ : St) (H : Hp) (R : It -> Hp -> Prop), Inv X pins σ H s -> wi σ H R ->
  wpAny (model X.prog X.w) X.A (eval iter X.env) (fun v s1 => wpAny (model X.prog X.w) X.A (pyIter v) (PIE X pins σ tg R) X.xe s1) X.xe s
theorem BR {M : Model} {A : Around} {E : Value -> Shared -> Prop} {s : Shared} {tg : Expr} {it : Addr} {u : Value} {o : Obj} {n : String} {vs : Array Value} {Q : Unit -> Shared -> Prop} (ho : s.heap.get? it = some o) (hc : o.cls = .type n) (hd : o.data = .fields vs)
  (hn : ["enumerate", "zip", "dict_itemiterator", "dict_reverseitemiterator", "odict_iterator", "itertools.zip_longest", "itertools.pairwise"].contains n = false) (hQ : Q () s) : wpAny M A (letOwnedTupleGo tg (.ref it) u) Q E s := by
 unfold letOwnedTupleGo
 cases tg <;> first
  | exact wpAny_pure hQ
  | (cases u <;> first
    | exact wpAny_pure hQ
    | (refine wpAny_bind (wpAny_load ho ?_)
       rw [hc, hd]
       show wpAny M A (if (["enumerate", "zip", "dict_itemiterator", "dict_reverseitemiterator", "odict_iterator", "itertools.zip_longest", "itertools.pairwise"].contains n && vs[0]? == some (rawInt _)) = true then _ else _) Q E s
       rw [if_neg (by intro h; rw [hn, Bool.false_and] at h; cases h)]
       exact wpAny_pure hQ))
def Itl (K : Fg_) (a : Addr) : It :=
 ⟨fun i H => ∃ xs x, SqL K H a xs /\ xs[i]? = some x, fun i H x H' => H' = H /\ ∀ xs, SqL K H a xs -> xs[i]? = some x, fun i H => ∃ xs, SqL K H a xs /\ xs.length <= i⟩
def Itr (lo : Int) (n : Nat) : It := ⟨fun i _ => i < n, fun i H x H' => H' = H /\ x = .int (lo + i), fun i _ => n <= i⟩
theorem Ab {P : Program} {w : World} {K : Fg_} {tg : Expr} (a it : Addr) : Turn P w K tg (Itl K a) [it] it (fun i h => h.IsListIter it a i) where
 mem := by simp
 obj := fun i h st b hb => by
  have e : b = it := by simpa using hb
  subst e
  obtain ⟨o, e, c, d⟩ := st
  exact ⟨o, e, fun v z => by rw [d] at z; cases z⟩
 keep := fun i h h' st k => st.at fun o e => k it (by simp) o e
 item := by
  intro X hP hw hK hc i pins s σ H E I hf st hg
  subst hP hw hK
  obtain ⟨xs, x, hq, hx⟩ := hg
  obtain ⟨its, rv, p, hz⟩ := I.list hq
  obtain ⟨u, hu, ru⟩ := rv.get hx
  obtain ⟨f0, f1, f2, f3, f4, f5⟩ := hf it (by simp)
  refine wpAny_pyNext_list_item st p.isList (x := u) (by simpa using hu) fun h' st' sb => ?_
  have I1 : Inv X pins σ H { s with heap := h' } := I.turned (t' := s.toks) (fun b o hb e => (sb.2 b hb).trans e) f0 f1 f3 f4 f5
  obtain ⟨o, e, c, d⟩ := id st'
  exact ⟨u, rfl, BR (s := { s with heap := h' }) e c d (by decide) ⟨x, H, I1, ru, ⟨rfl, fun ys hy => by rw [I.list_inj hy hq]; exact hx⟩, st', fun b hb => (hf b hb).1⟩⟩
 done := by
  intro X hP hw hK hc i pins s σ H E I hf st hg
  subst hP hw hK
  obtain ⟨xs, hq, hx⟩ := hg
  obtain ⟨its, rv, p, hz⟩ := I.list hq
  obtain ⟨f0, f1, f2, f3, f4, f5⟩ := hf it (by simp)
  have hl := rv.length
  exact wpAny_pyNext_list_end (I.ok.hd hc) st p.isList (by simp; omega) fun h' eb => ⟨rfl, I.turned (t' := s.toks) (fun b o hb e => eb b o hb e) f0 f1 f3 f4 f5⟩
 self := fun _ _ _ _ _ st h => wpAny_pyIter_listiter st h
theorem zE {P : Program} {w : World} {K : Fg_} {tg : Expr} (it : Addr) (lo : Int) (n : Nat) : Turn P w K tg (Itr lo n) [it] it (fun i h => IsRangeIter h it (lo + (i : Nat) * 1) ((n : Int) - (i : Nat)) 1) where
 mem := by simp
 obj := fun i h st b hb => by
  have e : b = it := by simpa using hb
  subst e
  exact ⟨_, st, fun v z => by
   have z' : Data.fields _ = Data.cell v := z
   cases z'⟩
 keep := fun i h h' st k => k it (by simp) _ st
 item := by
  intro X hP hw hK hc i pins s σ H E I hf st hg
  subst hP hw hK
  obtain ⟨f0, f1, f2, f3, f4, f5⟩ := hf it (by simp)
  have W := Walks.range (prog := X.prog) (w := X.w) (I.ok.hd hc) it lo 1 n
  refine W.item i s _ _ hg st fun v h' tk hv st' kk => ?_
  obtain ⟨t, rfl⟩ := hv
  have I1 : Inv X pins σ H { s with heap := h', toks := tk } := I.turned (fun b o hb e => kk b o (by simpa using hb) e) f0 f1 f3 f4 f5
  refine ⟨_, rfl, BR (s := { s with heap := h', toks := tk }) (n := "range_iterator") st' rfl rfl (by decide) ⟨.int (lo + i), H, I1, ⟨t, ?_⟩, ⟨rfl, rfl⟩, st', fun b hb => (hf b hb).1⟩⟩
  rw [Int.mul_one]
 done := by
  intro X hP hw hK hc i pins s σ H E I hf st hg
  subst hP hw hK
  obtain ⟨f0, f1, f2, f3, f4, f5⟩ := hf it (by simp)
  exact wpAny_pyNext_range_end (I.ok.hd hc) st (by have : n <= i := hg; omega) fun h' eb => ⟨rfl, I.turned (t' := s.toks) (fun b o hb e => eb b o hb e) f0 f1 f3 f4 f5⟩
 self := fun _ _ _ _ _ st h => wpAny_pyIter_rangeiter st h
end L2
namespace L2
open PySem PySem.Spec PyProof.Rows
section
variable {X : Cx} {tg : Expr}
def Ir (K : Fg_) (tl : TE) : TI := fun σ H R => tl σ H fun x H1 => ∃ a, x = .ref a /\ (∃ xs, SqL K H1 a xs) /\ R (Itl K a) H1
theorem Jp {l : Expr} {tl : TE} (hl : PE X l tl) : PI X tg l (Ir X.K tl) := by
 intro pins s σ H R I h
 refine thn (hl pins s σ H _ I h) fun v s1 ⟨x, H1, I1, r1, q1⟩ => ?_
 obtain ⟨a, e, ⟨xs, hq⟩, q⟩ := q1
 subst e
 cases r1
 obtain ⟨its, rv, p, hz⟩ := I1.list hq
 refine wpAny_pyIter_list p.isList ?_
 refine ⟨s1.heap.objs.size, [s1.heap.objs.size], _, _, H1, rfl, I1.kept (t' := s1.toks) fun b o e => Heap.get?_push_of_some _ e, Ab a _, ⟨_, Heap.get?_push_size _ rfl, rfl, rfl⟩, fun b hb => ?_, q⟩
 have e : b = s1.heap.objs.size := by simpa using hb
 subst e
 exact I1.fpOk (Nat.le_refl _) (I1.hok.fresh (Nat.le_refl _))
theorem EY {pins : List (Addr × Obj)} {σ : St} {H : Hp} {s : Shared} {R : It -> Hp -> Prop} {E : Value -> Shared -> Prop} {lo hi : Int} {t u v : Tok} {tk : Nat} (I : Inv X pins σ H s) (h1 : -(2 ^ 62) <= lo) (h2 : lo < 2 ^ 62) (h3 : -(2 ^ 62) <= hi) (h4 : hi < 2 ^ 62)
  (q : R (Itr lo (hi - lo).toNat) H) : wpAny (model X.prog X.w) X.A (pyIter (.ref s.heap.objs.size)) (PIE X pins σ tg R) E { s with heap := s.heap.push { cls := .type "range", data := .fields #[.int lo t, .int hi u, .int 1 v] }, toks := tk } := by
 refine wpAny_pyIter_range (IsRange.new ..) (small_one h1 h2 h3 h4) ?_
 have I1 : Inv X pins σ H { s with heap := s.heap.push { cls := .type "range", data := .fields #[.int lo t, .int hi u, .int 1 v] }, toks := tk } := I.kept fun b o e => Heap.get?_push_of_some _ e
 refine ⟨(s.heap.push { cls := .type "range", data := .fields #[.int lo t, .int hi u, .int 1 v] }).objs.size, [(s.heap.push { cls := .type "range", data := .fields #[.int lo t, .int hi u, .int 1 v] }).objs.size], _, _, H, rfl,
  I1.kept (t' := tk) fun b o e => Heap.get?_push_of_some _ e, zE _ lo (hi - lo).toNat, ?_, fun b hb => ?_, q⟩
 ·have e1 : lo + ((0 : Nat) : Int) * 1 = lo := by simp
  have e2 : (((hi - lo).toNat : Nat) : Int) - ((0 : Nat) : Int) = Builtin.Range.rangeSize lo hi 1 := by rw [rangeSize_one]; split <;> omega
  show IsRangeIter _ _ (lo + ((0 : Nat) : Int) * 1) ((((hi - lo).toNat : Nat) : Int) - ((0 : Nat) : Int)) 1
  rw [e1, e2]
  exact Heap.get?_push_size _ rfl
 ·have e : b = (s.heap.push { cls := .type "range", data := .fields #[.int lo t, .int hi u, .int 1 v] }).objs.size := by simpa using hb
  subst e
  exact I1.fpOk (Nat.le_refl _) (I1.hok.fresh (Nat.le_refl _))
def Kc (ta : TA) : TI := fun σ H R => ta σ H fun vs H1 => ∃ j : Int, vs = [.int j] /\ -(2 ^ 62) <= j /\ j < 2 ^ 62 /\ R (Itr 0 j.toNat) H1
theorem DP {a : Expr} {ta : TA} {p pos : Pos} (hg : Gl X "range") (hm : X.mg "range" = none) (ha : PA X [a] ta) (hs : starEach [a] X.env = [(false, eval a X.env)] := by rfl) : PI X tg (.Call (.Name "range" p) [a] [] pos) (Kc ta) := by
 intro pins s σ H R I h
 refine Call_ (pH I hg hm boot_range (PyProof.Rows.callWith_type1 (thn (ha pos pins s σ H _ I h) fun us s1 ⟨vs, H1, I1, r1, q1⟩ => ?_) hs rfl))
 obtain ⟨j, e, q1, q2, q⟩ := q1
 subst e
 cases r1 with
 | cons r rr =>
  cases rr
  obtain ⟨t, rfl⟩ := r
  exact call_range_1 (EY I1 (by omega) (by omega) q1 q2 (by simpa using q))
def Mp (wi : TI) (g : TG) (tb : TS) : TS := fun D σ H => wi σ H fun J H1 => ∃ W : Nat -> Nat -> St -> Hp -> Prop, (∃ m, W 0 m σ H1) /\ ∀ i m σ H, W i m σ H ->
 (J.stop i H /\ D.nx σ H) \/ (J.go i H /\ ∃ N : St -> Hp -> Prop, (∀ σ' H', N σ' H' -> ∃ m', m' < m /\ W (i + 1) m' σ' H') /\ ∀ x H', J.yld i H x H' -> g x σ H' fun σ2 H2 => tb { D with nx := N, ct := N, bk := D.nx } σ2 H2)
def uR (fp : List Addr) (h : Heap) : List (Addr × Obj) := fp.filterMap fun b => (h.get? b).map fun o => (b, o)
theorem iM {fp : List Addr} {h : Heap} {b : Addr} {o : Obj} (hb : b ∈ fp) (e : h.get? b = some o) : (b, o) ∈ uR fp h := List.mem_filterMap.mpr ⟨b, hb, by rw [e]; rfl⟩
theorem BK {fp : List Addr} {h : Heap} {p : Addr × Obj} (hp : p ∈ uR fp h) : p.1 ∈ fp /\ h.get? p.1 = some p.2 := by
 obtain ⟨b, hb, e⟩ := List.mem_filterMap.mp hp
 cases q : h.get? b with
 | none => rw [q] at e; cases e
 | some o =>
  rw [q] at e
  have e' : (b, o) = p := Option.some.inj e
  subst e'
  exact ⟨hb, q⟩
theorem Inv.pinned {pins : List (Addr × Obj)} {σ : St} {H : Hp} {s : Shared} {fp : List Addr} (I : Inv X pins σ H s) (hf : ∀ b ∈ fp, yo X pins H b) (ho : ∀ b ∈ fp, ∃ o, s.heap.get? b = some o /\ ∀ v, o.data ≠ .cell v) : Inv X (pins ++ uR fp s.heap) σ H s :=
 I.pins_of fun p hp => (List.mem_append.mp hp).elim (fun z => I.pin p (List.mem_append_right _ z)) fun z => by
  obtain ⟨hb, e⟩ := BK z
  obtain ⟨f0, f1, f2, _⟩ := hf p.1 hb
  obtain ⟨o, e', d⟩ := ho p.1 hb
  rw [e] at e'; cases e'
  exact ⟨e, f0, f1, f2, d⟩
theorem Inv.unpinned {pins pl : List (Addr × Obj)} {σ : St} {H : Hp} {s : Shared} (I : Inv X (pins ++ pl) σ H s) : Inv X pins σ H s := I.pins_of fun p hp => I.pin p (List.mem_append_right _ (List.mem_append_left _ hp))
theorem jg {iter : Expr} {body : List Stmt} {wi : TI} {g : TG} {tb : TS} {pos : Pos} (hp : PassesOwn (model X.prog X.w) X.A X.env X.xe) (hc : X.calm = true) (hi : PI X tg iter wi) (hg : PG X tg g) (hb : PSs X body tb)
  (hs : ∀ x, foldedSetIterable iter X.env x = pure x := by intro _; rfl) : PS X (.For tg iter body [] pos) (Mp wi g tb) := by
 intro pins s σ H D I h
 refine wpAny_For (thn (hi pins s σ H _ I h) fun v s1 h1 => thn h1 fun itv s2 h2 => ?_) hs
 obtain ⟨it, fp, tn, J, H2, e, I2, T, st2, f2, W, ⟨m0, w0⟩, turn⟩ := h2
 subst e
 have stat : ∀ {H' : Hp}, (∀ b ∈ fp, H' b = none) -> ∀ b ∈ fp, yo X pins H' b := fun hn b hb => ⟨hn b hb, (f2 b hb).2⟩
 refine codeAny_forLoop_any (fun n s' => ∃ i σ' H', Inv X pins σ' H' s' /\ tn i s'.heap /\ (∀ b ∈ fp, H' b = none) /\ W i n σ' H') ?_ m0 ⟨0, σ, H2, I2, st2, fun b hb => (f2 b hb).1, w0⟩
 rintro n s3 ⟨i, σ3, H3, I3, st3, fr3, w3⟩
 rcases turn i n σ3 H3 w3 with ⟨stop, qn⟩ | ⟨go, N, hN, step⟩
 ·refine wpAny_passesOwn hp (thn (T.done X rfl rfl rfl hc i pins s3 σ3 H3 X.xe I3 (stat fr3) st3 stop) fun r s4 ⟨hr, I4⟩ => ?_)
  subst hr
  exact wpAny_execs_nil ⟨σ3, H3, I4, qn⟩
 ·refine wpAny_passesOwn hp (thn (T.item X rfl rfl rfl hc i pins s3 σ3 H3 X.xe I3 (stat fr3) st3 go) fun r s4 ⟨u, hr, h4⟩ => ?_)
  subst hr
  refine wpAny_passesOwn hp (thn h4 fun _ s5 ⟨x, H5, I5, r5, y5, st5, fr5⟩ => ?_)
  have I5' := I5.pinned (stat fr5) (T.obj _ _ st5)
  refine wpAny_passesOwn hp (thn (hg _ s5 σ3 H5 x u _ I5' r5 (step x H5 y5)) fun _ s6 ⟨σ6, H6, I6, q6⟩ => ?_)
  refine wpAny_passesOwn hp (thn (hb _ s6 σ6 H6 _ I6 q6) fun f s7 q7 => ?_)
  have again : ∀ {σ7 : St} {H7 : Hp}, Inv X (pins ++ uR fp s5.heap) σ7 H7 s7 -> N σ7 H7 -> ∃ m, m < n /\ ∃ i σ' H', Inv X pins σ' H' s7 /\ tn i s7.heap /\ (∀ b ∈ fp, H' b = none) /\ W i m σ' H' := fun {σ7 H7} I7 n7 => by
   obtain ⟨m', hm, w7⟩ := hN σ7 H7 n7
   refine ⟨m', hm, i + 1, σ7, H7, I7.unpinned, T.keep _ _ _ st5 fun b hb o e => (I7.pin (b, o) (List.mem_append_right _ (List.mem_append_right _ (iM hb e)))).1, fun b hb => ?_, w7⟩
   obtain ⟨o, e, d⟩ := T.obj _ _ st5 b hb
   exact (I7.pin (b, o) (List.mem_append_right _ (List.mem_append_right _ (iM hb e)))).2.1
  cases f with
  | next => obtain ⟨σ7, H7, I7, n7⟩ := q7; exact again I7 n7
  | cont => obtain ⟨σ7, H7, I7, n7⟩ := q7; exact again I7 n7
  | brk => obtain ⟨σ7, H7, I7, q7⟩ := q7; exact ⟨σ7, H7, I7.unpinned, q7⟩
  | ret v => obtain ⟨x7, σ7, H7, I7, r7, q7⟩ := q7; exact ⟨x7, σ7, H7, I7.unpinned, r7, q7⟩
end
theorem FQ {K : Fg_} {a : Addr} {xs : List V} {g : TG} {tb : TS} {D : Ends} {σ : St} {H : Hp} (Pv : Nat -> St -> Hp -> Prop) (h0 : Pv 0 σ H) (hl : ∀ i σ H, i <= xs.length -> Pv i σ H -> SqL K H a xs)
  (hs : ∀ i x σ H, xs[i]? = some x -> Pv i σ H -> g x σ H fun σ2 H2 => tb { D with nx := Pv (i + 1), ct := Pv (i + 1), bk := D.nx } σ2 H2) (hd : ∀ σ H, Pv xs.length σ H -> D.nx σ H) :
  ∃ W : Nat -> Nat -> St -> Hp -> Prop, (∃ m, W 0 m σ H) /\ ∀ i m σ H, W i m σ H ->
   ((Itl K a).stop i H /\ D.nx σ H) \/ ((Itl K a).go i H /\ ∃ N : St -> Hp -> Prop, (∀ σ' H', N σ' H' -> ∃ m', m' < m /\ W (i + 1) m' σ' H') /\ ∀ x H', (Itl K a).yld i H x H' -> g x σ H' fun σ2 H2 => tb { D with nx := N, ct := N, bk := D.nx } σ2 H2) := by
 refine ⟨fun i m σ H => m = xs.length - i /\ i <= xs.length /\ Pv i σ H, ⟨xs.length, by simp, Nat.zero_le _, h0⟩, ?_⟩
 rintro i m σ H ⟨rfl, hi, p⟩
 have q := hl i σ H hi p
 by_cases hlt : i < xs.length
 ·refine .inr ⟨⟨xs, xs[i], q, by simp [hlt]⟩, Pv (i + 1), fun σ' H' p' => ⟨xs.length - (i + 1), by omega, rfl, hlt, p'⟩, fun x H' y => ?_⟩
  obtain ⟨e, y⟩ := y
  subst e
  exact hs i x σ _ (y xs q) p
 ·have e : i = xs.length := by omega
  subst e
  exact .inl ⟨⟨xs, q, Nat.le_refl _⟩, hd σ H p⟩
theorem Ak {lo : Int} {n : Nat} {g : TG} {tb : TS} {D : Ends} {σ : St} {H : Hp} (Pv : Nat -> St -> Hp -> Prop) (h0 : Pv 0 σ H)
  (hs : ∀ i σ H, i < n -> Pv i σ H -> g (.int (lo + i)) σ H fun σ2 H2 => tb { D with nx := Pv (i + 1), ct := Pv (i + 1), bk := D.nx } σ2 H2) (hd : ∀ σ H, Pv n σ H -> D.nx σ H) :
  ∃ W : Nat -> Nat -> St -> Hp -> Prop, (∃ m, W 0 m σ H) /\ ∀ i m σ H, W i m σ H ->
   ((Itr lo n).stop i H /\ D.nx σ H) \/ ((Itr lo n).go i H /\ ∃ N : St -> Hp -> Prop, (∀ σ' H', N σ' H' -> ∃ m', m' < m /\ W (i + 1) m' σ' H') /\ ∀ x H', (Itr lo n).yld i H x H' -> g x σ H' fun σ2 H2 => tb { D with nx := N, ct := N, bk := D.nx } σ2 H2) := by
 refine ⟨fun i m σ H => m = n - i /\ i <= n /\ Pv i σ H, ⟨n, by simp, Nat.zero_le _, h0⟩, ?_⟩
 rintro i m σ H ⟨rfl, hi, p⟩
 by_cases hlt : i < n
 ·refine .inr ⟨hlt, Pv (i + 1), fun σ' H' p' => ⟨n - (i + 1), by omega, rfl, hlt, p'⟩, fun x H' y => ?_⟩
  obtain ⟨e, y⟩ := y
  subst e y
  exact hs i σ _ hlt p
 ·have e : i = n := by omega
  subst e
  exact .inl ⟨Nat.le_refl _, hd σ H p⟩
end L2
namespace L2
open PySem PySem.Spec PyProof.Rows
abbrev R2 := V -> V -> Hp -> VK -> Prop
def OpR (X : Cx) (f : Value -> Value -> Sem Value) (r : R2) : Prop :=
 ∀ (pins : List (Addr × Obj)) (s : Shared) (σ : St) (H : Hp) (x y : V) (v u : Value) (Q : VK), Inv X pins σ H s -> RelV x v -> RelV y u -> r x y H Q ->
  wpAny (model X.prog X.w) X.A (f v u) (EP X pins σ Q) X.xe s
def UnR (X : Cx) (f : Value -> Sem Value) (r : V -> Hp -> VK -> Prop) : Prop :=
 ∀ (pins : List (Addr × Obj)) (s : Shared) (σ : St) (H : Hp) (x : V) (v : Value) (Q : VK), Inv X pins σ H s -> RelV x v -> r x H Q ->
  wpAny (model X.prog X.w) X.A (f v) (EP X pins σ Q) X.xe s
def dM (X : Cx) (f : Value) (r : List V -> Hp -> VK -> Prop) : Prop :=
 ∀ (pins : List (Addr × Obj)) (s : Shared) (σ : St) (H : Hp) (xs : List V) (us : List Value) (Q : VK), Inv X pins σ H s -> Vals xs us -> r xs H Q ->
  wpAny (model X.prog X.w) X.A (call f us) (EP X pins σ Q) X.xe s
def tOp (r : R2) (ta tb : TE) : TE := fun σ H Q => ta σ H fun x H1 => tb σ H1 fun y H2 => r x y H2 Q
def tUn (r : V -> Hp -> VK -> Prop) (ta : TE) : TE := fun σ H Q => ta σ H fun x H1 => r x H1 Q
def rI (C : Int -> Int -> Prop) (g : Int -> Int -> V) : R2 := fun x y H Q => ∃ i j, x = .int i /\ y = .int j /\ C i j /\ Q (g i j) H
def rI0 (g : Int -> Int -> V) : R2 := fun x y H Q => ∃ i j, x = .int i /\ y = .int j /\ Q (g i j) H
def rU (g : Int -> V) : V -> Hp -> VK -> Prop := fun x H Q => ∃ i, x = .int i /\ Q (g i) H
section
variable {X : Cx} {a b c : Expr} {ta tb tc : TE} {pos : Pos}
theorem Mw (ha : PE X a ta) (hb : PE X b tb) {pins : List (Addr × Obj)} {s : Shared} {σ : St} {H : Hp} {R : V -> V -> Hp -> Prop} (I : Inv X pins σ H s)
  (h : ta σ H fun x H1 => tb σ H1 fun y H2 => R x y H2) {Q : Value -> Shared -> Prop} {f : Value -> Value -> Sem Value}
  (hf : ∀ v u s2 x y H2, Inv X pins σ H2 s2 -> RelV x v -> RelV y u -> R x y H2 -> wpAny (model X.prog X.w) X.A (f v u) Q X.xe s2) :
  wpAny (model X.prog X.w) X.A (eval a X.env) (fun v s₁ => wpAny (model X.prog X.w) X.A (eval b X.env) (fun u s₂ => wpAny (model X.prog X.w) X.A (f v u) Q X.xe s₂) X.xe s₁) X.xe s := by
 refine thn (ha pins s σ H _ I h) fun v s1 ⟨x, H1, I1, r1, q1⟩ => ?_
 refine thn (hb pins s1 σ H1 _ I1 q1) fun u s2 ⟨y, H2, I2, r2, q2⟩ => ?_
 exact hf v u s2 x y H2 I2 r1 r2 q2
theorem aL {op : Operator} {r : R2} (ho : OpR X (binaryOp op) r) (ha : PE X a ta) (hb : PE X b tb) : PE X (.BinOp a op b pos) (tOp r ta tb) := by
 intro pins s σ H Q I h
 exact wpAny_BinOp (Mw ha hb I h fun v u s2 x y H2 I2 rx ry q => ho pins s2 σ H2 x y v u Q I2 rx ry q)
theorem Nv {op : UnaryOp} {r : V -> Hp -> VK -> Prop} (ho : UnR X (unaryOp op) r) (ha : PE X a ta) : PE X (.UnaryOp op a pos) (tUn r ta) := by
 intro pins s σ H Q I h
 exact UnaryOp_ (thn (ha pins s σ H _ I h) fun v s1 ⟨x, H1, I1, r1, q1⟩ => ho pins s1 σ H1 x v Q I1 r1 q1)
theorem opI {f : Value -> Value -> Sem Value} {C : Int -> Int -> Prop} {g : Int -> Int -> Int}
  (rule : ∀ (i j : Int) (t u : Tok) (s : Shared) (Q : Value -> Shared -> Prop) (E : Value -> Shared -> Prop), C i j -> Q (.int (g i j) s.toks) { s with toks := s.toks + 1 } -> wpAny (model X.prog X.w) X.A (f (.int i t) (.int j u)) Q E s) :
  OpR X f (rI C fun i j => .int (g i j)) := by
 intro pins s σ H x y v u Q I rx ry h
 obtain ⟨i, j, rfl, rfl, hc, q⟩ := h
 obtain ⟨t, rfl⟩ := rx
 obtain ⟨t', rfl⟩ := ry
 exact rule i j t t' s _ _ hc ⟨.int (g i j), H, I.tok _, ⟨_, rfl⟩, q⟩
theorem Og {f : Value -> Value -> Sem Value} {g : Int -> Int -> Int}
  (rule : ∀ (i j : Int) (t u : Tok) (s : Shared) (Q : Value -> Shared -> Prop) (E : Value -> Shared -> Prop), Q (.int (g i j) s.toks) { s with toks := s.toks + 1 } -> wpAny (model X.prog X.w) X.A (f (.int i t) (.int j u)) Q E s) :
  OpR X f (rI0 fun i j => .int (g i j)) := by
 intro pins s σ H x y v u Q I rx ry h
 obtain ⟨i, j, rfl, rfl, q⟩ := h
 obtain ⟨t, rfl⟩ := rx
 obtain ⟨t', rfl⟩ := ry
 exact rule i j t t' s _ _ ⟨.int (g i j), H, I.tok _, ⟨_, rfl⟩, q⟩
theorem Mx {f : Value -> Value -> Sem Value} {g : Int -> Int -> Bool}
  (rule : ∀ (i j : Int) (t u : Tok) (s : Shared) (Q : Value -> Shared -> Prop) (E : Value -> Shared -> Prop), Q (.bool (g i j)) s -> wpAny (model X.prog X.w) X.A (f (.int i t) (.int j u)) Q E s) :
  OpR X f (rI0 fun i j => .bl (g i j)) := by
 intro pins s σ H x y v u Q I rx ry h
 obtain ⟨i, j, rfl, rfl, q⟩ := h
 obtain ⟨t, rfl⟩ := rx
 obtain ⟨t', rfl⟩ := ry
 exact rule i j t t' s _ _ ⟨.bl (g i j), H, I, rfl, q⟩
def Om (i j : Int) : Prop := 0 <= j /\ j <= 1000000 /\ i.natAbs < 2 ^ 64
def CMul (i j : Int) : Prop := (-(2 ^ 64) < i /\ i < 2 ^ 64) \/ (-(2 ^ 64) < j /\ j < 2 ^ 64)
theorem CMul.ok {i j : Int} (h : CMul i j) : IntMulOk i j := by
 rcases h with ⟨h1, h2⟩ | ⟨h1, h2⟩
 ·exact .of_left (intBits_le_64 h1 h2)
 ·exact .of_right (intBits_le_64 h1 h2)
theorem dJ : OpR X (binaryOp .Add) (rI0 fun i j => .int (i + j)) := Og fun _ _ _ _ _ _ _ q => add_int q
theorem gF : OpR X (binaryOp .Sub) (rI0 fun i j => .int (i - j)) := Og fun _ _ _ _ _ _ _ q => sub_int q
theorem fC : OpR X (binaryOp .Mod) (rI (fun _ j => 0 < j) fun i j => .int (i % j)) := opI fun i j _ _ _ _ _ hc q => by
 have h1 : (0 : Int) < j := hc
 exact mod_int' (by omega) (by rw [Int.fmod_eq_emod_of_nonneg i (by omega)]; exact q)
theorem uM : OpR X (binaryOp .Pow) (rI Om fun i j => .int (i ^ j.toNat)) := opI fun _ _ _ _ _ _ _ hc q => pow_int_small hc.1 hc.2.1 hc.2.2 q
theorem unI {f : Value -> Sem Value} {g : Int -> Int}
  (rule : ∀ (i : Int) (t : Tok) (s : Shared) (Q : Value -> Shared -> Prop) (E : Value -> Shared -> Prop), Q (.int (g i) s.toks) { s with toks := s.toks + 1 } -> wpAny (model X.prog X.w) X.A (f (.int i t)) Q E s) :
  UnR X f (rU fun i => .int (g i)) := by
 intro pins s σ H x v Q I rx h
 obtain ⟨i, rfl, q⟩ := h
 obtain ⟨t, rfl⟩ := rx
 exact rule i t s _ _ ⟨.int (g i), H, I.tok _, ⟨_, rfl⟩, q⟩
theorem Km : UnR X (unaryOp .USub) (rU fun i => .int (-i)) := unI fun _ _ _ _ _ q => neg_int q
end
def KR : V -> V -> Bool
 | .non, .non => true | .non, .int _ => true | .int _, .non => true | .non, .bl _ => true | .bl _, .non => true | .non, .str _ => true | .str _, .non => true
 | .int _, .int _ => true | .bl _, .bl _ => true | .str _, .str _ => true | .byt _, .byt _ => true
 | .int _, .str _ => true | .str _, .int _ => true | .bl _, .str _ => true | .str _, .bl _ => true
 | _, _ => false
def rEq : R2 := fun x y H Q => KR x y = true /\ Q (.bl (decide (x = y))) H
theorem IW {i j : Int} : decide (V.int i = V.int j) = (i == j) := by
 rw [Bool.eq_iff_iff]
 simp
theorem Ly {i j : Bool} : decide (V.bl i = V.bl j) = (i == j) := by
 rw [Bool.eq_iff_iff]
 simp
theorem Ii {i j : Str} : decide (V.str i = V.str j) = (i == j) := by
 rw [Bool.eq_iff_iff]
 simp
theorem Ig {i j : Array UInt8} : decide (V.byt i = V.byt j) = (i.toList == j.toList) := by
 rw [Bool.eq_iff_iff]
 cases i
 cases j
 simp
section
variable {X : Cx} {a b c : Expr} {ta tb tc : TE} {pos : Pos}
theorem fc {pins : List (Addr × Obj)} {σ : St} {H : Hp} {s : Shared} {Q : VK} {k k' : Bool} (I : Inv X pins σ H s) (q : Q (.bl k) H) (e : k = k') : EP X pins σ Q (.bool k') s := by
 subst e
 exact ⟨.bl k, H, I, rfl, q⟩
theorem rJ : OpR X (compareOp .Eq) rEq := by
 intro pins s σ H x y v u Q I rx ry h
 obtain ⟨hs, q⟩ := h
 cases x with
 | non =>
  cases rx
  cases y with
  | non => cases ry; exact PySem.EqNone.eq_none_none (fc I q (by simp))
  | bl j => cases ry; exact PySem.EqNone.eq_none_bool (fc I q (by simp))
  | int j => obtain ⟨t', rfl⟩ := ry; exact PySem.EqNone.eq_none_int (fc I q (by simp))
  | str j => obtain ⟨t', rfl⟩ := ry; exact PySem.EqNone.eq_none_str (fc I q (by simp))
  | _ => exact absurd (show false = true from hs) Bool.false_ne_true
 | bl i =>
  cases rx
  cases y with
  | non => cases ry; exact PySem.EqNone.eq_bool_none (fc I q (by simp))
  | bl j => cases ry; exact eq_bool (fc I q Ly)
  | str j => obtain ⟨t', rfl⟩ := ry; exact PySem.EqMixed.eq_bool_str (fc I q (by simp))
  | _ => exact absurd (show false = true from hs) Bool.false_ne_true
 | int i =>
  obtain ⟨t, rfl⟩ := rx
  cases y with
  | non => cases ry; exact PySem.EqNone.eq_int_none (fc I q (by simp))
  | int j => obtain ⟨t', rfl⟩ := ry; exact eq_int (fc I q IW)
  | str j => obtain ⟨t', rfl⟩ := ry; exact PySem.EqMixed.eq_int_str (fc I q (by simp))
  | _ => exact absurd (show false = true from hs) Bool.false_ne_true
 | str i =>
  obtain ⟨t, rfl⟩ := rx
  cases y with
  | non => cases ry; exact PySem.EqNone.eq_str_none (fc I q (by simp))
  | bl j => cases ry; exact PySem.EqMixed.eq_str_bool (fc I q (by simp))
  | int j => obtain ⟨t', rfl⟩ := ry; exact PySem.EqMixed.eq_str_int (fc I q (by simp))
  | str j => obtain ⟨t', rfl⟩ := ry; exact eq_str (fc I q Ii)
  | _ => exact absurd (show false = true from hs) Bool.false_ne_true
 | byt i =>
  obtain ⟨t, rfl⟩ := rx
  cases y with
  | byt j => obtain ⟨t', rfl⟩ := ry; exact PySem.W.eq_bytes (fc I q Ig)
  | _ => exact absurd (show false = true from hs) Bool.false_ne_true
 | _ => cases y <;> exact absurd (show false = true from hs) Bool.false_ne_true
theorem Aa : OpR X (compareOp .Lt) (rI0 fun i j => .bl (decide (i < j))) := Mx fun _ _ _ _ _ _ _ q => lt_int q
theorem Nx : OpR X (compareOp .LtE) (rI0 fun i j => .bl (decide (i <= j))) := Mx fun _ _ _ _ _ _ _ q => le_int q
theorem vH : OpR X (compareOp .Gt) (rI0 fun i j => .bl (decide (j < i))) := Mx fun _ _ _ _ _ _ _ q => gt_int q
theorem nG : OpR X (compareOp .Is) (fun x y H Q => y = .non /\ Q (.bl (decide (x = .non))) H) := by
 intro pins s σ H x y v u Q I rx ry h
 obtain ⟨rfl, q⟩ := h
 cases ry
 refine is_none_gen (fc I q ?_)
 cases x <;> first
  | (cases rx; rfl)
  | (obtain ⟨t, rfl⟩ := rx; rfl)
theorem Ai : OpR X (compareOp .IsNot) (fun x y H Q => y = .non /\ Q (.bl (!decide (x = .non))) H) := by
 intro pins s σ H x y v u Q I rx ry h
 obtain ⟨rfl, q⟩ := h
 cases ry
 refine isnot_none_gen (fc I q ?_)
 cases x <;> first
  | (cases rx; rfl)
  | (obtain ⟨t, rfl⟩ := rx; rfl)
theorem bC (b : Expr) {op : CmpOp} (h : op ≠ .In := by decide) (h2 : op ≠ .NotIn := by decide) : behindInMarks op b = false := by
 have e1 : (op == CmpOp.In) = false := by cases op <;> first | rfl | exact absurd rfl h
 have e2 : (op == CmpOp.NotIn) = false := by cases op <;> first | rfl | exact absurd rfl h2
 cases b <;> simp [behindInMarks, e1, e2]
theorem wu {op : CmpOp} {r : R2} (ho : OpR X (compareOp op) r) (ha : PE X a ta) (hb : PE X b tb) (hm : behindInMarks op b = false) : PE X (.Compare a [op] [b] pos) (tOp r ta tb) := by
 intro pins s σ H Q I h
 exact wpAny_Compare1 (Mw ha hb I h fun v u s2 x y H2 I2 rx ry q => ho pins s2 σ H2 x y v u Q I2 rx ry q) hm
def Mi (t : TE) : TT := fun σ H Q => t σ H fun x H' => ∃ k, x = .bl k /\ Q k H'
theorem bj {op : CmpOp} {r : R2} (ho : OpR X (compareOp op) r) (ha : PE X a ta) (hb : PE X b tb) (hm : behindInMarks op b = false) : PT X (.Compare a [op] [b] pos) (Mi (tOp r ta tb)) := by
 intro pins s σ H Q I h
 refine wpAny_isTrue_Compare1 (thn (ha pins s σ H _ I h) fun v s1 ⟨x, H1, I1, r1, q1⟩ => thn (hb pins s1 σ H1 _ I1 q1) fun u s2 ⟨y, H2, I2, r2, q2⟩ =>
  thn (ho pins s2 σ H2 x y v u _ I2 r1 r2 q2) fun c s3 ⟨z, H3, I3, r3, k, e, q3⟩ => ?_) hm
 subst e
 cases r3
 exact wpAny_truthy_bool ⟨H3, I3, q3⟩
def GJ (r r' : R2) (ta tb tc : TE) : TE := fun σ H Q => ta σ H fun x H1 => tb σ H1 fun y H2 => r x y H2 fun z H3 => ∃ k, z = .bl k /\
 (if k = true then tc σ H3 fun w' H4 => r' y w' H4 Q else Q (.bl false) H3)
theorem Fb {op op' : CmpOp} {r r' : R2} (ho : OpR X (compareOp op) r) (ho' : OpR X (compareOp op') r') (ha : PE X a ta) (hb : PE X b tb) (hc : PE X c tc)
  (hm : lastMarks [op, op'] [b, c] = false := by with_unfolding_all rfl) : PE X (.Compare a [op, op'] [b, c] pos) (GJ r r' ta tb tc) := by
 intro pins s σ H Q I h
 refine Compare_chain (thn (ha pins s σ H _ I h) fun v s1 ⟨x, H1, I1, r1, q1⟩ => chain_link (thn (hb pins s1 σ H1 _ I1 q1) fun u s2 ⟨y, H2, I2, r2, q2⟩ =>
  thn (ho pins s2 σ H2 x y v u _ I2 r1 r2 q2) fun d s3 ⟨z, H3, I3, r3, k, e, q3⟩ => ?_)) hm
 subst e
 cases r3
 refine wpAny_truthy_bool ?_
 cases k with
 | false => exact ite_ff ⟨.bl false, H3, I3, rfl, q3⟩
 | true => exact ite_tt (chain_last (thn (hc pins s3 σ H3 _ I3 q3) fun w' s4 ⟨z', H4, I4, r4, q4⟩ => ho' pins s4 σ H4 y z' u w' Q I4 r2 r4 q4))
theorem vB : (sizeLine : Nat) < 2 ^ 63 := by rw [sizeLine_eq]; decide
theorem aX : OpR X (binaryOp .Add) (fun x y H Q => ∃ i j, x = .str i /\ y = .str j /\ i.length + j.length <= sizeLine /\ Q (.str (i ++ j)) H) := by
 intro pins s σ H x y v u Q I rx ry h
 obtain ⟨i, j, rfl, rfl, hz, q⟩ := h
 obtain ⟨t, rfl⟩ := rx
 obtain ⟨t', rfl⟩ := ry
 exact add_str (fun t' tk => ⟨.str (i ++ j), H, I.tok _, ⟨_, rfl⟩, q⟩) hz
theorem vals1 {x : V} {us : List Value} (r : Vals [x] us) : ∃ u, us = [u] /\ RelV x u := by
 cases r with
 | cons r1 r2 => cases r2; exact ⟨_, rfl, r1⟩
theorem vals2 {x y : V} {us : List Value} (r : Vals [x, y] us) : ∃ u w', us = [u, w'] /\ RelV x u /\ RelV y w' := by
 cases r with
 | cons r1 r2 =>
  cases r2 with
  | cons r3 r4 => cases r4; exact ⟨_, _, rfl, r1, r3⟩
theorem Dp (hc : X.calm = true) : dM X (.builtin "max") (fun xs H Q => ∃ i j, xs = [.int i, .int j] /\ Q (.int (if j > i then j else i)) H) := by
 intro pins s σ H xs us Q I r h
 obtain ⟨i, j, rfl, q⟩ := h
 obtain ⟨u, w', rfl, ⟨t, rfl⟩, ⟨t', rfl⟩⟩ := vals2 r
 refine max_two_ints (I.ok.hd hc) fun h' tk k => ⟨_, H, I.kept k, ?_, q⟩
 by_cases hj : j > i
 ·rw [if_pos hj, if_pos hj]; exact ⟨_, rfl⟩
 ·rw [if_neg hj, if_neg hj]; exact ⟨_, rfl⟩
theorem Ad (hc : X.calm = true) : dM X (.builtin "min") (fun xs H Q => ∃ i j, xs = [.int i, .int j] /\ Q (.int (if j < i then j else i)) H) := by
 intro pins s σ H xs us Q I r h
 obtain ⟨i, j, rfl, q⟩ := h
 obtain ⟨u, w', rfl, ⟨t, rfl⟩, ⟨t', rfl⟩⟩ := vals2 r
 refine min_two_ints (I.ok.hd hc) fun h' tk k => ⟨_, H, I.kept k, ?_, q⟩
 by_cases hj : j < i
 ·rw [if_pos hj, if_pos hj]; exact ⟨_, rfl⟩
 ·rw [if_neg hj, if_neg hj]; exact ⟨_, rfl⟩
theorem vG : dM X (.type "str") (fun xs H Q => ∃ i, xs = [.int i] /\ i.natAbs.log2 < 1920 /\ Q (.str (toString i)) H) := by
 intro pins s σ H xs us Q I r h
 obtain ⟨i, rfl, hz, q⟩ := h
 obtain ⟨u, rfl, t, rfl⟩ := vals1 r
 exact PySem.P.str_of_int hz ⟨.str _, H, I.tok _, ⟨_, rfl⟩, q⟩
end
end L2
namespace L2
open PySem PySem.Spec PyProof.Rows
structure ObjM (h : Heap) (x dx C : Addr) (mA : Str -> Option Value) : Prop where
 obj : h.get? x = some (PySem.W.instObj C dx)
 ns : h.Ns1 dx mA
 ne : dx ≠ x
theorem Cg {h : Heap} {dx : Addr} {mA : Str -> Option Value} (n : h.Ns1 dx mA) : ∃ od, h.get? dx = some od /\ ∀ name, PySem.W.lookIn name od = some (mA name) := by
 obtain ⟨o, es, ep, ho, hd, hk, _, hm⟩ := n
 refine ⟨o, ho, fun name => ?_⟩
 have e := hm name
 unfold nsFind findBy at e
 rw [<- Array.find?_toList] at e
 unfold PySem.W.lookIn
 rw [hd]
 dsimp only
 split
 ·rename_i y q
  rw [q] at e
  exact congrArg some e
 ·rename_i q
  rw [q] at e
  have a : es.toList.any (·.refKey) = false := by
   rw [List.any_eq_false]
   intro y hy
   obtain ⟨z, t, hkey⟩ := hk y (Array.mem_toList_iff.mp hy)
   simp [DictEntry.refKey, hkey]
  have a' : ¬ es.toList.any (·.refKey) = true := by rw [a]; exact Bool.false_ne_true
  rw [if_neg a']
  exact congrArg some e
theorem ObjM.look {h : Heap} {x dx C : Addr} {mA : Str -> Option Value} (I : ObjM h x dx C mA) : ∃ od, PySem.W.InstAt h x (PySem.W.instObj C dx) C (some od) /\ ∀ name, PySem.W.lookIn name od = some (mA name) :=
 let ⟨od, ho, hl⟩ := Cg I.ns
 ⟨od, ⟨I.obj, rfl, rfl, ho⟩, hl⟩
section
variable {prog : Program} {w : World} {A : Around} {E : Value -> Shared -> Prop} {s : Shared} {K : Fg_} {x dx C f : Addr} {mA : Str -> Option Value} {name : Str} {v : Value}
theorem get_map {expr : Bool} {Q : Value -> Shared -> Prop} (X : K.In s.heap) (I : ObjM s.heap x dx C mA) (hg : PySem.W.plainGet K C name = true) (hh : PySem.W.hasDictIn K C = true)
  (ha : PySem.W.findIn K (.ref C) name = some none) (hv : mA name = some v) (hv' : PySem.W.handedIn v = true) (h : Q v { s with toks := s.toks + 1 }) :
  wpAny (model prog w) A (getAttr (.ref x) name expr) Q E s := by
 obtain ⟨od, J, hl⟩ := I.look
 exact PySem.W.get_value X J (PySem.W.plainGet_of hg).1 (PySem.W.findObj_own hh ha rfl (by rw [hl, hv])) hv' h
theorem Ef {pl : Sem Bool} {Q : Value × List Value -> Shared -> Prop} (X : K.In s.heap) (I : ObjM s.heap x dx C mA) (hg : PySem.W.plainGet K C name = true)
  (hf : PySem.W.findIn K (.ref C) name = some (some (.ref f))) (ht : PySem.W.isFn K (.ref f) = true) (hv : mA name = none) (h : Q (.ref f, [.ref x]) s) :
  wpAny (model prog w) A (getMethod (.ref x) name pl) Q E s := by
 obtain ⟨od, J, hl⟩ := I.look
 exact PySem.W.method_fn X J (PySem.W.plainGet_of hg).1 (PySem.W.plainGet_of hg).2 hf (beq_iff_eq.mp ht) (by show (PySem.W.lookIn name od).map (·.isSome) = some false; rw [hl, hv]; rfl) h
theorem Hs {ns : List Str} {Q : Unit -> Shared -> Prop} (X : K.In s.heap) (I : ObjM s.heap x dx C mA)
  (hs : PySem.W.findIn K (.ref C) "__setattr__" = some (some (.builtin "object.__setattr__"))) (hp : PySem.W.plainOver K C = true) (ht : PySem.W.takerIn K C name = some none) (hh : PySem.W.hasDictIn K C = true)
  (hw : PySem.Within mA ns) (hsz : ns.length <= sizeLine)
  (h : ∀ h', ObjM h' x dx C (fun y => if y = name then some v else mA y) -> Heap.SameBut dx s.heap h' -> Q () { s with heap := h', toks := s.toks + 2 }) :
  wpAny (model prog w) A (setAttr (.ref x) name v) Q E s := by
 obtain ⟨od, J, hl⟩ := I.look
 refine PySem.W.set_plain X J hs (PySem.W.osa_open (s := { s with toks := s.toks + 1 }) (r := none) X J hp ht fun b => ?_)
 obtain ⟨cd, hc, hd'⟩ := PySem.W.any_some hh
 have hx : s.heap.get? x = some ⟨.ref C, some dx, .plain, #[]⟩ := I.obj
 refine wpAny_bind (wpAny_pure (wpAny_bind (wpAny_bind (wpAny_loadPart hx (wpAny_bind (PySem.W.Looks.here (s := { s with toks := s.toks + 1 }) (PySem.W.looks_clsIn X hc) ?_))))))
 rw [hd']
 refine wpAny_pure (a := some dx) (wpAny_bind (wpAny_pure (wpAny_bind ?_)))
 refine wpAny_nsSet1 (s := { s with toks := s.toks + 1 }) I.ns fun h' hn2 hs2 => ?_
 obtain ⟨oD, esD, epD, hoD, hdD, hcD⟩ := hn2.count (PySem.Within.cons name v hw)
 refine wpAny_bind (wpAny_lookBehind hoD (by rw [hdD]; exact pastItsLine_dict (Nat.le_trans hcD (by rw [List.length_cons]; omega))) ?_)
 exact wpAny_pure (h _ ⟨(hs2.2 _ (Ne.symm I.ne)).trans I.obj, hn2, I.ne⟩ hs2)
theorem En {R : Result -> Shared -> Prop} {vs : List Value} {kw : List (Str × Value)} (X : K.In s.heap) (hm : PySem.W.makesIn K C = true)
  (hi : PySem.W.findIn K (.ref C) "__init__" = some (some (.ref f))) (hf : PySem.W.typeIn K (.ref f) = some (.type "function"))
  (h : codeAny (model prog w) (A.under (.builtin "type.__call__" ⟨.ref C :: vs, kw⟩)) (.call (.ref f) ⟨.ref (s.heap.objs.size + 1) :: vs, kw⟩) (PySem.W.InitBack (s.heap.objs.size + 1) R)
   { s with heap := (s.heap.push PySem.W.emptyDict).push (PySem.W.instObj C s.heap.objs.size) }) :
  codeAny (model prog w) A (.call (.ref C) ⟨vs, kw⟩) R s := by
 obtain ⟨hh, g, d, t, os⟩ := s
 exact PySem.W.make_core (PySem.W.makes_of X hm) (PySem.W.looks_findIn X hi) (fun self => PySem.W.bind_fn X self hf) (.inl rfl) h
theorem Cj {R : Result -> Shared -> Prop} (X : K.In s.heap) (hm : PySem.W.makesIn K C = true)
  (hi : PySem.W.findIn K (.ref C) "__init__" = some (some (.builtin "object.__init__")))
  (hb : ∀ self, PySem.W.Looks (model prog w) s.heap (bindSpecial (.builtin "object.__init__") self) (.builtin "object.__init__", [self]))
  (h : codeAny (model prog w) (A.under (.builtin "type.__call__" ⟨[.ref C], []⟩)) (.call (.builtin "object.__init__") ⟨[.ref (s.heap.objs.size + 1)], []⟩) (PySem.W.InitBack (s.heap.objs.size + 1) R)
   { s with heap := (s.heap.push PySem.W.emptyDict).push (PySem.W.instObj C s.heap.objs.size) }) :
  codeAny (model prog w) A (.call (.ref C) ⟨[], []⟩) R s := by
 obtain ⟨hh, g, d, t, os⟩ := s
 exact PySem.W.make_core (PySem.W.makes_of X hm) (PySem.W.looks_findIn X hi) hb (.inr ⟨rfl, rfl⟩) h
end
def mZ (f : Str) (v : V) : List (Str × V) -> List (Str × V)
 | [] => [(f, v)]
 | (g, x) :: r => if g = f then (g, v) :: r else (g, x) :: mZ f v r
theorem pD (f g : Str) (v : V) : ∀ fs : List (Str × V), (mZ f v fs).lookup g = if g = f then some v else fs.lookup g
 | [] => by
  show List.lookup g [(f, v)] = _
  by_cases h : g = f
  ·have hb : (g == f) = true := beq_iff_eq.mpr h
   simp only [List.lookup, hb, if_pos h]
  ·have hb : (g == f) = false := beq_eq_false_iff_ne.mpr h
   simp only [List.lookup, hb, if_neg h]
 | (k, x) :: r => by
  have ih := pD f g v r
  rw [show mZ f v ((k, x) :: r) = (if k = f then (k, v) :: r else (k, x) :: mZ f v r) from rfl]
  by_cases hk : k = f
  ·rw [if_pos hk]
   by_cases h : g = k
   ·have hb : (g == k) = true := beq_iff_eq.mpr h
    simp only [List.lookup, hb, if_pos (h.trans hk)]
   ·have hb : (g == k) = false := beq_eq_false_iff_ne.mpr h
    simp only [List.lookup, hb, if_neg (fun e : g = f => h (e.trans hk.symm))]
  ·rw [if_neg hk]
   by_cases h : g = k
   ·have hb : (g == k) = true := beq_iff_eq.mpr h
    simp only [List.lookup, hb, if_neg (fun e : g = f => hk (h.symm.trans e))]
   ·have hb : (g == k) = false := beq_eq_false_iff_ne.mpr h
    simp only [List.lookup, hb]
    exact ih
theorem pY (f : Str) (v : V) : ∀ fs : List (Str × V), f ∈ (mZ f v fs).map (·.1) /\ ∀ g, g ∈ fs.map (·.1) -> g ∈ (mZ f v fs).map (·.1)
 | [] => ⟨by simp [mZ], fun g h => by simp at h⟩
 | (k, x) :: r => by
  obtain ⟨i1, i2⟩ := pY f v r
  rw [show mZ f v ((k, x) :: r) = (if k = f then (k, v) :: r else (k, x) :: mZ f v r) from rfl]
  by_cases hk : k = f
  ·rw [if_pos hk]
   subst hk
   exact ⟨by simp, fun g h => by simpa using h⟩
  ·rw [if_neg hk]
   refine ⟨?_, fun g h => ?_⟩
   ·rw [List.map_cons]
    exact List.mem_cons_of_mem _ i1
   ·rw [List.map_cons] at h ⊢
    rcases List.mem_cons.mp h with e | e
    ·exact List.mem_cons.mpr (.inl e)
    ·exact List.mem_cons_of_mem _ (i2 g e)
theorem mY (f : Str) (v : V) : ∀ fs : List (Str × V), (mZ f v fs).length <= fs.length + 1
 | [] => by simp [mZ]
 | (k, x) :: r => by
  have ih := mY f v r
  rw [show mZ f v ((k, x) :: r) = (if k = f then (k, v) :: r else (k, x) :: mZ f v r) from rfl]
  by_cases hk : k = f
  ·rw [if_pos hk, List.length_cons, List.length_cons]; omega
  ·rw [if_neg hk, List.length_cons, List.length_cons]; omega
theorem RelO.some_of {v : V} {o : Option Value} (r : RelO (some v) o) : ∃ u, o = some u /\ RelV v u := by
 cases o with
 | none => exact (show False from r).elim
 | some u => exact ⟨u, rfl, r⟩
theorem RelO.none_of {o : Option Value} (r : RelO none o) : o = none := by
 cases o with
 | none => rfl
 | some u => exact (show False from r).elim
theorem Cm {v : V} {u : Value} (r : RelV v u) : PySem.W.handedIn u = true := by
 cases v with
 | non => cases (show u = Value.none from r); rfl
 | bl b => cases (show u = Value.bool b from r); rfl
 | int i => obtain ⟨t, e⟩ := (show ∃ t, u = Value.int i t from r); cases e; rfl
 | str x => obtain ⟨t, e⟩ := (show ∃ t, u = Value.str x t from r); cases e; rfl
 | byt b => obtain ⟨t, e⟩ := (show ∃ t, u = Value.bytes b t from r); cases e; rfl
 | flt b => obtain ⟨t, e⟩ := (show ∃ t, u = Value.float b t from r); cases e; rfl
 | ref a => cases (show u = Value.ref a from r); rfl
 | ty n => cases (show u = Value.type n from r); rfl
section
variable {P : Program} {w : World} {H H' : Hp} {h h' : Heap} {a C dx : Addr} {fs fs' : List (Str × V)}
theorem sG (hok : HOk P w H h) (e : H a = some (.ins C dx fs)) : ∃ mA, ObjM h a dx C mA /\ (∀ f, RelO (fs.lookup f) (mA f)) /\ PySem.Within mA (fs.map (·.1)) /\ fs.length <= 1000 /\ H dx = some (.own a) := by
 obtain ⟨d, z, ne, ob, mA, n, r, q⟩ := (show ObjOk P w H h a (.ins C dx fs) from hok a _ e)
 exact ⟨mA, ⟨ob, n, ne⟩, r, q, z, d⟩
end
structure Cls (K : Fg_) (C : Addr) : Prop where
 pg : PySem.W.plainGet K C Str.empty = true
 hd : PySem.W.hasDictIn K C = true
 po : PySem.W.plainOver K C = true
 sa : PySem.W.findIn K (.ref C) "__setattr__" = some (some (.builtin "object.__setattr__"))
theorem Cls.get {K : Fg_} {C : Addr} (c : Cls K C) (f : Str) : PySem.W.plainGet K C f = true := c.pg
def NoAttr (K : Fg_) (C : Addr) (f : Str) : Prop := PySem.W.findIn K (.ref C) f = some none
theorem NoAttr.taker {K : Fg_} {C : Addr} {f : Str} (n : NoAttr K C f) : PySem.W.takerIn K C f = some none := by
 unfold PySem.W.takerIn
 rw [show PySem.W.findIn K (.ref C) f = some none from n]
 rfl
structure Con (K : Fg_) (C : Addr) (f : Str) (v : V) (u : Value) : Prop where
 at_ : PySem.W.findIn K (.ref C) f = some (some u)
 rel : RelV v u
 get : PySem.W.specialIn K u "__get__" = some none
 cp : PySem.W.copiedNames.contains f = false
structure Meth (K : Fg_) (C : Addr) (m : Str) (f : Addr) : Prop where
 at_ : PySem.W.findIn K (.ref C) m = some (some (.ref f))
 fn : PySem.W.isFn K (.ref f) = true
 kp : PySem.W.keepIn K (.ref f) = true
section
variable {X : Cx} {pins : List (Addr × Obj)} {σ : St} {H : Hp} {s : Shared} {a C dx : Addr} {fs : List (Str × V)} {f : Str} {v : V} {A : Around} {E : Value -> Shared -> Prop}
theorem zM {b : Bool} {Q : Value -> Shared -> Prop} (I : Inv X pins σ H s) (e : H a = some (.ins C dx fs)) (c : Cls X.K C) (n : NoAttr X.K C f) (l : fs.lookup f = some v)
  (h : ∀ u s', Inv X pins σ H s' -> RelV v u -> Q u s') : wpAny (model X.prog X.w) A (getAttr (.ref a) f b) Q E s := by
 obtain ⟨mA, O, r, _, _, _⟩ := sG I.hok e
 obtain ⟨u, hu, ru⟩ := RelO.some_of (v := v) (o := mA f) (by rw [<- l]; exact r f)
 exact get_map I.kIn O (c.get f) c.hd n hu (Cm ru) (h u _ (I.tok _) ru)
theorem qY {m : Str} {g : Addr} {pl : Sem Bool} {Q : Value × List Value -> Shared -> Prop} (I : Inv X pins σ H s) (e : H a = some (.ins C dx fs)) (c : Cls X.K C) (k : Meth X.K C m g) (l : fs.lookup m = none)
  (h : Q (.ref g, [.ref a]) s) : wpAny (model X.prog X.w) A (getMethod (.ref a) m pl) Q E s := by
 obtain ⟨mA, O, r, _, _, _⟩ := sG I.hok e
 have hn : mA m = none := RelO.none_of (by rw [<- l]; exact r m)
 exact Ef I.kIn O (c.get m) k.at_ k.fn hn h
theorem zx {y : V} {u : Value} {Q : Unit -> Shared -> Prop} (I : Inv X pins σ H s) (e : H a = some (.ins C dx fs)) (c : Cls X.K C) (n : NoAttr X.K C f) (hl : fs.length < 1000) (ry : RelV y u)
  (h : ∀ s', Inv X pins σ (upd H a (.ins C dx (mZ f y fs))) s' -> Q () s') : wpAny (model X.prog X.w) A (setAttr (.ref a) f u) Q E s := by
 obtain ⟨mA, O, r, wi, _, ho⟩ := sG I.hok e
 have hz : (fs.map (·.1)).length <= sizeLine := by rw [List.length_map, sizeLine_eq]; omega
 refine Hs I.kIn O c.sa c.po n.taker c.hd wi hz fun h' O' sb => h _ ?_
 have hd : ∃ o, h'.get? dx = some o := let ⟨o, _, _, e', _⟩ := O'.ns; ⟨o, e'⟩
 refine I.write (x := a) (e := dx) (by rw [e]; exact True.intro) (.inr ho) (fun b q hb z => (sb.2 b hb).trans z) hd ?_
 refine ⟨by rw [aF O.ne]; exact ho, ?_, O.ne, O'.obj, _, O'.ns, fun g => ?_, fun g hg => ?_⟩
 ·have := mY f y fs; omega
 ·show RelO ((mZ f y fs).lookup g) (if g = f then some u else mA g)
  rw [pD]
  by_cases q : g = f
  ·rw [if_pos q, if_pos q]; exact ry
  ·rw [if_neg q, if_neg q]; exact r g
 ·by_cases q : g = f
  ·rw [q]; exact (pY f y fs).1
  ·refine (pY f y fs).2 g (wi g fun z => hg ?_)
   show (if g = f then some u else mA g) = none
   rw [if_neg q]; exact z
theorem Inv.made (I : Inv X pins σ H s) : Inv X pins σ (upd (upd H s.heap.objs.size (.own (s.heap.objs.size + 1))) (s.heap.objs.size + 1) (.ins C s.heap.objs.size []))
  { s with heap := (s.heap.push PySem.W.emptyDict).push (PySem.W.instObj C s.heap.objs.size) } := by
 have e1 : (s.heap.push PySem.W.emptyDict).get? s.heap.objs.size = some PySem.W.emptyDict := Heap.get?_push_size s.heap rfl
 have e2 : ((s.heap.push PySem.W.emptyDict).push (PySem.W.instObj C s.heap.objs.size)).get? (s.heap.objs.size + 1) = some (PySem.W.instObj C s.heap.objs.size) := by
  have := Heap.get?_push_size (s.heap.push PySem.W.emptyDict) (o := PySem.W.instObj C s.heap.objs.size) rfl
  rwa [Heap.size_push] at this
 have e3 : (s.heap.push PySem.W.emptyDict).Ns s.heap.objs.size (fun _ => none) := ⟨PySem.W.emptyDict, #[], _, e1, rfl, (fun e he => absurd he (by simp)), fun _ => rfl⟩
 have I1 := I.laid (a := s.heap.objs.size) (o := .own (s.heap.objs.size + 1)) (h' := s.heap.push PySem.W.emptyDict) (t' := s.toks) (fun b u q => Heap.get?_push_of_some _ q) (Nat.le_refl _) ⟨_, e1⟩
 refine I1.laid (a := s.heap.objs.size + 1) (o := .ins C s.heap.objs.size []) (t' := s.toks) (fun b u q => Heap.get?_push_of_some _ q) (Nat.le_of_eq (Heap.size_push _ _)) ?_
 have ne : s.heap.objs.size ≠ s.heap.objs.size + 1 := Nat.ne_of_lt (Nat.lt_succ_self _)
 refine ⟨by rw [aF ne, au], Nat.zero_le _, ne, e2, fun _ => none, (Heap.Ns1.of_empty e3).at fun o q => Heap.get?_push_of_some _ q, fun _ => True.intro, fun y hy => absurd rfl hy⟩
theorem Hw {prog : Program} {w : World} {env : Env} {e : Expr} {f : Str} {pos : Pos} {s : Shared} {Q : Value -> Shared -> Prop} (hb : attributeBase e f env (eval e env) = eval e env)
  (h : wpAny (model prog w) A (eval e env) (fun o s₁ => wpAny (model prog w) A (getAttr o f true) Q E s₁) E s) : wpAny (model prog w) A (eval (.Attribute e f pos) env) Q E s :=
 Attribute_any_ h (by rw [arm_eval_Attribute, hb])
end
def Mt (K : Fg_) (ta : TE) (f : Str) : TE := fun σ H Q => ta σ H fun x H1 => ∃ a C dx fs v, x = .ref a /\ H1 a = some (.ins C dx fs) /\ Cls K C /\ NoAttr K C f /\ fs.lookup f = some v /\ Q v H1
def Nt (K : Fg_) (ta tv : TE) (f : Str) : TS := fun D σ H => tv σ H fun y H1 => ta σ H1 fun x H2 => ∃ a C dx fs, x = .ref a /\ H2 a = some (.ins C dx fs) /\ Cls K C /\ NoAttr K C f /\ fs.length < 1000 /\
 D.nx σ (upd H2 a (.ins C dx (mZ f y fs)))
section
variable {X : Cx} {o e value : Expr} {f : Str} {pos pos' tpos : Pos} {ta tv : TE}
theorem JZ (he : PE X e ta) (hb : attributeBase e f X.env (eval e X.env) = eval e X.env) : PE X (.Attribute e f pos) (Mt X.K ta f) := by
 intro pins s σ H Q I h
 refine Hw hb (thn (he pins s σ H _ I h) fun u s1 ⟨x, H1, I1, rx, a, C, dx, fs, v, ex, ea, c, n, l, q⟩ => ?_)
 subst ex
 obtain rfl : u = Value.ref a := rx
 exact zM I1 ea c n l fun u' s2 I2 ru => ⟨v, H1, I2, ru, q⟩
theorem Jx (ha : PE X o ta) (hv : PE X value tv) (hs : swapsWith value (some (.Attribute o f pos')) pos.line X.env = pure false) : PS X (.Assign [.Attribute o f pos'] value pos) (Nt X.K ta tv f) := by
 intro pins s σ H D I h
 refine plainObj_wpAny_Assign_Attribute (thn (hv pins s σ H _ I h) fun u s1 ⟨y, H1, I1, ry, q⟩ => thn (ha pins s1 σ H1 _ I1 q) fun ov s2 ⟨x, H2, I2, rx, a, C, dx, fs, ex, ea, c, n, l, q2⟩ => ?_) hs
 subst ex
 obtain rfl : ov = Value.ref a := rx
 exact zx I2 ea c n l ry fun s3 I3 => ⟨σ, _, I3, q2⟩
end
section
variable {X : Cx} {pins : List (Addr × Obj)} {σ : St} {H : Hp} {s : Shared} {A : Around} {E : Value -> Shared -> Prop} {Q : Value -> Shared -> Prop} {c : Value} {b : Bool}
inductive TyOf (K : Fg_) (H : Hp) : V -> Value -> Prop where
 | non : TyOf K H .non (.type "NoneType")
 | bl (x : Bool) : TyOf K H (.bl x) (.type "bool")
 | int (i : Int) : TyOf K H (.int i) (.type "int")
 | str (x : Str) : TyOf K H (.str x) (.type "str")
 | flt (x : UInt64) : TyOf K H (.flt x) (.type "float")
 | lst {a : Addr} {xs : List V} (e : H a = some (.lst xs)) : TyOf K H (.ref a) (.type "list")
 | frz {a : Addr} {o : Obj} {xs : List V} (e : H a = some (.frz o (.lst xs))) : TyOf K H (.ref a) (.type "list")
 | tup {a : Addr} {xs : List V} (e : H a = some (.tup xs)) : TyOf K H (.ref a) (.type "tuple")
 | dK {a : Addr} {kvs : List (Key × V)} (e : H a = some (.dK kvs)) : TyOf K H (.ref a) (.type "dict")
 | dT {a : Addr} {kvs : List (List Key × V)} (e : H a = some (.dT kvs)) : TyOf K H (.ref a) (.type "dict")
 | ins {a C dx : Addr} {fs : List (Str × V)} (e : H a = some (.ins C dx fs)) (cl : Cls K C) (ha : PySem.W.findIn K (.ref C) "__class__" = some (some (.builtin "object.__class__")))
   (hn : PySem.W.specialIn K (.builtin "object.__class__") "__get__" = some (some (.builtin "getset_descriptor.__get__"))) (htk : PySem.W.takesIn K (.builtin "object.__class__") = some true)
   (hm : PySem.W.mroIn K C (.type "object") = some true) : TyOf K H (.ref a) (.ref C)
theorem uD {x : V} {u t : Value} (I : Inv X pins σ H s) (rx : RelV x u) (ty : TyOf X.K H x t) (e : PySem.W.kitOne X.K t c = some b) (h : ∀ tk, Q (.bool b) { s with toks := tk }) :
  wpAny (model X.prog X.w) A (call (.builtin "isinstance") [u, c]) Q E s := by
 cases ty with
 | non => cases (show u = Value.none from rx); exact PySem.W.kia_one PySem.W.kitx_none I.kIn True.intro e (fun z => nomatch z) h
 | bl y => cases (show u = Value.bool y from rx); exact PySem.W.kia_one PySem.W.kitx_bool I.kIn True.intro e (fun z => nomatch z) h
 | int i => obtain ⟨t, q⟩ := (show ∃ t, u = Value.int i t from rx); cases q; exact PySem.W.kia_one PySem.W.kitx_int I.kIn True.intro e (fun z => nomatch z) h
 | str y => obtain ⟨t, q⟩ := (show ∃ t, u = Value.str y t from rx); cases q; exact PySem.W.kia_one PySem.W.kitx_str I.kIn True.intro e (fun z => nomatch z) h
 | flt y => obtain ⟨t, q⟩ := (show ∃ t, u = Value.float y t from rx); cases q; exact PySem.W.kia_one PySem.W.kitx_float I.kIn True.intro e (fun z => nomatch z) h
 | @lst a xs ea =>
  cases (show u = Value.ref a from rx)
  obtain ⟨_, _, n, _, h1⟩ := (show ObjOk X.prog X.w H s.heap a (.lst xs) from I.hok a _ ea)
  exact PySem.W.kia_one PySem.W.kitx_list I.kIn ⟨_, h1, rfl⟩ e (fun z => nomatch z) h
 | @frz a ob xs ea =>
  cases (show u = Value.ref a from rx)
  obtain ⟨_, _, _, n, _, h1⟩ := (show ObjOk X.prog X.w H s.heap a (.frz ob (.lst xs)) from I.hok a _ ea)
  exact PySem.W.kia_one PySem.W.kitx_list I.kIn ⟨_, h1, rfl⟩ e (fun z => nomatch z) h
 | @tup a xs ea =>
  cases (show u = Value.ref a from rx)
  obtain ⟨_, _, _, p⟩ := (show ObjOk X.prog X.w H s.heap a (.tup xs) from I.hok a _ ea)
  obtain ⟨o, h1, h2, _⟩ := p
  exact PySem.W.kia_one PySem.W.kitx_tuple I.kIn ⟨o, h1, h2⟩ e (fun z => nomatch z) h
 | @dK a kvs ea =>
  cases (show u = Value.ref a from rx)
  obtain ⟨_, _, vs, _, p⟩ := (show ObjOk X.prog X.w H s.heap a (.dK kvs) from I.hok a _ ea)
  obtain ⟨o, es, ep, h1, h2, _⟩ := p
  exact PySem.W.kia_one PySem.W.kitx_dict I.kIn ⟨o, h1, h2.1⟩ e (fun z => nomatch z) h
 | @dT a kvs ea =>
  cases (show u = Value.ref a from rx)
  obtain ⟨_, _, xs, _, o, es, ep, h1, h2, _⟩ := (show ObjOk X.prog X.w H s.heap a (.dT kvs) from I.hok a _ ea)
  exact PySem.W.kia_one PySem.W.kitx_dict I.kIn ⟨o, h1, h2.1⟩ e (fun z => nomatch z) h
 | @ins a C dx fs ea cl ha hn htk hm =>
  cases (show u = Value.ref a from rx)
  obtain ⟨mA, O, _⟩ := sG I.hok ea
  obtain ⟨od, J, _⟩ := O.look
  exact PySem.W.kia_one (PySem.W.kitx_own (cl.get _) cl.hd ha hn htk hm) I.kIn J e (fun z => nomatch z) h
end
end L2
namespace L2
open PySem PySem.Spec PyProof.Rows
structure Room (k : Nat) (A : Around) : Prop where
 hd : A.handled = none
 dp : A.depth + 3 * k + 5 < recursionLimit
 un : A.units + 16 * k + 200 < cLine
theorem Room.mono {j k : Nat} {A : Around} (r : Room k A) (h : j <= k) : Room j A := ⟨r.hd, by have := r.dp; omega, by have := r.un; omega⟩
theorem Room.deeper {k : Nat} {A : Around} (r : Room (k + 1) A) (env : Env) : Room k (A.deeper env) :=
 ⟨r.hd, by have := r.dp; show A.depth + 1 + 3 * k + 5 < _; omega, by have := r.un; show A.units + 3 + 16 * k + 200 < _; omega⟩
theorem Room.in1 {k : Nat} {A : Around} (r : Room (k + 1) A) : Room k A.in1 :=
 ⟨r.hd, by have := r.dp; show A.depth + 3 * k + 5 < _; omega, by have := r.un; show A.units + 1 + 16 * k + 200 < _; omega⟩
theorem yN {A : Around} {C : Addr} {us : List Value} {kw : List (Str × Value)} : (A.under (.builtin "type.__call__" ⟨.ref C :: us, kw⟩)).depth = A.depth + 1 := by
 first | rfl | simp [Around.under, Code.weight, Code.isCreation, Code.isGuard, Code.isCaller, Code.frames, Code.isFrame, guardIds]
theorem zp {A : Around} {C : Addr} {us : List Value} {kw : List (Str × Value)} : (A.under (.builtin "type.__call__" ⟨.ref C :: us, kw⟩)).units = A.units + 1 := by
 first | rfl | simp [Around.under, Code.cUnits, Code.frames, Code.isFrame]
theorem Room.make {k : Nat} {A : Around} (r : Room (k + 1) A) (C : Addr) (us : List Value) (kw : List (Str × Value)) : Room k (A.under (.builtin "type.__call__" ⟨.ref C :: us, kw⟩)) :=
 ⟨r.hd, by have := r.dp; rw [yN]; omega, by have := r.un; rw [zp]; omega⟩
theorem Room.depth {k : Nat} {A : Around} (r : Room k A) : A.depth < recursionLimit := by have := r.dp; omega
theorem Room.units {k : Nat} {A : Around} (r : Room k A) : A.units + 64 < cLine := by have := r.un; omega
theorem Room.units0 {k : Nat} {A : Around} (r : Room k A) : A.units < cLine := by have := r.un; omega
def JN : TA := fun _ H Q => Q [] H
def Fx (ta : TE) (tr : TA) : TA := fun σ H Q => ta σ H fun x H1 => tr σ H1 fun xs H2 => Q (x :: xs) H2
section
variable {X : Cx} {e : Expr} {es : List Expr} {te : TE} {t : TA} {pos : Pos}
theorem aq : PA X [] JN := fun _ _ _ _ H Q I h => Calls.spliced_nil ⟨[], H, I, .nil, h⟩
theorem aj (ha : PE X e te) (hr : PA X es t) (hs : starEach (e :: es) X.env = (false, eval e X.env) :: starEach es X.env := by rfl) : PA X (e :: es) (Fx te t) := by
 intro pos pins s σ H Q I h
 rw [hs]
 show wpAny _ _ (spliced ((false, eval e X.env) :: backTo pos (starEach es X.env))) _ _ s
 refine Calls.spliced_cons (thn (ha pins s σ H _ I h) fun u s1 ⟨x, H1, I1, r1, q1⟩ => ?_)
 exact thn (hr pos pins s1 σ H1 _ I1 q1) fun us s2 ⟨xs, H2, I2, r2, q2⟩ => ⟨x :: xs, H2, I2, .cons r1 r2, q2⟩
def Oj (t : TA) : TE := fun σ H Q => t σ H fun xs H1 => xs.length <= sizeLine /\ ∀ p, H1 p = none -> Q (.ref p) (upd H1 p (.tup xs))
def NZ (t : TA) : TE := fun σ H Q => t σ H fun xs H1 => xs.length <= sizeLine /\ ∀ p, H1 p = none -> Q (.ref p) (upd H1 p (.lst xs))
theorem gK {x1} (h : PA X es t) : PE X (.Tuple es x1 pos) (Oj t) := by
 intro pins s σ H Q I hq
 refine wpAny_Tuple_spliced (thn (h pos pins s σ H _ I hq) fun us s1 ⟨xs, H1, I1, r, z, q⟩ => ⟨by rw [<- r.length]; exact z, ?_⟩)
 have hf : H1 s1.heap.objs.size = none := I1.hok.fresh (Nat.le_refl _)
 refine ⟨.ref s1.heap.objs.size, upd H1 s1.heap.objs.size (.tup xs), I1.laid (t' := s1.toks) (fun b u e => Heap.get?_push_of_some _ e) (Nat.le_refl _) ?_, rfl, q _ hf⟩
 exact ⟨z, us, r, ⟨_, Heap.get?_push_size _ rfl, rfl, _, rfl⟩⟩
theorem cY (h : PA X es t) : PE X (.List es pos) (NZ t) := by
 intro pins s σ H Q I hq
 refine wpAny_List_spliced (thn (h pos pins s σ H _ I hq) fun us s1 ⟨xs, H1, I1, r, z, q⟩ => ⟨by rw [<- r.length]; exact z, ?_⟩)
 have hf : H1 s1.heap.objs.size = none := I1.hok.fresh (Nat.le_refl _)
 refine ⟨.ref s1.heap.objs.size, upd H1 s1.heap.objs.size (.lst xs), I1.laid (t' := s1.toks) (fun b u e => Heap.get?_push_of_some _ e) (Nat.le_refl _) ?_, rfl, q _ hf⟩
 exact ⟨z, us, 0, r, Heap.get?_push_size _ rfl⟩
end
abbrev Sp := List V -> Hp -> VK -> XK -> Prop
abbrev CXT := List Env -> Hp -> Shared -> XK -> Value -> Shared -> Prop
structure Env0 (P : Program) (w : World) (K : Fg_) (mg : Str -> Option Value) (base : Heap) (A : Around) (outer : List Env) (s : Shared) (H : Hp) : Prop where
 frames : A.frames = some outer
 mod : Mod K mg base
 bs : ∀ b o, base.get? b = some o -> s.heap.get? b = some o /\ H b = none
 bsz : base.objs.size <= s.heap.objs.size
 funs : s.heap.FunFrames base outer
 frf : ∀ b ∈ frs outer, H b = none
 hok : HOk P w H s.heap
 bare : AllBare s.gens
def CE (outer : List Env) (P : Program) (w : World) (H : Hp) (s : Shared) (Q : VK) (u : Value) (s' : Shared) : Prop :=
 ∃ v H', s'.os = s.os /\ AllBare s'.gens /\ Un (frs outer) [] H H' s.heap s'.heap /\ HOk P w H' s'.heap /\ RelV v u /\ Q v H'
def CR (CX : CXT) (outer : List Env) (P : Program) (w : World) (H : Hp) (s : Shared) (Q : VK) (E : XK) (r : Result) (s' : Shared) : Prop :=
 match r with
 | .ok (.ret u) => CE outer P w H s Q u s'
 | .ok _ => False
 | .error e => CX outer H s E e s'
structure FnOk (P : Program) (w : World) (K : Fg_) (mg : Str -> Option Value) (base : Heap) (CX : CXT) (k : Nat) (f : Addr) (fd : FuncData) (ps : List Str) (sp : Sp) : Prop where
 len : ∀ vs H Q E, sp vs H Q E -> vs.length = ps.length
 run : ∀ (A : Around) (outer : List Env) (s : Shared) (H : Hp) (args : Args) (us : List Value) (vs : List V) (Q : VK) (E : XK), Room k A -> Env0 P w K mg base A outer s H -> BindsTo s fd args (ps.zip us) -> Vals vs us -> sp vs H Q E ->
  codeAny (model P w) A (.call (.ref f) args) (CR CX outer P w H s Q E) s
theorem Env0.make {P : Program} {w : World} {K : Fg_} {mg : Str -> Option Value} {base : Heap} {A : Around} {outer : List Env} {s : Shared} {H : Hp} (e : Env0 P w K mg base A outer s H) (C : Addr) (us : List Value) (kw : List (Str × Value)) :
  Env0 P w K mg base (A.under (.builtin "type.__call__" ⟨.ref C :: us, kw⟩)) outer s H := ⟨by first | exact e.frames | (simpa [Around.under, Code.envs, Code.isFrame, pushEnvs] using e.frames), e.mod, e.bs, e.bsz, e.funs, e.frf, e.hok, e.bare⟩
theorem Env0.in1 {P : Program} {w : World} {K : Fg_} {mg : Str -> Option Value} {base : Heap} {A : Around} {outer : List Env} {s : Shared} {H : Hp} (e : Env0 P w K mg base A outer s H) :
  Env0 P w K mg base A.in1 outer s H := ⟨e.frames, e.mod, e.bs, e.bsz, e.funs, e.frf, e.hok, e.bare⟩
section
variable {X : Cx} {pins : List (Addr × Obj)} {σ : St} {H : Hp} {s s' : Shared}
theorem Inv.env0 (I : Inv X pins σ H s) : Env0 X.prog X.w X.K X.mg X.base X.A X.stack s H :=
 ⟨I.ok.frames, I.ok.mod, I.bs, Nat.le_trans I.ok.bsz I.sz, I.stack, I.stkFree, I.hok, I.bare⟩
theorem Inv.after {Q : VK} {u : Value} (I : Inv X pins σ H s) (h : CE X.stack X.prog X.w H s Q u s') : EP X pins σ Q u s' := by
 obtain ⟨v, H', os, bare, un, hok, r, q⟩ := h
 obtain ⟨hh, g, d, t, os'⟩ := s'
 obtain rfl : os' = s.os := os
 exact ⟨v, H', I.call (h' := hh) (g' := g) (d' := d) (t' := t) (ch := []) un hok bare (fun b z => absurd z (by simp)), r, q⟩
end
def Ip (sp : Sp) (dvs : List V) (E : XK) (t : TA) : TE := fun σ H Q => t σ H fun vs H1 => sp (vs ++ dvs) H1 Q E
def JQ (C : Addr) (sp : Sp) (dvs : List V) (E : XK) (t : TA) : TE := fun σ H Q => t σ H fun vs H1 => ∀ x dx, H1 x = none -> H1 dx = none -> dx ≠ x ->
 sp (.ref x :: (vs ++ dvs)) (upd (upd H1 dx (.own x)) x (.ins C dx [])) (fun v H2 => v = .non /\ Q (.ref x) H2) E
def Binds (K : Fg_) (fd : FuncData) (ps : List Str) (ds : List Value) : Prop :=
 ∀ (s : Shared) (us : List Value), K.In s.heap -> (us ++ ds).length = ps.length -> BindsTo s fd ⟨us, []⟩ (ps.zip (us ++ ds))
theorem Binds.all {K : Fg_} {fd : FuncData} {ps : List Str} (h : ∀ us : List Value, us.length = ps.length -> bindArgs fd ⟨us, []⟩ = pure (ps.zip us)) : Binds K fd ps [] := fun s us _ hl => by
 rw [List.append_nil] at hl ⊢
 exact .of_eq (h us hl)
def lg (CX : CXT) (X : Cx) (E : XK) : Prop := ∀ (pins : List (Addr × Obj)) (σ : St) (H : Hp) (s : Shared) (e : Value) (s' : Shared), Inv X pins σ H s -> CX X.stack H s E e s' -> X.xe e s'
section
variable {X : Cx} {CX : CXT} {k : Nat} {f C : Addr} {fd : FuncData} {ps : List Str} {sp : Sp} {dvs : List V} {ds : List Value} {E : XK} {x m : Str} {p pos apos : Pos} {e o : Expr} {es : List Expr} {ta : TE} {t : TA}
theorem yI {pins : List (Addr × Obj)} {σ : St} {H : Hp} {s : Shared} {Q : VK} {us : List Value} {vs : List V} (F : FnOk X.prog X.w X.K X.mg X.base CX k f fd ps sp) (hr : Room k X.A) (hb : Binds X.K fd ps ds) (hd : Vals dvs ds) (hx : lg CX X E)
  (I : Inv X pins σ H s) (r : Vals vs us) (h : sp (vs ++ dvs) H Q E) : wpAny (model X.prog X.w) X.A (call (.ref f) us) (EP X pins σ Q) X.xe s := by
 have r2 : Vals (vs ++ dvs) (us ++ ds) := r.append hd
 have hl : (us ++ ds).length = ps.length := by rw [<- r2.length]; exact F.len _ _ _ _ h
 refine wpAny_call (codeAny_mono (F.run X.A X.stack s H ⟨us, []⟩ (us ++ ds) (vs ++ dvs) Q E hr I.env0 (hb s us I.kIn hl) r2 h) fun r s' hq => ?_)
 cases r with
 | error e => exact hx pins σ H s e s' I hq
 | ok fl =>
  cases fl with
  | ret u => exact I.after hq
  | next => exact False.elim hq
  | brk => exact False.elim hq
  | cont => exact False.elim hq
theorem aK (F : FnOk X.prog X.w X.K X.mg X.base CX k f fd ps sp) (hr : Room k X.A) (hg : Gl X x) (hm : X.mg x = some (.ref f)) (hk : PySem.W.keepIn X.K (.ref f) = true) (hb : Binds X.K fd ps ds) (hd : Vals dvs ds) (hx : lg CX X E)
  (ha : PA X (e :: es) t) (hdb : (x == ("__debug__" : Str)) = false := by decide) (he : starEach (e :: es) X.env = (false, eval e X.env) :: starEach es X.env := by rfl) (hpl : (backTo pos (starEach es X.env)).any (·.1) = false := by rfl) :
  PE X (.Call (.Name x p) (e :: es) [] pos) (Ip sp dvs E t) := by
 intro pins s σ H Q I h
 refine wpAny_Call_Name_kw (qb I hg hm ?_ hdb)
 refine PySem.W.callWith_K (h₀ := X.base) I.ok.mod.kin hk (thn (ha pos pins s σ H _ I h) fun us s1 ⟨vs, H1, I1, r, q⟩ => ⟨I1.kIn, ?_⟩) he hpl
 exact yI F hr hb hd hx I1 r q
structure Mk (K : Fg_) (C f : Addr) : Prop where
 makes : PySem.W.makesIn K C = true
 init : PySem.W.findIn K (.ref C) "__init__" = some (some (.ref f))
 fn : PySem.W.isFn K (.ref f) = true
 kp : PySem.W.keepIn K (.ref C) = true
theorem FW {pins : List (Addr × Obj)} {σ : St} {H : Hp} {s : Shared} {Q : VK} {us : List Value} {vs : List V} (M : Mk X.K C f) (F : FnOk X.prog X.w X.K X.mg X.base CX k f fd ps sp) (hr : Room (k + 1) X.A) (hb : Binds X.K fd ps ds) (hd : Vals dvs ds)
  (hx : lg CX X E) (I : Inv X pins σ H s) (r : Vals vs us)
  (h : ∀ x dx, H x = none -> H dx = none -> dx ≠ x -> sp (.ref x :: (vs ++ dvs)) (upd (upd H dx (.own x)) x (.ins C dx [])) (fun v H2 => v = .non /\ Q (.ref x) H2) E) :
  wpAny (model X.prog X.w) X.A (call (.ref C) us) (EP X pins σ Q) X.xe s := by
 have hq := h (s.heap.objs.size + 1) s.heap.objs.size (I.hok.fresh (Nat.le_succ _)) (I.hok.fresh (Nat.le_refl _)) (Nat.ne_of_lt (Nat.lt_succ_self _))
 have I2 := Inv.made (C := C) I
 have r2 : Vals (V.ref (s.heap.objs.size + 1) :: (vs ++ dvs)) (Value.ref (s.heap.objs.size + 1) :: (us ++ ds)) := .cons rfl (r.append hd)
 have hl : (Value.ref (s.heap.objs.size + 1) :: us ++ ds).length = ps.length := by
  have e := r2.length
  rw [F.len _ _ _ _ hq] at e
  exact e.symm
 refine wpAny_call (En (f := f) I.kIn M.makes M.init (beq_iff_eq.mp M.fn) (codeAny_mono (F.run _ X.stack _ _ ⟨Value.ref (s.heap.objs.size + 1) :: us, []⟩ (Value.ref (s.heap.objs.size + 1) :: (us ++ ds)) _ _ E (hr.make C us [])
  (I2.env0.make C us []) (hb _ (Value.ref (s.heap.objs.size + 1) :: us) I2.kIn hl) r2 hq) fun r s' hq' => ?_))
 cases r with
 | error e => exact hx pins σ _ _ e s' I2 hq'
 | ok fl =>
  cases fl with
  | ret u =>
   obtain ⟨v, H', I3, rv, ev, q3⟩ := I2.after hq'
   subst ev
   exact ⟨rv, ⟨V.ref (s.heap.objs.size + 1), H', I3, rfl, q3⟩⟩
  | next => exact False.elim hq'
  | brk => exact False.elim hq'
  | cont => exact False.elim hq'
theorem fO (M : Mk X.K C f) (F : FnOk X.prog X.w X.K X.mg X.base CX k f fd ps sp) (hr : Room (k + 1) X.A) (hg : Gl X x) (hm : X.mg x = some (.ref C)) (hb : Binds X.K fd ps ds) (hd : Vals dvs ds) (hx : lg CX X E)
  (ha : PA X (e :: es) t) (hdb : (x == ("__debug__" : Str)) = false := by decide) (he : starEach (e :: es) X.env = (false, eval e X.env) :: starEach es X.env := by rfl) (hpl : (backTo pos (starEach es X.env)).any (·.1) = false := by rfl) :
  PE X (.Call (.Name x p) (e :: es) [] pos) (JQ C sp dvs E t) := by
 intro pins s σ H Q I h
 refine wpAny_Call_Name_kw (qb I hg hm ?_ hdb)
 refine PySem.W.callWith_K (h₀ := X.base) I.ok.mod.kin M.kp (thn (ha pos pins s σ H _ I h) fun us s1 ⟨vs, H1, I1, r, q⟩ => ⟨I1.kIn, ?_⟩) he hpl
 exact FW M F hr hb hd hx I1 r q
end
def PK (X : Cx) (kws : List Keyword) (t : TA) : Prop :=
 ∀ (pos : Pos) (pins : List (Addr × Obj)) (s : Shared) (σ : St) (H : Hp) (Q : List V -> Hp -> Prop), Inv X pins σ H s -> t σ H Q -> wpAny (model X.prog X.w) X.A (evalAll ((backToKw pos (keywordEach kws X.env)).map (·.2))) (AP X pins σ Q) X.xe s
section
variable {X : Cx} {CX : CXT} {k : Nat} {f C : Addr} {fd : FuncData} {ps ks : List Str} {sp : Sp} {E : XK} {x m : Str} {p pos apos kpos : Pos} {e o : Expr} {es : List Expr} {kws : List Keyword} {te ta : TE} {t tk : TA} {nm : Option Str}
theorem Ke : PK X [] JN := fun _ _ _ _ H Q I h => wpAny_evalAll_nil ⟨[], H, I, .nil, h⟩
theorem HS (ha : PE X e te) (hr : PK X kws t) : PK X (⟨nm, e, kpos⟩ :: kws) (Fx te t) := by
 intro pos pins s σ H Q I h
 show wpAny _ _ (evalAll ((do let v <- eval e X.env; standAt pos; pure v) :: (backToKw pos (keywordEach kws X.env)).map (·.2))) _ _ s
 refine wpAny_evalAll_cons (wpAny_bind (thn (ha pins s σ H _ I h) fun u s1 ⟨x, H1, I1, r1, q1⟩ => wpAny_bind (wpAny_standAt (wpAny_pure ?_))))
 exact thn (hr pos pins s1 σ H1 _ I1 q1) fun us s2 ⟨xs, H2, I2, r2, q2⟩ => ⟨x :: xs, H2, I2, .cons r1 r2, q2⟩
structure KBinds (K : Fg_) (fd : FuncData) (ps ks : List Str) (g : List Value -> List Value -> List Value) (gV : List V -> List V -> List V) : Prop where
 to : ∀ (s : Shared) (us ws : List Value), K.In s.heap -> (g us ws).length = ps.length -> BindsTo s fd ⟨us, ks.zip ws⟩ (ps.zip (g us ws))
 rel : ∀ {vs : List V} {us : List Value} {zs : List V} {ws : List Value}, Vals vs us -> Vals zs ws -> Vals (gV vs zs) (g us ws)
variable {g : List Value -> List Value -> List Value} {gV : List V -> List V -> List V}
end
structure FnScope (N P : List Str) (sc : Scope) : Prop where
 kind : sc.kind = .function
 co : sc.isCoroutine = false
 gen : sc.isGenerator = false
 nd : N.Nodup
 pre : N.take P.length = P
 par : ∀ x ∈ P, sc.names.lookup x = some .local \/ sc.names.lookup x = some .cell
 nofree : ∀ y ∈ sc.names, y.2 ≠ .free
theorem vL {kindOf : Str -> Option NameKind} {x : Str} : ∀ {binds : List (Str × Value)} {m : Str -> Option Value}, (∀ v, (x, v) ∉ binds) -> bindL kindOf binds m x = m x
 | [], _, _ => rfl
 | (n, v) :: r, m, h => by
  unfold bindL
  rw [vL fun w hw => h w (List.mem_cons_of_mem _ hw)]
  split
  ·have : x ≠ n := by rintro rfl; exact h v List.mem_cons_self
   simp [this]
  ·rfl
theorem vN {kindOf : Str -> Option NameKind} {x : Str} : ∀ {binds : List (Str × Value)} {m : Str -> Option Value}, (∀ v, (x, v) ∉ binds) -> bindC kindOf binds m x = m x
 | [], _, _ => rfl
 | (n, v) :: r, m, h => by
  unfold bindC
  rw [vN fun w hw => h w (List.mem_cons_of_mem _ hw)]
  split
  ·rfl
  ·have : x ≠ n := by rintro rfl; exact h v List.mem_cons_self
   simp [this]
theorem vM {kindOf : Str -> Option NameKind} {x : Str} {v : Value} : ∀ {P : List Str} {vs : List Value} {i : Nat} {m : Str -> Option Value}, P.Nodup -> P[i]? = some x -> vs[i]? = some v -> kindOf x = some .local ->
  bindL kindOf (P.zip vs) m x = some v
 | [], _, _, _, _, h, _, _ => by simp at h
 | _ :: _, [], _, _, _, _, h, _ => by simp at h
 | p :: P, w :: vs, 0, m, nd, h1, h2, hk => by
  simp at h1 h2; subst h1; subst h2
  show bindL kindOf ((p, w) :: P.zip vs) m p = _
  unfold bindL
  rw [vL fun v hv => (List.nodup_cons.mp nd).1 (List.of_mem_zip hv).1, if_pos hk]
  simp
 | p :: P, w :: vs, i + 1, m, nd, h1, h2, hk => by
  show bindL kindOf ((p, w) :: P.zip vs) m x = _
  unfold bindL
  exact vM (i := i) (List.nodup_cons.mp nd).2 (by simpa using h1) (by simpa using h2) hk
theorem uy {kindOf : Str -> Option NameKind} {x : Str} {v : Value} : ∀ {P : List Str} {vs : List Value} {i : Nat} {m : Str -> Option Value}, P.Nodup -> P[i]? = some x -> vs[i]? = some v -> kindOf x ≠ some .local ->
  bindC kindOf (P.zip vs) m x = some v
 | [], _, _, _, _, h, _, _ => by simp at h
 | _ :: _, [], _, _, _, _, h, _ => by simp at h
 | p :: P, w :: vs, 0, m, nd, h1, h2, hk => by
  simp at h1 h2; subst h1; subst h2
  show bindC kindOf ((p, w) :: P.zip vs) m p = _
  unfold bindC
  rw [vN fun v hv => (List.nodup_cons.mp nd).1 (List.of_mem_zip hv).1, if_neg hk]
  simp
 | p :: P, w :: vs, i + 1, m, nd, h1, h2, hk => by
  show bindC kindOf ((p, w) :: P.zip vs) m x = _
  unfold bindC
  exact uy (i := i) (List.nodup_cons.mp nd).2 (by simpa using h1) (by simpa using h2) hk
def start (N : List Str) (vs : List V) : St := vs.map some ++ List.replicate (N.length - vs.length) none
def Hf (CX : CXT) (P : Program) (w : World) (K : Fg_) (mg : Str -> Option Value) (base : Heap) (N : List Str) (qual : Str) (scope : Scope) (f : Addr) (cd : Value) (A : Around) (outer : List Env) (s : Shared) (H : Hp) (E : XK) : Cx where
 prog := P
 w := w
 K := K
 mg := mg
 base := base
 A := A.deeper (envOfC qual scope s.heap.objs.size f cd)
 N := N
 s₀ := s
 H₀ := H
 env := envOfC qual scope s.heap.objs.size f cd
 outer := outer
 stack := envOfC qual scope s.heap.objs.size f cd :: outer
 ex := []
 calm := true
 fn := fun _ => true
 pn := []
 xe := fun e s' => wpAny (model P w) (A.deeper (envOfC qual scope s.heap.objs.size f cd)) (leaving (envOfC qual scope s.heap.objs.size f cd) e) (fun _ s'' => CX outer H s E e s'') (fun e' s'' => CX outer H s E e' s'') s'
theorem yG {sc : Scope} {n : Nat} {x : Str} (h : sc.names.lookup x = some .cell) : ∃ c, (cellsFrom n sc.names []).lookup x = some c := by
 have q := PySem.W.cellsFrom_some sc.names n [] (.inl h)
 exact Option.isSome_iff_exists.mp q
theorem DG {CX : CXT} {P : Program} {w : World} {K : Fg_} {mg : Str -> Option Value} {base : Heap} {N ps : List Str} {qual : Str} {scope : Scope} {f : Addr} {cd : Value} {A : Around} {outer : List Env} {s s1 : Shared} {H : Hp} {E : XK} {us : List Value} {vs : List V}
  (S : FnScope N ps scope) (hd : A.handled = none) (e0 : Env0 P w K mg base A outer s H) (hl : vs.length = ps.length) (r : Vals vs us)
  (x : InCallC s s.heap.objs.size (bindL (envOfC qual scope s.heap.objs.size f cd).kindOf (ps.zip us) fun _ => none) (cellsFrom (s.heap.objs.size + 1) scope.names []) (bindC (envOfC qual scope s.heap.objs.size f cd).kindOf (ps.zip us) fun _ => none) s1) :
  Inv (Hf CX P w K mg base N qual scope f cd A outer s H E) [] (start N vs) H s1 := by
 have hpl : ps.length <= N.length := by have := congrArg List.length S.pre; rw [List.length_take] at this; omega
 obtain ⟨h1, tk, rfl, hk⟩ := x.done
 have noA : ∀ b : Addr, b ∉ (Hf CX P w K mg base N qual scope f cd A outer s H E).ex := fun b z => absurd (show b ∈ ([] : List Addr) from z) (by simp)
 refine ⟨⟨e0.mod, S.kind, rfl, rfl, Nat.le_refl _, fun y z c h1 h2 => ?_, fun y hy => ?_, fun y c _ h => ?_, fun _ => hd, Around.frames_deeper e0.frames, .inr ⟨rfl, rfl⟩, fun b z => absurd z (noA b), e0.bs, e0.bsz, fun b _ _ => noA b, fun b z => absurd z (noA b), e0.funs, e0.frf⟩,
  rfl, e0.bare, Un.kept hk, ⟨_, x.toInCall.ns, fun i y v h1 h2 h3 => ?_⟩, fun y c h => ⟨_, x.cell y c h⟩, e0.hok.fresh (Nat.le_refl _), fun y c h => ?_, fun p hp => absurd (show p ∈ ([] : List (Addr × Obj)) from hp) (by simp), e0.hok.kept hk, ?_⟩
 ·exact name_of_addr x.apart (PySem.mem_of_lookup h1) (PySem.mem_of_lookup h2)
 ·have hy : scope.names.lookup y = some .cell \/ scope.names.lookup y = some .free := hy
  rcases hy with hy | hy
  ·exact yG hy
  ·exact absurd rfl (S.nofree _ (PySem.mem_of_lookup hy))
 ·exact Nat.le_of_lt (x.above y c (PySem.mem_of_lookup h))
 ·have hi : i < vs.length := by
   unfold start at h2
   by_cases hi : i < vs.length
   ·exact hi
   ·rw [List.getElem?_append_right (by simpa using hi)] at h2
    rw [List.getElem?_replicate] at h2
    split at h2 <;> cases h2
  have ha : vs[i]? = some v := by
   unfold start at h2
   rw [List.getElem?_append_left (by simpa using hi), List.getElem?_map] at h2
   cases e : vs[i]? with
   | none => rw [e] at h2; cases h2
   | some a => rw [e] at h2; cases h2; rfl
  obtain ⟨u, hu, rv⟩ := r.get ha
  have hp : ps[i]? = some y := by
   rw [<- S.pre, List.getElem?_take_of_lt (by omega)]; exact h1
  have ndP : ps.Nodup := by rw [<- S.pre]; exact S.nd.sublist (List.take_sublist _ _)
  refine ⟨u, rv, ?_⟩
  rcases S.par y (List.mem_of_getElem? hp) with k | k
  ·exact .inl ⟨k, vM ndP hp hu k⟩
  ·obtain ⟨c, e⟩ := yG (n := s.heap.objs.size + 1) k
   refine .inr ⟨.inl k, c, e, ?_⟩
   have q := x.cell y c e
   rw [uy ndP hp hu (by show scope.names.lookup y ≠ _; rw [k]; decide)] at q
   exact q
 ·exact e0.hok.fresh (Nat.le_of_lt (x.above y c (PySem.mem_of_lookup h)))
 ·unfold start
  show _ = N.length
  rw [List.length_append, List.length_map, List.length_replicate]
  omega
theorem Lr {CX : CXT} {P : Program} {w : World} {K : Fg_} {mg : Str -> Option Value} {base : Heap} {k : Nat} {f : Addr} {name qual : Str} {params : Arguments} {body : List Stmt} {scope : Scope} {dV kV doc pm cdv ct oc : Value} {an od : Option Addr}
  {osl : Array (Option Value)} {N ps : List Str} {sp : Sp} (lk : K.lookup f = some ⟨oc, od, .func (PySem.W.fnOf name qual params body scope dV kV doc pm an cdv ct), osl⟩) (hcd : PySem.W.codeIn K cdv qual = true) (S : FnScope N ps scope)
  (len : ∀ vs H Q E, sp vs H Q E -> vs.length = ps.length)
  (hbody : ∀ (A : Around) (outer : List Env) (s : Shared) (H : Hp) (vs : List V) (Q : VK) (E : XK), Room k (A.deeper (envOfC qual scope s.heap.objs.size f cdv)) -> sp vs H Q E ->
   ∃ t, PSs (Hf CX P w K mg base N qual scope f cdv A outer s H E) body t /\ t { nx := fun _ H' => Q .non H', rt := Q } (start N vs) H) :
  FnOk P w K mg base CX (k + 1) f (PySem.W.fnOf name qual params body scope dV kV doc pm an cdv ct) ps sp := by
 refine ⟨len, fun A outer s H args us vs Q E hr e0 hb r hsp => ?_⟩
 have hl := len _ _ _ _ hsp
 have KX : K.In s.heap := e0.mod.kin.keeps fun b o e => (e0.bs b o e).1
 have lim : s.heap.NoLimit := e0.mod.nolimit.keeps fun b o e => (e0.bs b o e).1
 have hkind : ∀ y ∈ ps.zip us, scope.names.lookup y.1 = some .local \/ (scope.names.lookup y.1 = some .cell /\ ((cellsFrom (s.heap.objs.size + 1) scope.names []).lookup y.1).isSome = true) := fun ⟨n, v⟩ hy => by
  rcases S.par n (List.of_mem_zip hy).1 with q | q
  ·exact .inl q
  ·exact .inr ⟨q, PySem.W.cellsFrom_some _ _ _ (.inl q)⟩
 refine codeAny_call_function hr.depth (KX _ _ lk) rfl S.co S.gen rfl (PySem.W.codeRec_of KX hcd) (hb _ _ _ _ ?_)
 refine wpAny_newFunctionEnv_cells S.kind hkind fun env he s1 x => ?_
 subst he
 refine ⟨lim.keeps x.toInCall.keep, codeAny_func ?_⟩
 obtain ⟨t, ht, hq⟩ := hbody A outer s H vs Q E (hr.deeper _) hsp
 have I : Inv (Hf CX P w K mg base N qual scope f cdv A outer s H E) [] (start N vs) H s1 := DG S hr.hd e0 hl r x
 refine wpAny_mono (ht [] s1 (start N vs) H _ I hq) (fun fl s' hs => ?_) fun e s' hs => hs
 have fin : ∀ {σ' : St} {H' : Hp} {v : V} {u : Value}, Inv (Hf CX P w K mg base N qual scope f cdv A outer s H E) [] σ' H' s' -> RelV v u -> Q v H' -> CE outer P w H s Q u s' :=
  fun {σ' H' v u} J rv q => ⟨v, H', J.os, J.bare, J.base, J.hok, rv, q⟩
 cases fl with
 | ret u =>
  obtain ⟨v, σ', H', J, rv, q⟩ := hs
  exact fin J rv q
 | next =>
  obtain ⟨σ', H', J, q⟩ := hs
  exact fin (v := V.non) (u := Value.none) J rfl q
 | brk =>
  obtain ⟨_, _, _, q⟩ := hs
  exact False.elim q
 | cont =>
  obtain ⟨_, _, _, q⟩ := hs
  exact False.elim q
end L2
namespace L2
open PySem PySem.Spec PyProof.Rows
section
variable {X : Cx} {x : Str} {p pos : Pos} {e : Expr} {es : List Expr} {t : TA} {id T : String} {r : List V -> Hp -> VK -> Prop}
def tCB (r : List V -> Hp -> VK -> Prop) (t : TA) : TE := fun σ H Q => t σ H fun vs H1 => r vs H1 Q
theorem aV (hc : dM X (.builtin id) r) (hg : Gl X x) (hm : X.mg x = none) (hv : bootBuiltins x = some (.builtin id)) (ha : PA X (e :: es) t) (hn : x ≠ "__name__" := by decide) (hdb : (x == ("__debug__" : Str)) = false := by decide)
  (he : starEach (e :: es) X.env = (false, eval e X.env) :: starEach es X.env := by rfl) (hpl : (backTo pos (starEach es X.env)).any (·.1) = false := by rfl) : PE X (.Call (.Name x p) (e :: es) [] pos) (tCB r t) := by
 intro pins s σ H Q I h
 refine wpAny_Call_Name_kw (pH I hg hm hv ?_ hn hdb)
 exact PyProof.Rows.callWith_builtin1 (thn (ha pos pins s σ H _ I h) fun us s1 ⟨vs, H1, I1, r1, q1⟩ => hc pins s1 σ H1 vs us Q I1 r1 q1) he hpl
theorem bB (hc : dM X (.type T) r) (hg : Gl X x) (hm : X.mg x = none) (hv : bootBuiltins x = some (.type T)) (ha : PA X (e :: es) t) (hn : x ≠ "__name__" := by decide) (hdb : (x == ("__debug__" : Str)) = false := by decide)
  (he : starEach (e :: es) X.env = (false, eval e X.env) :: starEach es X.env := by rfl) (hpl : (backTo pos (starEach es X.env)).any (·.1) = false := by rfl) : PE X (.Call (.Name x p) (e :: es) [] pos) (tCB r t) := by
 intro pins s σ H Q I h
 refine wpAny_Call_Name_kw (pH I hg hm hv ?_ hn hdb)
 exact PyProof.Rows.callWith_type1 (thn (ha pos pins s σ H _ I h) fun us s1 ⟨vs, H1, I1, r1, q1⟩ => hc pins s1 σ H1 vs us Q I1 r1 q1) he hpl
end
end L2
namespace HT
open PySem PyProof.Rows
theorem Ep (A : Around) (s : Shared) (a : Int) (t : Tok) (c : Int) (u : Tok) : ∃ e, SeqAt.EqAt A s (.int a t) (.int c u) e /\ (e = true ↔ a = c) :=
 ⟨(a == c), SeqAt.EqAt.int_int a t c u, by simp⟩
section
open PySem.SeqAt
open PySem.AutoSeq1 (wpAny_loadPart')
open PySem.MeetsSeq PySem.MeetsSeq2 PySem.MeetsSeq3
end
section
variable {prog : Program} {w : World} {A : Around} {E : Value -> Shared -> Prop} {s : Shared}
def sIx (n d : Nat) : Option Int -> Nat
 | none => d
 | some v => if v < 0 then (v + (n : Int)).toNat else min v.toNat n
theorem sIx_none (n d : Nat) : sIx n d none = d := rfl
theorem sIx_nat (n d k : Nat) : sIx n d (some (k : Int)) = min k n := by
 show (if (k : Int) < 0 then ((k : Int) + (n : Int)).toNat else min (k : Int).toNat n) = min k n
 rw [if_neg (by omega), Int.toNat_natCast]
end
end HT
namespace L2
open PySem PySem.Spec PyProof.Rows
abbrev TO := St -> Hp -> (Option Int -> Hp -> Prop) -> Prop
def PO (X : Cx) (e : Option Expr) (t : TO) : Prop :=
 ∀ (pins : List (Addr × Obj)) (s : Shared) (σ : St) (H : Hp) (Q : Option Int -> Hp -> Prop), Inv X pins σ H s -> t σ H Q ->
  wpAny (model X.prog X.w) X.A (evalPart e X.env) (fun u s' => ∃ o H', Inv X pins σ H' s' /\ IsPart u o /\ Q o H') X.xe s
def BX : TO := fun _ H Q => Q none H
def KY (t : TE) : TO := fun σ H Q => t σ H fun x H1 => ∃ i, x = .int i /\ Q (some i) H1
theorem intsAre_of {ns : List Int} : ∀ {us : List Value}, Vals (ns.map V.int) us -> IntsAre us ns := by
 induction ns with
 | nil => intro us r; rw [List.map_nil] at r; cases r; exact .nil
 | cons n ns ih =>
  intro us r
  rw [List.map_cons] at r
  cases r with
  | cons r1 r2 =>
   obtain ⟨t, e⟩ := r1
   subst e
   exact .cons n t (ih r2)
section
variable {X : Cx} {e : Expr} {te : TE} {lo hi : Option Expr} {tl th : TO} {pos p2 : Pos}
theorem vQ : PO X none BX := by
 intro pins s σ H Q I h
 rw [evalPart_none]
 exact wpAny_pure ⟨none, H, I, .none, h⟩
theorem wC (h : PE X e te) : PO X (some e) (KY te) := by
 intro pins s σ H Q I hw
 rw [evalPart_some]
 refine thn (h pins s σ H _ I hw) fun u s1 ⟨x, H1, I1, r1, q1⟩ => ?_
 obtain ⟨i, rfl, q⟩ := q1
 obtain ⟨t, rfl⟩ := r1
 exact ⟨some i, H1, I1, .int i t, q⟩
def SlR (X : Cx) (r : V -> Option Int -> Option Int -> Hp -> VK -> Prop) : Prop :=
 ∀ (pins : List (Addr × Obj)) (s : Shared) (σ : St) (H : Hp) (x : V) (v vl vu : Value) (lo hi : Option Int) (sl : Addr) (Q : VK), Inv X pins σ H s -> RelV x v -> s.heap.IsSliceOf sl vl vu .none -> IsPart vl lo -> IsPart vu hi -> r x lo hi H Q ->
  ∃ T id, typeLookup (.type T) "__getitem__" = pure (some (.builtin id)) /\ s.TypeIs v T /\ wpAny (model X.prog X.w) X.A (getItem v (.ref sl)) (EP X pins σ Q) X.xe s
def tSl (r : V -> Option Int -> Option Int -> Hp -> VK -> Prop) (te : TE) (tl th : TO) : TE := fun σ H Q => te σ H fun x H1 => tl σ H1 fun l H2 => th σ H2 fun u H3 => r x l u H3 Q
theorem sZ {r : V -> Option Int -> Option Int -> Hp -> VK -> Prop} (hr : SlR X r) (he : PE X e te) (hl : PO X lo tl) (hu : PO X hi th) : PE X (.Subscript e (.Slice lo hi none p2) pos) (tSl r te tl th) := by
 intro pins s σ H Q I h
 refine Subscript_ (thn (he pins s σ H _ I h) fun v s1 ⟨x, H1, I1, r1, q1⟩ => ?_)
 refine wpAny_Slice (thn (hl pins s1 σ H1 _ I1 q1) fun vl s2 ⟨l, H2, I2, pl, q2⟩ => thn (hu pins s2 σ H2 _ I2 q2) fun vu s3 ⟨u, H3, I3, pu, q3⟩ => ?_)
 rw [evalPart_none]
 refine wpAny_pure ?_
 have I4 : Inv X pins σ H3 { s3 with heap := s3.heap.push { cls := .type "slice", data := .fields #[vl, vu, .none] } } := I3.kept (t' := s3.toks) fun b ob q => Heap.get?_push_of_some _ q
 obtain ⟨T, id, hT, ht, hg⟩ := hr pins { s3 with heap := s3.heap.push { cls := .type "slice", data := .fields #[vl, vu, .none] } } σ H3 x v vl vu l u s3.heap.objs.size Q I4 r1 (Heap.IsSliceOf.new ..) pl pu q3
 show wpAny (model X.prog X.w) X.A (subscriptTail e (.Slice lo hi none p2) v (.ref s3.heap.objs.size)) (EP X pins σ Q) X.xe { s3 with heap := s3.heap.push { cls := .type "slice", data := .fields #[vl, vu, .none] } }
 exact tail_any (ops := [.ref s3.heap.objs.size, v]) ht hT hg (by with_unfolding_all rfl)
def yg (xs : List V) (lo hi : Option Int) : List V := (xs.drop (HT.sIx xs.length 0 lo)).take (HT.sIx xs.length xs.length hi - HT.sIx xs.length 0 lo)
theorem wM (xs : List V) (lo hi : Option Int) : (yg xs lo hi).length <= xs.length := by
 unfold yg
 rw [List.length_take, List.length_drop]
 omega
end
end L2
namespace L2
open PySem PySem.Spec PyProof.Rows
def ixN (n : Nat) (i : Int) : Option Nat := if 0 <= i then (if i < n then some i.toNat else none) else if -(n : Int) <= i then some (i + n).toNat else none
def atI {α : Type} (xs : List α) (i : Int) : Option α := (ixN xs.length i).bind fun j => xs[j]?
theorem Aw {n : Nat} {i : Int} {j : Nat} (h : ixN n i = some j) : seqIndex? i n = some j /\ j < n /\ -(n : Int) <= i /\ i < n := by
 unfold ixN at h
 by_cases h0 : 0 <= i
 ·rw [if_pos h0] at h
  by_cases h1 : i < n
  ·rw [if_pos h1] at h
   have e : i.toNat = j := Option.some.inj h
   exact ⟨by rw [seqIndex_of h0 h1, e], by omega, by omega, h1⟩
  ·rw [if_neg h1] at h; cases h
 ·rw [if_neg h0] at h
  by_cases h1 : -(n : Int) <= i
  ·rw [if_pos h1] at h
   have e : (i + n).toNat = j := Option.some.inj h
   exact ⟨by rw [seqIndex_neg (by omega) h1, e], by omega, h1, by omega⟩
  ·rw [if_neg h1] at h; cases h
theorem Bu {α : Type} {xs : List α} {i : Int} {v : α} (h : atI xs i = some v) : ∃ j, seqIndex? i xs.length = some j /\ xs[j]? = some v /\ j < xs.length /\ -(xs.length : Int) <= i /\ i < xs.length := by
 unfold atI at h
 cases e : ixN xs.length i with
 | none => rw [e] at h; cases h
 | some j =>
  rw [e] at h
  obtain ⟨h1, h2, h3, h4⟩ := Aw e
  exact ⟨j, h1, h, h2, h3, h4⟩
theorem vV {α : Type} {xs : List α} {j : Nat} {v : α} (h : xs[j]? = some v) : atI xs (j : Int) = some v := by
 have hj : j < xs.length := (List.getElem?_eq_some_iff.mp h).1
 have e : ixN xs.length (j : Int) = some j := by
  unfold ixN
  rw [if_pos (by omega), if_pos (by omega)]; simp
 unfold atI; rw [e]; exact h
def Iw (b : Expr) : Prop := ∀ o i, subscripted b false o i = operate [o, i] (getItem o i)
def IxR (X : Cx) (r : R2) : Prop :=
 ∀ (value slice : Expr) (pins : List (Addr × Obj)) (s : Shared) (σ : St) (H : Hp) (x y : V) (v u : Value) (Q : VK), Inv X pins σ H s -> RelV x v -> RelV y u -> r x y H Q ->
  subscripted slice false v u = operate [v, u] (getItem v u) -> wpAny (model X.prog X.w) X.A (subscriptTail value slice v u) (EP X pins σ Q) X.xe s
def MtR (X : Cx) (id : String) (r : V -> List V -> Hp -> VK -> Prop) : Prop :=
 ∀ (pins : List (Addr × Obj)) (s : Shared) (σ : St) (H : Hp) (x : V) (xs : List V) (v : Value) (us : List Value) (Q : VK), Inv X pins σ H s -> RelV x v -> Vals xs us -> r x xs H Q ->
  wpAny (model X.prog X.w) X.A (call (.builtin id) (v :: us)) (EP X pins σ Q) X.xe s
section
variable {X : Cx} {a b : Expr} {ta tb : TE} {pos : Pos}
theorem jy {r : R2} (hr : IxR X r) (ha : PE X a ta) (hb : PE X b tb) (hs : Iw b) : PE X (.Subscript a b pos) (tOp r ta tb) := by
 intro pins s σ H Q I h
 exact Subscript_ (Mw ha hb I h fun v u s2 x y H2 I2 rx ry q => hr a b pins s2 σ H2 x y v u Q I2 rx ry q (hs _ _))
def Nr (K : Fg_) : R2 := fun x y H Q => ∃ p xs i v, x = .ref p /\ y = .int i /\ SqL K H p xs /\ atI xs i = some v /\ Q v H
def MJ (K : Fg_) : R2 := fun x y H Q => ∃ p xs i v, x = .ref p /\ y = .int i /\ SqT K H p xs /\ atI xs i = some v /\ Q v H
theorem Jj : IxR X (Nr X.K) := by
 intro value slice pins s σ H x y v u Q I rx ry h hs
 obtain ⟨p, xs, i, z, rfl, rfl, hq, he, q⟩ := h
 cases rx
 obtain ⟨t, rfl⟩ := ry
 obtain ⟨its, r, pl, hz⟩ := I.list hq
 obtain ⟨j, h1, h2, h3, h4, h5⟩ := Bu he
 obtain ⟨w, ew, rw'⟩ := r.get h2
 have hl := r.length
 have hn := vB
 have fin : EP X pins σ Q w s := ⟨z, H, I, rw', q⟩
 by_cases h0 : 0 <= i
 ·have hj : i.toNat = j := by
   rw [seqIndex_of h0 h5] at h1
   exact Option.some.inj h1
  exact item_listR pl.isList h0 (by omega) (by rw [hj]; simpa using ew) fin hs
 ·have hj : (i + (its.toArray.size : Int)).toNat = j := by
   rw [seqIndex_neg (by omega) h4] at h1
   rw [List.size_toArray, <- hl]
   exact Option.some.inj h1
  exact subscriptTail_builtinR (x := w) pl.isList.typeIs slot_list_getitem.lookup
   (wpAny_getItem_list_neg (Q := fun r s' => r = w /\ EP X pins σ Q r s') pl.isList (by omega) (by rw [List.size_toArray] <;> omega) (by omega) (by rw [hj]; simpa using ew) ⟨rfl, fin⟩) hs
theorem JL : IxR X (MJ X.K) := by
 intro value slice pins s σ H x y v u Q I rx ry h hs
 obtain ⟨p, xs, i, z, rfl, rfl, hq, he, q⟩ := h
 cases rx
 obtain ⟨t, rfl⟩ := ry
 obtain ⟨its, r, pl, hz⟩ := I.tuple hq
 obtain ⟨j, h1, h2, h3, h4, h5⟩ := Bu he
 obtain ⟨w, ew, rw'⟩ := r.get h2
 have hl := r.length
 have hn := vB
 have fin : EP X pins σ Q w s := ⟨z, H, I, rw', q⟩
 exact subscriptTail_builtinR (x := w) pl.typeIs slot_tuple_getitem.lookup
  (getItem_tuple (j := j) (Q := fun r s' => r = w /\ EP X pins σ Q r s') pl (by omega) (by omega) (by rw [List.size_toArray, <- hl]; exact h1) (by simpa using ew) ⟨rfl, fin⟩) hs
theorem yX (its : List Value) (n j : Nat) (u : Value) : Obj.mapSeq (·.setIfInBounds j u) { cls := .type "list", data := .seq its.toArray n } = { cls := .type "list", data := .seq (its.set j u).toArray n } := by
 simp [Obj.mapSeq]
theorem Inv.lst {pins : List (Addr × Obj)} {σ : St} {H : Hp} {s : Shared} {p : Addr} {xs : List V} (I : Inv X pins σ H s) (h : H p = some (.lst xs)) :
  ∃ (its : List Value) (n : Nat), Vals xs its /\ s.heap.get? p = some { cls := .type "list", data := .seq its.toArray n } /\ xs.length <= sizeLine := by
 obtain ⟨z, its, n, r, e⟩ := I.hok p _ h
 exact ⟨its, n, r, e, z⟩
theorem Inv.lstUpd {pins : List (Addr × Obj)} {σ : St} {H : Hp} {s : Shared} {p : Addr} {xs ys : List V} {its its' : List Value} {n n' : Nat} {f : Obj -> Obj} (I : Inv X pins σ H s) (h : H p = some (.lst xs))
  (ho : s.heap.get? p = some { cls := .type "list", data := .seq its.toArray n }) (hf : f { cls := .type "list", data := .seq its.toArray n } = { cls := .type "list", data := .seq its'.toArray n' }) (r : Vals ys its') (hz : ys.length <= sizeLine) (t : Nat) :
  Inv X pins σ (upd H p (.lst ys)) { s with heap := s.heap.update p f, toks := t } := by
 have e : (s.heap.update p f).get? p = some { cls := .type "list", data := .seq its'.toArray n' } := by
  rw [Heap.get?_update_self f ho (by rw [hf] <;> rfl), hf]
 refine I.write (x := p) (e := p) (by rw [h]; trivial) (.inl rfl) (fun b u hb q => (Heap.get?_update_other _ _ (Ne.symm hb)).trans q) ⟨_, e⟩ ?_
 exact ⟨hz, its', n', r, e⟩
def Nj : V -> V -> V -> Hp -> (Hp -> Prop) -> Prop := fun o i v H Q => ∃ p xs k j, o = .ref p /\ i = .int k /\ H p = some (.lst xs) /\ ixN xs.length k = some j /\ Q (upd H p (.lst (xs.set j v)))
theorem set_list : Od X Nj := by
 intro pins s σ H o i v ov iv u Q I ro ri rv h
 obtain ⟨p, xs, k, j, rfl, rfl, hp, hj, q⟩ := h
 cases ro
 obtain ⟨t, rfl⟩ := ri
 obtain ⟨its, n, r, ho, hz⟩ := I.lst hp
 obtain ⟨h1, h2, h3, h4⟩ := Aw hj
 have hl := r.length
 have hn := vB
 have I' : Inv X pins σ (upd H p (.lst (xs.set j v))) { s with heap := s.heap.update p (Obj.mapSeq (·.setIfInBounds j u)) } :=
  I.lstUpd hp ho (yX its n j u) (r.set rv j) (by rw [List.length_set]; exact hz) s.toks
 by_cases h0 : 0 <= k
 ·have hk : k.toNat = j := by
   rw [seqIndex_of h0 h4] at h1
   exact Option.some.inj h1
  exact PySem.W.ki_setAt ho h0 (by omega) (by rw [List.size_toArray, <- hl]; exact h4) (by rw [hk]; exact ⟨_, I', q⟩)
 ·have hk : (k + (its.toArray.size : Int)).toNat = j := by
   rw [seqIndex_neg (by omega) h3] at h1
   rw [List.size_toArray, <- hl]
   exact Option.some.inj h1
  exact PySem.W.ki_setBack ho (by omega) (by rw [List.size_toArray, <- hl]; exact h3) (by omega) (by rw [hk]; exact ⟨_, I', q⟩)
theorem uL (lo hi : Option Int) (n : Nat) : (sliceBounds lo hi none n).1 = ((HT.sIx n 0 lo : Nat) : Int) /\ (sliceBounds lo hi none n).2.1 = ((HT.sIx n n hi : Nat) : Int) /\ (sliceBounds lo hi none n).2.2 = 1 := by
 refine ⟨?_, ?_, rfl⟩
 ·cases lo with
  | none => simp [sliceBounds, HT.sIx]
  | some i =>
   simp only [sliceBounds, HT.sIx, Option.getD_none, show (1 : Int) > 0 by decide, if_true]
   by_cases h : i < 0
   ·simp only [h, if_true] <;> omega
   ·simp only [h, if_false] <;> omega
 ·cases hi with
  | none => simp [sliceBounds, HT.sIx]
  | some i =>
   simp only [sliceBounds, HT.sIx, Option.getD_none, show (1 : Int) > 0 by decide, if_true]
   by_cases h : i < 0
   ·simp only [h, if_true] <;> omega
   ·simp only [h, if_false] <;> omega
theorem sO (its : List Value) (lo hi : Option Int) : slicePick its.toArray lo hi none = ((its.drop (HT.sIx its.length 0 lo)).take (HT.sIx its.length its.length hi - HT.sIx its.length 0 lo)).toArray := by
 obtain ⟨h1, h2, h3⟩ := uL lo hi its.toArray.size
 unfold slicePick
 rw [h1, h2, h3]
 simp only [sliceRange_one, pick_run, List.size_toArray] <;> rfl
def Ng (K : Fg_) : V -> Option Int -> Option Int -> Hp -> VK -> Prop := fun x lo hi H Q => ∃ a xs, x = .ref a /\ SqL K H a xs /\ ∀ p, H p = none -> Q (.ref p) (upd H p (.lst (yg xs lo hi)))
theorem HF : SlR X (Ng X.K) := by
 intro pins s σ H x v vl vu lo hi sl Q I rx hs pl pu h
 obtain ⟨a, xs, rfl, hx, q⟩ := h
 cases rx
 obtain ⟨its, r, ht, hz⟩ := I.list hx
 have hlen := r.length
 refine ⟨"list", _, slot_list_getitem.lookup, ht.isList.typeIs, ?_⟩
 refine wpAny_getItem_list_slice ht.isList hs pl pu .none (by simp) ?_ (by rw [List.size_toArray] <;> omega)
 rw [sO, <- hlen]
 refine ⟨.ref s.heap.objs.size, _, I.laid (t' := s.toks) (o := .lst (yg xs lo hi)) (fun b ob q => Heap.get?_push_of_some _ q) (Nat.le_refl _) ?_, rfl, q _ (I.hok.fresh (Nat.le_refl _))⟩
 exact ⟨Nat.le_trans (wM xs lo hi) hz, _, 0, (r.drop (HT.sIx xs.length 0 lo)).take (HT.sIx xs.length xs.length hi - HT.sIx xs.length 0 lo), Heap.get?_push_size _ rfl⟩
theorem vC : dM X (.builtin "len") (fun xs H Q => ∃ p ys, xs = [.ref p] /\ (SqL X.K H p ys \/ SqT X.K H p ys) /\ Q (.int ys.length) H) := by
 intro pins s σ H xs us Q I r h
 obtain ⟨p, ys, rfl, hq, q⟩ := h
 obtain ⟨u, rfl, rx⟩ := vals1 r
 cases rx
 have hn := vB
 rcases hq with hq | hq
 ·obtain ⟨its, r', pl, hz⟩ := I.list hq
  have hlen := r'.length
  exact Calls.call_len_list pl.isList (by simp only [List.size_toArray] <;> omega) ⟨.int ys.length, H, I.tok _, ⟨s.toks + 1, by rw [List.size_toArray, hlen]⟩, q⟩
 ·obtain ⟨its, r', pl, hz⟩ := I.tuple hq
  have hlen := r'.length
  exact len_tuple pl (by simp only [List.size_toArray] <;> omega) ⟨.int ys.length, H, I.tok _, ⟨s.toks + 1, by rw [List.size_toArray, hlen]⟩, q⟩
theorem lz : dM X (.builtin "len") (fun xs H Q => ∃ z, xs = [.str z] /\ z.length <= sizeLine /\ Q (.int z.length) H) := by
 intro pins s σ H xs us Q I r h
 obtain ⟨z, rfl, hz, q⟩ := h
 obtain ⟨u, rfl, t, rfl⟩ := vals1 r
 have hn := vB
 exact len_str (by omega) ⟨.int z.length, H, I.tok _, ⟨_, rfl⟩, q⟩
theorem uH : dM X (.type "list") (fun xs H Q => ∃ p ys, xs = [.ref p] /\ (SqL X.K H p ys \/ SqT X.K H p ys) /\ ∀ l, H l = none -> Q (.ref l) (upd H l (.lst ys))) := by
 intro pins s σ H xs us Q I r h
 obtain ⟨p, ys, rfl, hq, q⟩ := h
 obtain ⟨u, rfl, rx⟩ := vals1 r
 cases rx
 have fin : ∀ (its : List Value), Vals ys its -> ys.length <= sizeLine -> ∀ (h' : Heap) (c' : Nat), (∀ b o', s.heap.get? b = some o' -> h'.get? b = some o') ->
   h'.get? s.heap.objs.size = some { cls := .type "list", dict := none, data := .seq its.toArray c', slots := #[] } -> EP X pins σ Q (.ref s.heap.objs.size) { s with heap := h' } := fun its r' hz h' c' kp e =>
  ⟨.ref s.heap.objs.size, _, I.laid (t' := s.toks) kp (Nat.le_refl _) (show ObjOk X.prog X.w _ h' _ (.lst ys) from ⟨hz, its, c', r', e⟩), rfl, q _ (I.hok.fresh (Nat.le_refl _))⟩
 rcases hq with hq | hq
 ·obtain ⟨its, r', pl, hz⟩ := I.list hq
  have hlen := r'.length
  obtain ⟨o, ho, hc, n, hd⟩ := pl.isList
  exact call_list_seq p (.inl rfl) ho hc hd (fun h' c' kp e => fin its r' hz h' c' kp e) (by simp only [List.size_toArray] <;> omega)
 ·obtain ⟨its, r', pl, hz⟩ := I.tuple hq
  have hlen := r'.length
  obtain ⟨o, ho, hc, n, hd⟩ := pl
  exact call_list_seq p (.inr rfl) ho hc hd (fun h' c' kp e => fin its r' hz h' c' kp e) (by simp only [List.size_toArray] <;> omega)
def tyV (K : Fg_) (T : String) (x : V) (H : Hp) : Prop := match x with
 | .str _ => T = "str"
 | .int _ => T = "int"
 | .ref p => (T = "list" /\ ∃ xs, SqL K H p xs) \/ (T = "tuple" /\ ∃ o, K.lookup p = some o /\ o.cls = .type "tuple" /\ o.dict = none) \/
   (T = "dict" /\ ((∃ kvs, H p = some (.dK kvs)) \/ ∃ kvs, H p = some (.dT kvs))) \/ (T = "set" /\ ∃ S n, H p = some (.set S n))
 | _ => False
theorem Ho {pins : List (Addr × Obj)} {σ : St} {H : Hp} {s : Shared} {T : String} {x : V} {v : Value} (I : Inv X pins σ H s) (r : RelV x v) (ty : tyV X.K T x H) :
  s.TypeIs v T /\ ∀ a, v = .ref a -> ∃ ob, s.heap.get? a = some ob /\ ob.dict = none := by
 cases x with
 | str z =>
  obtain ⟨t, rfl⟩ := r
  cases (show T = "str" from ty)
  exact ⟨typeIs_str s z t, fun _ e => nomatch e⟩
 | int i =>
  obtain ⟨t, rfl⟩ := r
  cases (show T = "int" from ty)
  exact ⟨typeIs_int s i t, fun _ e => nomatch e⟩
 | ref p =>
  cases r
  rcases ty with ⟨rfl, xs, hq⟩ | ⟨rfl, o, hk, hc, hd⟩ | ⟨rfl, hk⟩ | ⟨rfl, S, n, hk⟩
  ·obtain ⟨its, _, pl, _⟩ := I.list hq
   refine ⟨pl.isList.typeIs, fun a e => ?_⟩
   cases e
   obtain ⟨o, n, e, c, hd, _⟩ := pl
   exact ⟨o, e, hd⟩
  ·refine ⟨⟨o, I.kIn p o hk, hc⟩, fun a e => ?_⟩
   cases e
   exact ⟨o, I.kIn _ o hk, hd⟩
  ·have z : ∃ o, s.heap.get? p = some o /\ o.ExactDict := by
    rcases hk with ⟨kvs, hk⟩ | ⟨kvs, hk⟩
    ·obtain ⟨_, _, _, _, o, _, _, e, ex, _⟩ := I.hok p _ hk
     exact ⟨o, e, ex⟩
    ·obtain ⟨_, _, _, _, o, _, _, e, ex, _⟩ := I.hok p _ hk
     exact ⟨o, e, ex⟩
   obtain ⟨o, e, ex⟩ := z
   refine ⟨⟨o, e, ex.1⟩, fun a e2 => ?_⟩
   cases e2
   exact ⟨o, e, ex.2.1⟩
  ·obtain ⟨o, _, _, _, e, ex, _⟩ := I.hok p _ hk
   refine ⟨⟨o, e, ex.1⟩, fun a e2 => ?_⟩
   cases e2
   exact ⟨o, e, ex.2.1⟩
 | _ => exact False.elim ty
def Nq (K : Fg_) (T : String) (r : V -> List V -> Hp -> VK -> Prop) (to : TE) : TE := fun σ H Q => to σ H fun x H1 => tyV K T x H1 /\ r x [] H1 Q
def tBM (K : Fg_) (T : String) (r : V -> List V -> Hp -> VK -> Prop) (to : TE) (t : TA) : TE := fun σ H Q => to σ H fun x H1 => tyV K T x H1 /\ t σ H1 fun xs H2 => r x xs H2 Q
variable {o e : Expr} {es : List Expr} {to : TE} {t : TA} {name : Str} {apos cpos : Pos} {T id : String} {r : V -> List V -> Hp -> VK -> Prop}
theorem JH (pa : PlainAttrs T) (slot : Slot T name id) (hty : typeOf (.builtin id) = pure (.type "method_descriptor")) (hm : MtR X id r) (ho : PE X o to)
  (hbase : attributeBase o name X.env (eval o X.env) = eval o X.env := by rfl) (hline : (apos.endLine == cpos.line) = true := by rfl) : PE X (.Call (.Attribute o name apos) [] [] cpos) (Nq X.K T r to) := by
 intro pins s σ H Q I h
 refine wpAny_Call_method0_late hbase hline (thn (ho pins s σ H _ I h) fun v s1 ⟨x, H1, I1, r1, ty, q1⟩ => ?_)
 obtain ⟨h1, h2⟩ := Ho I1 r1 ty
 exact ⟨T, id, pa, slot, hty, h1, h2, Calls.callWith_builtin rfl (PySem.evalArgs_none (hm pins s1 σ H1 x [] v [] Q I1 r1 .nil q1))⟩
theorem Nh (pa : PlainAttrs T) (slot : Slot T name id) (hty : typeOf (.builtin id) = pure (.type "method_descriptor")) (hm : MtR X id r) (ho : PE X o to) (ha : PA X (e :: es) t)
  (hbase : attributeBase o name X.env (eval o X.env) = eval o X.env := by rfl)
  (hfew : ((backTo cpos (starEach (e :: es) X.env)).all (fun x => !x.1) && (backToKw cpos (keywordEach [] X.env)).all (fun x => x.1.isSome)
   && decide ((e :: es).length + ([] : List Keyword).length + (if ([] : List Keyword).isEmpty then 0 else 1) < 30)) = true := by rfl)
  (hline : (apos.endLine == cpos.line) = true := by rfl) (hs : starEach (e :: es) X.env = (false, eval e X.env) :: starEach es X.env := by rfl) (hplain : (backTo cpos (starEach es X.env)).any (·.1) = false := by rfl) :
  PE X (.Call (.Attribute o name apos) (e :: es) [] cpos) (tBM X.K T r to t) := by
 intro pins s σ H Q I h
 refine wpAny_Call_method_late hbase hfew hline rfl (thn (ho pins s σ H _ I h) fun v s1 ⟨x, H1, I1, r1, ty, q1⟩ => ?_)
 obtain ⟨h1, h2⟩ := Ho I1 r1 ty
 refine ⟨T, id, pa, slot, hty, h1, h2, ?_⟩
 have hA := ha cpos pins s1 σ H1 _ I1 q1
 rw [hs] at hA ⊢
 refine Calls.callWith_builtin (by show (false || (backTo cpos (starEach es X.env)).any (·.1)) = false; rw [hplain] <;> rfl) (Calls.evalArgs_plain ?_)
 exact thn hA fun us s2 ⟨vs, H2, I2, r2, q2⟩ => hm pins s2 σ H2 x vs v us Q I2 r1 r2 q2
end
end L2
namespace L2
open PySem PySem.Spec PyProof.Rows
def MtM (X : Cx) (id : String) (r : V -> List V -> Hp -> VK -> Prop) : Prop :=
 ∀ (pins : List (Addr × Obj)) (s : Shared) (σ : St) (H : Hp) (x : V) (xs : List V) (v : Value) (us : List Value) (Q : VK), Inv X pins σ H s -> RelV x v -> Vals xs us -> r x xs H Q ->
  wpAny (model X.prog X.w) X.A (call (.builtin id) (v :: us)) (EP X pins σ Q) X.xe s
theorem Vals.one : ∀ {x : V} {us : List Value}, Vals [x] us -> ∃ u, us = [u] /\ RelV x u
 | _, _, .cons r .nil => ⟨_, rfl, r⟩
theorem Vals.zero : ∀ {us : List Value}, Vals [] us -> us = []
 | _, .nil => rfl
theorem Vals.eraseIdx : ∀ {xs : List V} {us : List Value} (i : Nat), Vals xs us -> Vals (xs.eraseIdx i) (us.eraseIdx i)
 | _, _, _, .nil => .nil
 | _, _, 0, .cons _ t => t
 | _, _, i + 1, .cons r t => .cons r (Vals.eraseIdx i t)
theorem vg {α : Type} : ∀ (l : List α) (i : Nat), (l.eraseIdx i).length <= l.length
 | [], _ => Nat.le_refl _
 | _ :: _, 0 => Nat.le_succ _
 | _ :: r, i + 1 => Nat.succ_le_succ (vg r i)
section
variable {X : Cx} {pins : List (Addr × Obj)} {σ : St} {H : Hp} {s : Shared} {l b : Addr} {xs ys zs : List V}
theorem Inv.lset {its its' : List Value} {n : Nat} {f : Array Value -> Array Value} {t' : Nat} (I : Inv X pins σ H s) (hH : H l = some (.lst xs))
  (e : s.heap.get? l = some { cls := .type "list", data := .seq its.toArray n }) (hf : f its.toArray = its'.toArray) (hv : Vals ys its') (hz : ys.length <= sizeLine) :
  Inv X pins σ (upd H l (.lst ys)) { s with heap := s.heap.update l (Obj.mapSeq f), toks := t' } := by
 have q := PySem.IsL.update e f
 rw [hf] at q
 refine I.write (x := l) (e := l) (by rw [hH]; exact trivial) (.inl rfl) (fun b' u hb hu => (Heap.get?_update_other s.heap (Obj.mapSeq f) (Ne.symm hb)).trans hu) ⟨_, q⟩ ?_
 exact ⟨hz, its', _, hv, q⟩
theorem Inv.lnew {its : List Value} {t' : Nat} (I : Inv X pins σ H s) (hv : Vals ys its) (hz : ys.length <= sizeLine) :
  Inv X pins σ (upd H s.heap.objs.size (.lst ys)) { s with heap := s.heap.push { cls := .type "list", data := .seq its.toArray }, toks := t' } :=
 I.laid (fun _ _ q => Heap.get?_push_of_some _ q) (Nat.le_refl _) ⟨hz, its, 0, hv, Heap.get?_push_size _ rfl⟩
theorem Inv.fresh (I : Inv X pins σ H s) : H s.heap.objs.size = none := I.hok.fresh (Nat.le_refl _)
theorem Inv.lstM (I : Inv X pins σ H s) (hH : H l = some (.lst xs)) : xs.length <= sizeLine /\ ∃ (its : List Value) (n : Nat), Vals xs its /\ xs.length = its.length /\ s.heap.get? l = some { cls := .type "list", data := .seq its.toArray n } := by
 obtain ⟨z, its, n, r, e⟩ := I.hok l _ hH
 exact ⟨z, its, n, r, r.length, e⟩
theorem Ek {n : Nat} (h : n <= sizeLine) : Builtin.List.listTooLong n = false := by
 unfold Builtin.List.listTooLong
 exact decide_eq_false (by omega)
end
section
variable {X : Cx}
def sX : V -> List V -> Hp -> VK -> Prop := fun x vs H Q => ∃ l xs y, x = .ref l /\ vs = [y] /\ H l = some (.lst xs) /\ xs.length < sizeLine /\ Q .non (upd H l (.lst (xs ++ [y])))
theorem dN : MtM X "list.append" sX := by
 intro pins s σ H x vs v us Q I rx rv h
 obtain ⟨l, xs, y, rfl, rfl, hH, hz, q⟩ := h
 cases rx
 obtain ⟨u, rfl, ru⟩ := rv.one
 obtain ⟨z, its, n, r, hl, e⟩ := I.lstM hH
 refine call_meets F.slot_list_append ⟨_, e, rfl⟩ F.entry_list_append (F.args_list_append_2 _ _) (PySem.list_append l its.toArray n u (by rw [List.size_toArray]; omega)) ⟨e, ?_⟩
 refine ⟨.non, _, I.lset (its' := its ++ [u]) hH e (by simp) (r.append (.cons ru .nil)) ?_, rfl, q⟩
 rw [List.length_append, List.length_singleton]
 omega
def HJ : V -> List V -> Hp -> VK -> Prop := fun x vs H Q => ∃ l b xs zs, x = .ref l /\ vs = [.ref b] /\ H l = some (.lst xs) /\ H b = some (.lst zs) /\ xs.length + zs.length <= sizeLine /\ Q .non (upd H l (.lst (xs ++ zs)))
theorem Ca : MtM X "list.extend" HJ := by
 intro pins s σ H x vs v us Q I rx rv h
 obtain ⟨l, b, xs, zs, rfl, rfl, hH, hB, hz, q⟩ := h
 cases rx
 obtain ⟨u, rfl, ru⟩ := rv.one
 cases ru
 obtain ⟨z, its, n, r, hl, e⟩ := I.lstM hH
 obtain ⟨z2, its2, n2, r2, hl2, e2⟩ := I.lstM hB
 have hsz : its.toArray.size + its2.toArray.size <= sizeLine := by rw [List.size_toArray, List.size_toArray]; omega
 have hlong : ¬ (!its.toArray.isEmpty && Builtin.List.listTooLong (its.toArray.size + its2.toArray.size)) = true := by
  rw [Ek hsz, Bool.and_false]
  exact Bool.false_ne_true
 refine call_meets F.slot_list_extend ⟨_, e, rfl⟩ F.entry_list_extend (F.args_list_extend_2 _ _)
  (AutoSeq1.list_extend_list_list_0 l its.toArray n b its2.toArray n2 hlong (by rw [List.size_toArray]; omega) (by omega)) ⟨e, e2, ?_⟩
 refine ⟨.non, _, I.lset (its' := its ++ its2) hH e (by simp) (r.append r2) ?_, rfl, q⟩
 rw [List.length_append]
 omega
def Ma : V -> List V -> Hp -> VK -> Prop := fun x vs H Q => ∃ l xs i k y, x = .ref l /\ vs = [.int i] /\ H l = some (.lst xs) /\ -(2 ^ 63) <= i /\ i < 2 ^ 63 /\ seqIndex? i xs.length = some k /\ xs[k]? = some y /\ Q y (upd H l (.lst (xs.eraseIdx k)))
theorem FT : MtM X "list.pop" Ma := by
 intro pins s σ H x vs v us Q I rx rv h
 obtain ⟨l, xs, i, k, y, rfl, rfl, hH, h1, h2, hk, hy, q⟩ := h
 cases rx
 obtain ⟨u, rfl, ru⟩ := rv.one
 obtain ⟨t, rfl⟩ := ru
 obtain ⟨z, its, n, r, hl, e⟩ := I.lstM hH
 obtain ⟨w, hw, rw'⟩ := r.get hy
 refine call_meets F.slot_list_pop ⟨_, e, rfl⟩ F.entry_list_pop (F.args_list_pop_2 _ _)
  (MeetsSeq.list_pop_at l its.toArray n i t k w (fitsIndex_both h1 h2) (by rw [List.size_toArray, <- hl]; exact hk) (by rw [<- Array.getElem?_toList]; exact hw) (by rw [List.size_toArray]; omega)) ⟨e, ?_⟩
 refine ⟨y, _, I.lset (its' := its.eraseIdx k) hH e ?_ (r.eraseIdx k) ?_, rw', q⟩
 ·show its.toArray.eraseIdxIfInBounds k = (its.eraseIdx k).toArray
  rw [List.eraseIdxIfInBounds_toArray]
 ·have := vg xs k
  omega
def Ni : R2 := fun x y H Q => ∃ l b xs zs, x = .ref l /\ y = .ref b /\ H l = some (.lst xs) /\ H b = some (.lst zs) /\ xs.length + zs.length <= sizeLine /\ ∀ p, H p = none -> Q (.ref p) (upd H p (.lst (xs ++ zs)))
theorem ul : OpR X (binaryOp .Add) Ni := by
 intro pins s σ H x y v u Q I rx ry h
 obtain ⟨l, b, xs, zs, rfl, rfl, hH, hB, hz, q⟩ := h
 cases rx
 cases ry
 obtain ⟨z, its, n, r, hl, e⟩ := I.lstM hH
 obtain ⟨z2, its2, n2, r2, hl2, e2⟩ := I.lstM hB
 refine PySem.P.add_list e e2 ?_ (by rw [List.size_toArray, List.size_toArray]; omega)
 have ea : its.toArray ++ its2.toArray = (its ++ its2).toArray := by simp
 rw [ea]
 exact ⟨.ref _, _, I.lnew (t' := s.toks) (r.append r2) (by rw [List.length_append]; omega), rfl, q _ I.fresh⟩
end
section
variable {prog : Program} {w : World} {A : Around} {E : Value -> Shared -> Prop} {s : Shared}
set_option maxRecDepth 100000 in
end
end L2
namespace Att
open PySem PySem.W PySem.Calls PyProof.Rows
theorem pq {P : Params} {h : Heap} : ∀ (ns : List Int) (vs : List Value), WellAll P h vs (ns.map WData.int) -> IntsAre vs ns := by
 intro ns
 induction ns with
 | nil =>
  intro vs w
  rw [List.map_nil] at w
  cases w
  exact .nil
 | cons n ns ih =>
  intro vs w
  rw [List.map_cons] at w
  cases w with
  | cons a b =>
   cases a
   exact .cons _ _ (ih _ b)
theorem Ds {l : OpenLaw} {n : Nat} (hn : l.most = some n) {P : Params} {h : Heap} {args : List WData} {vals : List Value}
  (hpre : l.row.toRowW.claim.pre args = true) (hwl : WellAll P h vals args) :
  ∃ a vs ns, vals = [Value.ref a] /\ args = [WData.list (ns.map WData.int)] /\ h.get? a = some { cls := .type "list", data := .seq vs.toArray } /\ IntsAre vs ns /\ ns.length <= n := by
 have hsh : WShape.hasAll [] args [.list .int] = true := (pre_splitW hpre).1
 have hc : l.pre.holds [] { args := args } = true := (pre_splitW hpre).2
 obtain ⟨d, r, rfl, h1, h2⟩ := hasAllW_cons hsh
 obtain rfl := hasAllW_nil h2
 obtain ⟨xs, rfl, h3⟩ := hasW_list h1
 obtain ⟨ns, rfl⟩ := items_int h3
 have hlen : ns.length <= n := by
  unfold OpenLaw.pre at hc
  have h4 : (WTm.not (.lt (.lit (.int (n : Int))) (.len (.arg 0)))).holds [] { args := [.list (ns.map .int)] } = true := by
   have h4 := (holds_andW hc).1
   rw [hn] at h4
   exact h4
  have h5 := condW_of h4 (w_not (w_lt w_lit (w_len_list (w_arg rfl))))
  rw [List.length_map] at h5
  refine Nat.le_of_not_lt fun q => ?_
  have q' : (n : Int) < ((ns.length : Nat) : Int) := by omega
  first
   | (rw [decide_eq_true q'] at h5; exact absurd h5 (by decide))
   | (simp at h5; omega)
 cases hwl with
 | cons w1 w2 =>
  cases w2
  cases w1 with
  | list ho hall => exact ⟨_, _, ns, rfl, rfl, ho, pq ns _ hall, hlen⟩
theorem Dq (l : OpenLaw) (args : List WData) : l.row.toRowW.claim.post args (.bool true) args = true :=
 postW_of (r := l.row.toRowW) (X := (true == true))
  (show WShape.has [] (.bool true) .bool = true by first | rfl | decide | simp [WShape.has, WShape.arms, WShape.armsAll])
  (show (WTm.eq .res (.lit (.bool true))).value [] { args := args, res := some (.bool true), after := args } = some (.bool (true == true)) from w_eq_bool (w_res rfl) w_lit) rfl
theorem attach_call {l : OpenLaw} {n : Nat} {q : Program} {loose : List Str} {XP : (Str -> Option Value) -> Heap -> Prop} {YP : World -> Heap -> Prop} {d : DefRec}
  (hn : l.most = some n) (hdf : d.params.defaults = [])
  (call : ∀ (w : World) (s₀ s₁ : Shared) (mg mb : Str -> Option Value) (fa : Addr) (o : Obj) (pm cd doc : Value) (a : Addr) (vs : List Value) (ns : List Int),
   Ground q loose [] XP w s₀ mg mb s₁.heap -> YP w s₁.heap ->
   s₁.heap.get? fa = some o -> o.data = .func (docDef d.name d.params d.body d.scope pm cd doc) -> s₁.heap.CodeRec cd d.name -> mg d.name = some (.ref fa) ->
   s₁.heap.get? a = some { cls := .type "list", data := .seq vs.toArray } -> IntsAre vs ns -> ns.length <= n -> s₁.gens = #[] ->
   codeAny (model l.prog w) callerA (.call (.ref fa) ⟨[.ref a], []⟩) (fun r s' => r = .ok (.ret (.bool true)) /\ OldK s₁.heap s'.heap /\ s'.os = s₁.os /\ AllBare s'.gens) s₁) :
  WalkO q loose XP YP l.row.toRowW d [] (fun f vs => PySem.call f vs) := by
 intro w s₀ s₁ mg mb G Y fa o pm cd doc dV kV ho hd hcd hD hmg hg args vals as hpre hlay hrd hwl hlo
 obtain rfl : dV = .none := Dflts.none hD hdf
 obtain rfl : kV = .none := Dflts.noKw hD
 obtain ⟨a, vs, ns, rfl, rfl, hobj, hints, hlen⟩ := Ds hn hpre hwl
 refine enter_call (codeAny_mono (call w s₀ s₁ mg mb fa o pm cd doc a vs ns G Y ho (fd_plain hd) hcd hmg hobj hints hlen hg) fun r s' hq => ?_)
 obtain ⟨rfl, h2, h3, h4⟩ := hq
 exact ⟨.inl ⟨.bool true, .bool true, [], rfl, fun _ => rfl, .bool true, Dq l _, fun _ => ⟨List.Pairwise.nil, fun _ hm => (nomatch hm)⟩⟩, h2, h3, h4⟩
end Att
namespace L2
open PySem PySem.Spec PyProof.Rows
theorem pP : ∀ {vs : List Value} {ns : List Int}, IntsAre vs ns -> Vals (ns.map V.int) vs
 | _, _, .nil => .nil
 | _, _, .cons n t h => .cons ⟨t, rfl⟩ (pP h)
def Only (H : Hp) : Prop := ∀ b, H b = none \/ ∃ o xs, H b = some (.frz o (.lst xs))
theorem Gb {P : Program} {w : World} {K : Fg_} {mg mb : Str -> Option Value} {CX : CXT} {k : Nat} {fa a : Addr} {fd : FuncData} {x : Str} {sp : Sp} {s₁ : Shared} {vs : List Value} {ns : List Int}
  (KX : K.In s₁.heap) (hns : s₁.heap.Ns mainGlobals mg) (hb : s₁.heap.Ns builtinsNs mb) (hbb : ∀ x : Str, x ≠ "__name__" -> mb x = bootBuiltins x) (hlim : s₁.heap.NoLimit) (hg : s₁.gens = #[])
  (ha : s₁.heap.get? a = some { cls := .type "list", data := .seq vs.toArray }) (hi : IntsAre vs ns) (hl : ns.length <= sizeLine) (hr : Room k callerA)
  (F : ∀ base : Heap, K.In base -> base.Ns mainGlobals mg -> FnOk P w K mg base CX k fa fd [x] sp) (hbind : ∀ (s : Shared) (u : Value), BindsTo s fd ⟨[u], []⟩ [(x, u)])
  (hsp : ∀ H : Hp, Only H -> SqL K H a (ns.map V.int) -> sp [.ref a] H (fun v _ => v = .bl true) fun _ _ _ => False)
  (hCX : ∀ H e s', CX [] H s₁ (fun _ _ _ => False) e s' -> False) :
  codeAny (model P w) callerA (.call (.ref fa) ⟨[.ref a], []⟩) (fun r s' => r = .ok (.ret (.bool true)) /\ OldK s₁.heap s'.heap /\ s'.os = s₁.os /\ AllBare s'.gens) s₁ := by
 have rv := pP hi
 have lenV := hi.length
 have core : ∀ H : Hp, Only H -> SqL K H a (ns.map V.int) -> HOk P w H s₁.heap -> (∀ b, H b ≠ none -> b = a) -> (H a ≠ none -> K.lookup a = none) ->
   codeAny (model P w) callerA (.call (.ref fa) ⟨[.ref a], []⟩) (fun r s' => r = .ok (.ret (.bool true)) /\ OldK s₁.heap s'.heap /\ s'.os = s₁.os /\ AllBare s'.gens) s₁ := by
  intro H hO hS hok hA hK
  have base_of : ∀ {b : Addr} {o : Obj}, s₁.heap.get? b = some o -> H b = none -> (Fi s₁.heap H).get? b = some o := fun e n => Es e n
  have noA : ∀ {b : Addr} {o : Obj} {es : Array DictEntry} {ep : Nat}, s₁.heap.get? b = some o -> o.data = .dict es ep -> H b = none := fun {b o es ep} e d => by
   cases q : H b with
   | none => rfl
   | some u =>
    have e' : b = a := hA b (by rw [q]; simp)
    subst e'
    rw [ha] at e; cases e
    have d' : Data.seq vs.toArray _ = Data.dict es ep := d
    cases d'
  have nsK : ∀ {b : Addr} {m : Str -> Option Value}, s₁.heap.Ns b m -> (Fi s₁.heap H).Ns b m := fun {b m} ⟨o, es, ep, e, d, r⟩ => ⟨o, es, ep, base_of e (noA e d), d, r⟩
  have hKb : K.In (Fi s₁.heap H) := fun b o e => base_of (KX b o e) (by
   cases q : H b with
   | none => rfl
   | some u =>
    have e' : b = a := hA b (by rw [q]; simp)
    subst e'
    rw [hK (by rw [q]; simp)] at e; cases e)
  have hM : Mod K mg (Fi s₁.heap H) := ⟨hKb, nsK hns, ⟨mb, nsK hb, hbb⟩, let ⟨mc, h1, h2⟩ := hlim; ⟨mc, nsK h1, h2⟩⟩
  have e0 : Env0 P w K mg (Fi s₁.heap H) callerA [] s₁ H := ⟨rfl, hM, fun b o e => Im e, Nat.le_of_eq (Dc _ _), trivial, fun b hb => absurd (show b ∈ ([] : List Addr) from hb) (by simp), hok, .of_eq hg⟩
  refine codeAny_mono ((F _ hKb (nsK hns)).run callerA [] s₁ H ⟨[.ref a], []⟩ [.ref a] [.ref a] _ _ hr e0 (hbind s₁ (.ref a)) (.cons rfl .nil) (hsp H hO hS)) fun r s' h => ?_
  cases r with
  | error e => exact (hCX H e s' h).elim
  | ok fl =>
   cases fl with
   | next => exact False.elim h
   | brk => exact False.elim h
   | cont => exact False.elim h
   | ret u =>
    obtain ⟨v, H', os, bare, un, hok', r', q⟩ := h
    have q' : v = .bl true := q
    subst q'
    obtain rfl : u = Value.bool true := r'
    refine ⟨rfl, OldK.of_keep fun b o e => ?_, os, bare⟩
    cases q : H b with
    | none => exact un.keep b o e q (by intro z; exact absurd (show b ∈ ([] : List Addr) from z) (by simp)) (by simp)
    | some u =>
     rcases hO b with z | ⟨ob, xs, z⟩
     ·rw [q] at z; cases z
     ·have z2 := un.frzs b ob _ z
      obtain ⟨e1, _⟩ := hok b _ z
      obtain ⟨e2, _⟩ := hok' b _ z2
      rw [e] at e1; cases e1
      exact e2
 cases hk : K.lookup a with
 | some o =>
  have e := KX a o hk
  rw [ha] at e
  cases e
  refine core (fun _ => none) (fun _ => .inl rfl) (.inr ⟨_, vs.toArray, _, hk, rfl, rfl, rfl, by rw [List.size_toArray, lenV]; exact hl, by simpa using rv⟩) (fun b u z => by have z' : (none : Option HO) = some u := z; cases z') (fun b z => absurd rfl z) fun z => absurd rfl z
 | none =>
  refine core (fun b => if b = a then some (.frz { cls := .type "list", data := .seq vs.toArray } (.lst (ns.map V.int))) else none) (fun b => ?_) (.inl (.inr ⟨{ cls := .type "list", data := .seq vs.toArray }, if_pos rfl⟩)) (fun b u z => ?_) (fun b z => ?_) fun _ => hk
  ·by_cases hb : b = a
   ·exact .inr ⟨_, _, if_pos hb⟩
   ·exact .inl (if_neg hb)
  ·by_cases hb : b = a
   ·have z' := (if_pos hb).symm.trans z
    cases z'
    subst hb
    exact ⟨ha, by rw [List.length_map]; exact hl, vs, _, rv, ha⟩
   ·have z' := (if_neg hb).symm.trans z
    cases z'
  ·by_cases hb : b = a
   ·exact hb
   ·exact absurd (if_neg hb) z
end L2
namespace L2
open PySem PySem.Spec PyProof.Rows
theorem walk_of {l : PySem.W.OpenLaw} {n k : Nat} {q : Program} {loose : List Str} {XP : (Str -> Option Value) -> Heap -> Prop} {YP : World -> Heap -> Prop} {d : DefRec} {K : Params -> Fg_} {CX : World -> CXT} {sp : World -> Sp} {x : Str}
  (hn : l.most = some n) (hn2 : n <= sizeLine) (hdf : d.params.defaults = []) (hr : Room k callerA)
  (hY : ∀ (w : World) (h : Heap), YP w h -> (K w.params).In h)
  (F : ∀ (w : World) (mg : Str -> Option Value) (fa : Addr) (h : Heap), (K w.params).In h -> h.Ns mainGlobals mg -> mg d.name = some (.ref fa) ->
   ∃ fd : FuncData, (∀ (s : Shared) (u : Value), BindsTo s fd ⟨[u], []⟩ [(x, u)]) /\
    ∀ base : Heap, (K w.params).In base -> base.Ns mainGlobals mg -> FnOk l.prog w (K w.params) mg base (CX w) k fa fd [x] (sp w))
  (hsp : ∀ (w : World) (H : Hp) (a : Addr) (ns : List Int), ns.length <= n -> Only H -> SqL (K w.params) H a (ns.map V.int) -> sp w [.ref a] H (fun v _ => v = .bl true) fun _ _ _ => False)
  (hCX : ∀ (w : World) (H : Hp) (s : Shared) (e : Value) (s' : Shared), CX w [] H s (fun _ _ _ => False) e s' -> False) :
  PySem.W.WalkO q loose XP YP l.row.toRowW d [] (fun f vs => PySem.call f vs) := by
 refine Att.attach_call hn hdf fun w s₀ s₁ mg mb fa o pm cd doc a vs ns G Y ho hd hcd hmg hobj hints hlen hg => ?_
 have KX := hY w _ Y
 obtain ⟨fd, hb, hF⟩ := F w mg fa _ KX G.T.g hmg
 exact Gb KX G.T.g G.T.b G.T.builtins G.T.nolimit hg hobj hints (Nat.le_trans hlen hn2) hr hF hb (fun H hO hS => hsp w H a ns hlen hO hS) fun H e s' => hCX w H s₁ e s'
end L2
namespace L2
open PySem PySem.Spec PyProof.Rows
def inClass (s : Stmt) (j : Nat) : Stmt := match s with
 | .ClassDef _ _ _ body _ _ _ _ _ _ _ => body.getD j (.Pass ⟨0, 0, 0, 0⟩)
 | _ => .Pass ⟨0, 0, 0, 0⟩
def aD (s : Stmt) : Arguments := match s with
 | .FunctionDef _ a _ _ _ _ _ _ _ _ => a
 | _ => { posonlyargs := [], args := [], vararg := none, kwonlyargs := [], kw_defaults := [], kwarg := none, defaults := [] }
def aC (s : Stmt) : List Stmt := match s with
 | .FunctionDef _ _ b _ _ _ _ _ _ _ => b
 | _ => []
def ak (s : Stmt) : Scope := match s with
 | .FunctionDef _ _ _ _ _ _ sc _ _ _ => sc
 | _ => { kind := .function, names := [], isGenerator := false, isCoroutine := false }
abbrev CX0 : CXT := fun _ _ _ _ _ _ => False
abbrev E0 : XK := fun _ _ _ => False
theorem aP {X : Cx} : lg CX0 X E0 := fun _ _ _ _ _ _ _ h => h.elim
structure Fun (K : Fg_) (x qual : Str) (st : Stmt) (f : Addr) (fd : FuncData) : Prop where
 ex : ∃ (oc : Value) (od : Option Addr) (kV doc pm : Value) (an : Option Addr) (cdv ct : Value) (osl : Array (Option Value)),
  fd = PySem.W.fnOf x qual (aD st) (aC st) (ak st) .none kV doc pm an cdv ct /\ K.lookup f = some ⟨oc, od, .func fd, osl⟩ /\ PySem.W.codeIn K cdv qual = true
 kp : PySem.W.keepIn K (.ref f) = true
section
variable {P : Program} {w : World} {K : Fg_} {mg : Str -> Option Value} {base : Heap}
theorem Fun.ok {x qual : Str} {st : Stmt} {f : Addr} {fd : FuncData} {N ps : List Str} {k : Nat} {sp : Sp} (F : Fun K x qual st f fd) (S : FnScope N ps (ak st)) (len : ∀ vs H Q E, sp vs H Q E -> vs.length = ps.length)
  (hbody : ∀ (cdv : Value) (A : Around) (outer : List Env) (s : Shared) (H : Hp) (vs : List V) (Q : VK) (E : XK), Room k (A.deeper (envOfC qual (ak st) s.heap.objs.size f cdv)) -> sp vs H Q E ->
   ∃ t, PSs (Hf CX0 P w K mg base N qual (ak st) f cdv A outer s H E).nox (aC st) t /\ t { nx := fun _ H' => Q .non H', rt := Q } (start N vs) H) : FnOk P w K mg base CX0 (k + 1) f fd ps sp := by
 obtain ⟨oc, od, kV, doc, pm, an, cdv, ct, osl, rfl, lk, hcd⟩ := F.ex
 refine Lr lk hcd S len fun A outer s H vs Q E hr hsp => ?_
 obtain ⟨t, h, q⟩ := hbody cdv A outer s H vs Q E hr hsp
 exact ⟨t, h.nox, q⟩
theorem Fun.binds {x qual : Str} {st : Stmt} {f : Addr} {fd : FuncData} {ps : List Str} (F : Fun K x qual st f fd)
  (h : ∀ (kV doc pm : Value) (an : Option Addr) (cdv ct : Value) (us : List Value), us.length = ps.length -> bindArgs (PySem.W.fnOf x qual (aD st) (aC st) (ak st) .none kV doc pm an cdv ct) ⟨us, []⟩ = pure (ps.zip us)) : Binds K fd ps [] := by
 obtain ⟨oc, od, kV, doc, pm, an, cdv, ct, osl, rfl, lk, hcd⟩ := F.ex
 exact .all (h kV doc pm an cdv ct)
theorem aM {x qual : Str} {st : Stmt} {f : Addr} {oc : Value} {od an : Option Addr} {osl : Array (Option Value)} {kV doc pm cdv ct : Value} (l : K.lookup f = some ⟨oc, od, .func (PySem.W.fnOf x qual (aD st) (aC st) (ak st) .none kV doc pm an cdv ct), osl⟩)
  (c : PySem.W.codeIn K cdv qual = true) (k : PySem.W.keepIn K (.ref f) = true) : Fun K x qual st f (PySem.W.fnOf x qual (aD st) (aC st) (ak st) .none kV doc pm an cdv ct) := ⟨⟨oc, od, kV, doc, pm, an, cdv, ct, osl, rfl, l, c⟩, k⟩
end
theorem wV {A : Around} {k : Nat} (hr : Room k A) : A.units + 1 < cLine := Nat.lt_of_le_of_lt (Nat.add_le_add_left (by decide : 1 <= 64) _) hr.units
theorem uG {n : Nat} (h : n <= 1000) : n < sizeLine := Nat.lt_of_le_of_lt h (by decide)
section
variable {X : Cx}
theorem pv (i : Nat) {x : Str} {pos : Pos} (hN : X.N[i]? = some x := by rfl) (hv : Vis X.env.scope x := by first | exact Or.inl rfl | exact Or.inr (Or.inl rfl) | exact Or.inr (Or.inr rfl)) (hd : (x == ("__debug__" : Str)) = false := by decide)
  (hcd : (x == ("__classdict__" : Str)) = false := by decide) : PE X (.Name x pos) (KH i) := JT hN hv hd hcd
end
def Same (H H' : Hp) : Prop := ∀ b o, H b = some o -> H' b = some o
theorem Same.refl (H : Hp) : Same H H := fun _ _ h => h
theorem Same.trans {H H1 H2 : Hp} (a : Same H H1) (b : Same H1 H2) : Same H H2 := fun c o h => b c o (a c o h)
theorem Same.free {H H' : Hp} (e : Same H H') {l : Addr} (h : H' l = Option.none) : H l = Option.none := by
 cases q : H l with
 | none => rfl
 | some o =>
  rw [e l o q] at h
  cases h
theorem Same.seq {K : Fg_} {H H' : Hp} {a : Addr} {xs : List V} (e : Same H H') (h : SqL K H a xs) : SqL K H' a xs := by
 rcases h with (h | ⟨o, h⟩) | h
 ·exact .inl (.inl (e _ _ h))
 ·exact .inl (.inr ⟨o, e _ _ h⟩)
 ·exact .inr h
end L2
namespace L2
open PySem PySem.Spec PyProof.Rows
def AllIn : List (Str × Addr) -> List (Str × Addr) -> Prop
 | [], _ => True
 | (x, c) :: r, cells => cells.lookup x = some c /\ AllIn r cells
theorem AllIn.look {cells : List (Str × Addr)} : ∀ {cl : List (Str × Addr)}, AllIn cl cells -> ∀ {x : Str} {c : Addr}, cl.lookup x = some c -> cells.lookup x = some c
 | [], _, x, c, e => by simp at e
 | (y, d) :: r, h, x, c, e => by
  rw [List.lookup_cons] at e
  cases q : x == y with
  | true =>
   rw [q] at e
   have z : d = c := Option.some.inj e
   have z2 : x = y := beq_iff_eq.mp q
   subst z z2
   exact h.1
  | false =>
   rw [q] at e
   exact AllIn.look h.2 e
def mL (cells : List (Str × Addr)) : List (Str × NameKind) -> List (Str × Addr) -> List (Str × Addr)
 | [], cs => cs
 | (n, k) :: r, cs => mL cells r (match k with
  | .free => match cells.lookup n with
   | some c => (n, c) :: cs
   | Option.none => cs
  | _ => cs)
abbrev kW (scope : Scope) (env : Env) : List (Str × Addr) := mL env.cells scope.names []
theorem pZ (cells : List (Str × Addr)) : ∀ (names : List (Str × NameKind)) (cs : List (Str × Addr)), AllIn cs cells -> AllIn (mL cells names cs) cells
 | [], _, h => h
 | (n, k) :: r, cs, h => by
  unfold mL
  refine pZ cells r _ ?_
  cases k with
  | free =>
   cases q : cells.lookup n with
   | none => exact h
   | some c => exact ⟨q, h⟩
  | _ => exact h
theorem gJ (scope : Scope) (env : Env) : AllIn (kW scope env) env.cells := pZ _ _ _ trivial
def CapOk (X : Cx) (sc : Scope) (cl : List (Str × Addr)) : List Str -> List (Option Nat) -> Prop
 | [], [] => True
 | _ :: N, Option.none :: r => CapOk X sc cl N r
 | x :: N, some j :: r => X.N[j]? = some x /\ (X.env.kindOf x = some .cell \/ X.env.kindOf x = some .free) /\ (sc.names.lookup x = some .cell \/ sc.names.lookup x = some .free) /\ (∃ c, cl.lookup x = some c) /\ CapOk X sc cl N r
 | _, _ => False
def iH (σ : St) (cap : List (Option Nat)) : St := cap.map fun o => match o with
 | Option.none => Option.none
 | some j => match σ[j]? with
  | some v => v
  | Option.none => Option.none
theorem CapOk.nil {X : Cx} {sc : Scope} {cl : List (Str × Addr)} : CapOk X sc cl [] [] := trivial
theorem CapOk.own {X : Cx} {sc : Scope} {cl : List (Str × Addr)} {x : Str} {N : List Str} {r : List (Option Nat)} (h : CapOk X sc cl N r) : CapOk X sc cl (x :: N) (Option.none :: r) := h
theorem CapOk.take {X : Cx} {sc : Scope} {cl : List (Str × Addr)} {x : Str} {N : List Str} {j : Nat} {r : List (Option Nat)} (h1 : X.N[j]? = some x) (h2 : X.env.kindOf x = some .cell \/ X.env.kindOf x = some .free)
  (h3 : sc.names.lookup x = some .cell \/ sc.names.lookup x = some .free) (h4 : (cl.lookup x).isSome = true) (h : CapOk X sc cl N r) : CapOk X sc cl (x :: N) (some j :: r) := ⟨h1, h2, h3, Option.isSome_iff_exists.mp h4, h⟩
theorem CapOk.len {X : Cx} {sc : Scope} {cl : List (Str × Addr)} : ∀ {N : List Str} {cap : List (Option Nat)}, CapOk X sc cl N cap -> cap.length = N.length
 | [], [], _ => rfl
 | _ :: N, Option.none :: r, h => congrArg (· + 1) (CapOk.len (N := N) (cap := r) h)
 | _ :: N, some _ :: r, h => congrArg (· + 1) (CapOk.len (N := N) (cap := r) h.2.2.2.2)
 | [], _ :: _, h => h.elim
 | _ :: _, [], h => h.elim
theorem CapOk.get {X : Cx} {sc : Scope} {cl : List (Str × Addr)} {σ : St} : ∀ {N : List Str} {cap : List (Option Nat)} {i : Nat} {x : Str} {v : V}, CapOk X sc cl N cap -> N[i]? = some x -> (iH σ cap)[i]? = some (some v) ->
  ∃ j : Nat, X.N[j]? = some x /\ σ[j]? = some (some v) /\ (X.env.kindOf x = some .cell \/ X.env.kindOf x = some .free) /\ (sc.names.lookup x = some .cell \/ sc.names.lookup x = some .free) /\ ∃ c, cl.lookup x = some c
 | [], [], i, x, v, _, e, _ => by simp at e
 | y :: N, Option.none :: r, 0, x, v, h, e1, e2 => by
  have z : (some (Option.none : Option V)) = some (some v) := e2
  cases z
 | y :: N, Option.none :: r, i + 1, x, v, h, e1, e2 => CapOk.get (N := N) (cap := r) (i := i) h (by simpa using e1) (by simpa [iH] using e2)
 | y :: N, some j :: r, 0, x, v, h, e1, e2 => by
  have z : y = x := by simpa using e1
  subst z
  obtain ⟨h1, h2, h3, h4, _⟩ := h
  refine ⟨j, h1, ?_, h2, h3, h4⟩
  have z2 : some (match σ[j]? with | some v => v | Option.none => Option.none) = some (some v) := e2
  cases q : σ[j]? with
  | none => rw [q] at z2; cases z2
  | some o => rw [q] at z2; exact z2
 | y :: N, some j :: r, i + 1, x, v, h, e1, e2 => CapOk.get (N := N) (cap := r) (i := i) h.2.2.2.2 (by simpa using e1) (by simpa [iH] using e2)
 | [], _ :: _, _, _, _, h, _, _ => h.elim
 | _ :: _, [], _, _, _, h, _, _ => h.elim
def cxC (X : Cx) (N' : List Str) (scope : Scope) (s : Shared) (H : Hp) (fp : List Addr) (xe : Value -> Shared -> Prop) : Cx :=
 { X with N := N', s₀ := s, H₀ := H, env := compEnvC scope (kW scope X.env) s.heap.objs.size X.env, outer := X.stack, ex := fp, fn := fun _ => false, pn := [], xe := xe }
def PTs (X : Cx) (ifs : List Expr) (t : TT) : Prop :=
 ∀ (pins : List (Addr × Obj)) (s : Shared) (σ : St) (H : Hp) (Q : Bool -> Hp -> Prop), Inv X pins σ H s -> t σ H Q ->
  wpAny (model X.prog X.w) X.A (forIn ifs true fun c r => if r = true then do let ok <- isTrue c X.env (eval c X.env); pure (ForInStep.yield ok) else pure (ForInStep.yield r)) (TP X pins σ Q) X.xe s
def zH : TT := fun _ H Q => Q true H
theorem bH {X : Cx} : PTs X [] zH := fun _ _ _ H _ I h => wpAny_tests_nil ⟨H, I, h⟩
theorem Dj {X : Cx} {c : Expr} {t : TT} (h : PT X c t) : PTs X [c] t := fun pins s σ H Q I hw => wpAny_tests_one (h pins s σ H Q I hw)
def Iz (cap : List (Option Nat)) (wi : TI) (g : TG) (tt : TT) (te : TE) : TE := fun σ H Q => wi σ H fun J H1 => ∀ D, H1 D = Option.none ->
 ∃ W : Nat -> Nat -> List V -> St -> Hp -> Prop, (∃ m, W 0 m [] (iH σ cap) (upd H1 D (.lst []))) /\ ∀ i m acc σ1 H2, W i m acc σ1 H2 -> H2 D = some (.lst acc) ->
  (J.stop i H2 /\ Q (.ref D) H2) \/ (J.go i H2 /\ ∀ x H3, J.yld i H2 x H3 -> g x σ1 H3 fun σ4 H4 => tt σ4 H4 fun b H5 =>
   if b = true then te σ4 H5 fun v H6 => ∃ acc', H6 D = some (.lst acc') /\ acc'.length < sizeLine /\ ∃ m', m' < m /\ W (i + 1) m' (acc' ++ [v]) σ4 (upd H6 D (.lst (acc' ++ [v])))
   else ∃ m', m' < m /\ ∃ acc', H5 D = some (.lst acc') /\ W (i + 1) m' acc' σ4 H5)
section
variable {X : Cx} {elt tg iter : Expr} {ifs : List Expr} {scope : Scope} {pos : Pos} {cap : List (Option Nat)} {N' : List Str} {wi : TI} {g : TG} {tt : TT} {te : TE}
structure CompOk (X : Cx) (iter : Expr) (scope : Scope) (N' : List Str) (cap : List (Option Nat)) : Prop where
 clos : closureFor scope X.env = pure (kW scope X.env)
 cap : CapOk X (relabel scope X.env) (kW scope X.env) N' cap
 kind : scope.kind = .function
 nocell : ∀ y ∈ scope.names, y.2 ≠ .cell
 names : ∀ y ∈ scope.names, y.2 = .local -> scope.names.lookup y.1 = some .local
 has : (scope.names.all fun y => y.2 != .free || ((kW scope X.env).lookup y.1).isSome) = true
 fold : ∀ x, foldedSetIterable iter X.env x = pure x
theorem Ac {f : Str × NameKind -> Str × NameKind} (h1 : ∀ y, (f y).1 = y.1) (h2 : ∀ y, y.2 ≠ NameKind.cell -> ((f y).2 = NameKind.cell \/ (f y).2 = NameKind.free) -> y.2 = NameKind.free) {cl : List (Str × Addr)} :
  ∀ {names : List (Str × NameKind)} {x : Str}, (∀ y ∈ names, y.2 ≠ NameKind.cell) -> (names.all fun y => y.2 != NameKind.free || (cl.lookup y.1).isSome) = true -> ((names.map f).lookup x = some NameKind.cell \/ (names.map f).lookup x = some NameKind.free) -> ∃ c, cl.lookup x = some c
 | [], x, _, _, h => by rcases h with h | h <;> simp at h
 | y :: r, x, hc, ha, h => by
  rw [List.all_cons, Bool.and_eq_true] at ha
  rw [List.map_cons] at h
  have e0 : f y = (y.1, (f y).2) := by rw [<- h1 y]
  rw [e0, List.lookup_cons] at h
  cases q : x == y.1 with
  | true =>
   rw [q] at h
   have e : x = y.1 := beq_iff_eq.mp q
   have hf : y.2 = NameKind.free := h2 y (hc y List.mem_cons_self) (by
    rcases h with h | h
    ·exact .inl (Option.some.inj h)
    ·exact .inr (Option.some.inj h))
   have h3 : (cl.lookup y.1).isSome = true := by
    have := ha.1
    rw [hf] at this
    simpa using this
   rw [e]
   exact Option.isSome_iff_exists.mp h3
  | false =>
   rw [q] at h
   exact Ac h1 h2 (fun z hz => hc z (List.mem_cons_of_mem _ hz)) ha.2 h
theorem Mf {env : Env} {scope : Scope} {cl : List (Str × Addr)} {x : Str} (hc : ∀ y ∈ scope.names, y.2 ≠ NameKind.cell) (ha : (scope.names.all fun y => y.2 != NameKind.free || (cl.lookup y.1).isSome) = true)
  (h : (relabel scope env).names.lookup x = some NameKind.cell \/ (relabel scope env).names.lookup x = some NameKind.free) : ∃ c, cl.lookup x = some c := by
 refine Ac (f := fun (n, k) => if (k == NameKind.free && env.scope.kind == .function && env.kindOf n == some .cell) then (n, NameKind.cell) else (n, k)) (fun y => ?_) (fun y hy hk => ?_) hc ha h
 ·obtain ⟨n, k⟩ := y
  dsimp only
  split <;> rfl
 ·obtain ⟨n, k⟩ := y
  dsimp only at hk ⊢ hy
  by_cases hb : (k == NameKind.free && env.scope.kind == .function && env.kindOf n == some .cell) = true
  ·simp only [Bool.and_eq_true] at hb
   exact beq_iff_eq.mp hb.1.1
  ·rw [if_neg hb] at hk
   rcases hk with hk | hk
   ·exact absurd hk hy
   ·exact hk
theorem uT {P : Program} {w : World} {A : Around} {R : Result -> Shared -> Prop} {s : Shared} {it acc : Value} {env : Env} (I : Nat -> Shared -> Prop)
  (turn : ∀ n s, I n s -> wpAny (model P w) A (pyNext it) (fun r s₁ => match r with
   | none => R (.ok .next) s₁
   | some v => wpAny (model P w) A (letOwnedTupleGo tg it v) (fun _ s₁' => wpAny (model P w) A (assign tg env v) (fun _ s₂ =>
     wpAny (model P w) A (forIn ifs true fun c r => if r = true then do let ok <- isTrue c env (eval c env); pure (ForInStep.yield ok) else pure (ForInStep.yield r)) (fun ok s₃ =>
      if ok = true then wpAny (model P w) A (eval elt env) (fun x s₄ =>
       wpAny (model P w) A (call (.builtin "list.append") [acc, x]) (fun _ s₅ => ∃ m, m < n /\ I m s₅) (notedBy (model P w) A env fun e s' => R (.error e) s') s₄) (notedBy (model P w) A env fun e s' => R (.error e) s') s₃
      else ∃ m, m < n /\ I m s₃) (notedBy (model P w) A env fun e s' => R (.error e) s') s₂) (notedBy (model P w) A env fun e s' => R (.error e) s') s₁') (notedBy (model P w) A env fun e s' => R (.error e) s') s₁)
    (notedBy (model P w) A env fun e s' => R (.error e) s') s)
  (n : Nat) (h : I n s) :
  codeAny (model P w) A (.compLoop (.ListComp elt [⟨tg, iter, ifs, 0⟩] scope pos) 0 it acc env) R s := by
 refine codeAny_loop rfl I (fun n s hI => ?_) n h
 show wpAny _ A ((compTurn (.ListComp elt [⟨tg, iter, ifs, 0⟩] scope pos) 0 it acc env).onRaise (fun x => do noteFrame x env; theTreesLotGoes x)) _ _ s
 refine wpAny_noted ?_
 rw [compTurn_list]
 refine wpAny_bind (wpAny_standAt (wpAny_bind (wpAny_mono (turn n s hI) (fun r s₁ h₁ => ?_) fun _ _ h' => h')))
 cases r with
 | none => exact wpAny_pure h₁
 | some v =>
  refine wpAny_bind (wpAny_mono h₁ (fun _ s₁' h₁ => ?_) fun _ _ h' => h')
  refine wpAny_bind (wpAny_mono h₁ (fun _ s₂ h₂ => wpAny_bind (wpAny_mono h₂ (fun ok s₃ h₃ => ?_) fun _ _ h' => h')) fun _ _ h' => h')
  cases ok with
  | false => exact wpAny_pure ⟨rfl, h₃⟩
  | true =>
   exact wpAny_bind (wpAny_bind (wpAny_mono h₃ (fun x s₄ h₄ => wpAny_bind (wpAny_mono h₄ (fun _ s₅ h₅ => wpAny_pure (wpAny_pure ⟨rfl, h₅⟩)) fun _ _ h' => h')) fun _ _ h' => h'))
theorem vd {pins : List (Addr × Obj)} {σ : St} {H2 : Hp} {s2 : Shared} {Q : VK} {it : Addr} {fp : List Addr} {tn : Nat -> Heap -> Prop} {J : It} {R : Value -> Addr -> Result -> Shared -> Prop} {E : Value -> Shared -> Prop}
  (hc : X.calm = true) (C : CompOk X iter scope N' cap)
  (hg : ∀ s H fp xe, PG (cxC X N' scope s H fp xe) tg g) (ht : ∀ s H fp xe, PTs (cxC X N' scope s H fp xe) ifs tt) (he : ∀ s H fp xe, PE (cxC X N' scope s H fp xe) elt te)
  (I2 : Inv X pins σ H2 s2) (T : Turn X.prog X.w X.K tg J fp it tn) (st2 : tn 0 s2.heap) (f2 : ∀ b ∈ fp, yo X pins H2 b)
  (hR : ∀ D Cl H' s', Inv X pins σ H' s' -> (∃ m, s'.heap.Ns Cl m) -> H' Cl = Option.none -> Cl ≠ X.env.locals -> X.s₀.heap.objs.size <= Cl -> (∀ x c, X.env.cells.lookup x = some c -> c ≠ Cl) -> (∀ p ∈ X.pn ++ pins, p.1 ≠ Cl) -> Q (.ref D) H' -> R (.ref D) Cl (.ok .next) s')
  (hw : ∀ D, H2 D = Option.none -> ∃ W : Nat -> Nat -> List V -> St -> Hp -> Prop, (∃ m, W 0 m [] (iH σ cap) (upd H2 D (.lst []))) /\ ∀ i m acc σ1 H2, W i m acc σ1 H2 -> H2 D = some (.lst acc) ->
   (J.stop i H2 /\ Q (.ref D) H2) \/ (J.go i H2 /\ ∀ x H3, J.yld i H2 x H3 -> g x σ1 H3 fun σ4 H4 => tt σ4 H4 fun b H5 =>
    if b = true then te σ4 H5 fun v H6 => ∃ acc', H6 D = some (.lst acc') /\ acc'.length < sizeLine /\ ∃ m', m' < m /\ W (i + 1) m' (acc' ++ [v]) σ4 (upd H6 D (.lst (acc' ++ [v])))
    else ∃ m', m' < m /\ ∃ acc', H5 D = some (.lst acc') /\ W (i + 1) m' acc' σ4 H5)) :
  wpAny (model X.prog X.w) X.A (newList []) (fun acc s₃ => wpAny (model X.prog X.w) X.A (newFunctionEnv scope X.env.globals (kW scope X.env) [] X.env.qual none .none (some X.env)) (fun cenv s₄ =>
   codeAny (model X.prog X.w) X.A (.compStart (.ListComp elt [⟨tg, iter, ifs, 0⟩] scope pos) 0 (.ref it) acc { cenv with scope := relabel scope X.env }) (R acc cenv.locals) s₄) E s₃) E s2 := by
 refine wpAny_newObj_type (wpAny_newFunctionEnv C.nocell (by intro y hy; simp at hy) (fun h₁ hns₁ hsb₁ => ?_) C.kind)
 obtain ⟨W, ⟨m0, w0⟩, turn⟩ := hw s2.heap.objs.size I2.fresh
 have I3 : Inv X pins σ (upd H2 s2.heap.objs.size (.lst [])) { s2 with heap := s2.heap.push { cls := .type "list", data := .seq ([] : List Value).toArray } } := I2.lnew (t' := s2.toks) .nil (Nat.zero_le _)
 generalize hs3 : ({ s2 with heap := s2.heap.push { cls := .type "list", data := .seq ([] : List Value).toArray } } : Shared) = s3 at I3 hns₁ hsb₁ ⊢
 generalize hD : s2.heap.objs.size = D at I3 w0 turn ⊢
 have hn0 : H2 D = Option.none := by rw [<- hD]; exact I2.fresh
 have hs32 : s3.os = s2.os := by rw [<- hs3]
 have un32 : Un (frs X.stack) fp H2 (upd H2 D (.lst [])) s2.heap s3.heap := by
  rw [<- hs3, <- hD]
  exact Un.laid (fun b u q => Heap.get?_push_of_some _ q) (Nat.le_refl _) I2.fresh
 have keep4 : ∀ b o, s3.heap.get? b = some o -> h₁.get? b = some o := fun b o e => (hsb₁.2 b (Nat.ne_of_lt (Heap.lt_size e))).trans (Heap.get?_push_of_some _ e)
 have keep2 : ∀ b o, s2.heap.get? b = some o -> s3.heap.get? b = some o := fun b o e => by rw [<- hs3]; exact Heap.get?_push_of_some _ e
 have hR' : ∀ (r : Result) (s' : Shared), R (.ref D) s3.heap.objs.size r s' -> R (.ref D) s3.heap.objs.size r s' := fun _ _ h => h
 have f3 : ∀ b ∈ fp, yo X pins (upd H2 D (.lst [])) b := fun b hb => by
  obtain ⟨q0, q1⟩ := f2 b hb
  refine ⟨?_, q1⟩
  obtain ⟨o, e, _⟩ := T.obj _ _ st2 b hb
  rw [aF (by rw [<- hD]; exact Nat.ne_of_lt (Heap.lt_size e))]
  exact q0
 let XC : Cx := cxC X N' scope s3 (upd H2 D (.lst [])) fp (notedBy (model X.prog X.w) X.A (compEnvC scope (kW scope X.env) s3.heap.objs.size X.env) fun e s' => R (.ref D) s3.heap.objs.size (.error e) s')
 have ok : XC.Ok := by
  refine ⟨I3.ok.mod, C.kind, I3.ok.glob, I3.ok.blt, Nat.le_refl _, fun x y c e1 e2 => I3.ok.inj x y c ((gJ scope X.env).look e1) ((gJ scope X.env).look e2), fun x hx => Mf C.nocell C.has hx, fun x c hf => (nomatch hf), fun _ => I3.ok.hd hc, I3.ok.frames, .inl rfl, fun b hb => ?_, I3.bs, Nat.le_trans I3.ok.bsz I3.sz, fun b o e hb => ?_, fun b hb hf => ?_, I3.stack, I3.stkFree⟩
  ·obtain ⟨q0, q1, q2, q3, q4, q5⟩ := f3 b hb
   refine ⟨?_, fun x c e => q4 x c ((gJ scope X.env).look e)⟩
   obtain ⟨o, e, _⟩ := T.obj _ _ st2 b hb
   exact Nat.ne_of_lt (Heap.lt_size (keep2 _ _ e))
  ·obtain ⟨q0, q1, q2, q3, q4, q5⟩ := f3 b hb
   rcases q3 with q3 | q3
   ·exact I3.ok.noex b o e q3
   ·exact absurd (Nat.lt_of_lt_of_le (Heap.lt_size e) (Nat.le_trans I3.ok.bsz q3)) (Nat.lt_irrefl _)
  ·obtain ⟨q0, q1, q2, q3, q4, q5⟩ := f3 b hb
   rcases List.mem_cons.mp (I3.stkSub b hf) with z | z
   ·exact q1 z
   ·exact q2 z
 have I4 : Inv XC [] (iH σ cap) (upd H2 D (.lst [])) { s3 with heap := h₁, toks := s3.toks + ([] : List (Str × Value)).length } := by
  refine ⟨ok, rfl, I3.bare, Un.kept keep4, ⟨_, hns₁, fun i x v e1 e2 e3 => ?_⟩, fun x c e => ?_, I3.hok.fresh (Nat.le_refl _), fun x c e => I3.freeC x c ((gJ scope X.env).look e), fun p hp => absurd (show p ∈ ([] : List (Addr × Obj)) from hp) (by simp), I3.hok.kept keep4, by rw [show (iH σ cap).length = cap.length from by simp [iH]]; exact C.cap.len⟩
  ·obtain ⟨j, g1, g2, g3, g4, c, g5⟩ := C.cap.get e1 e2
   obtain ⟨m, _, hl⟩ := I3.loc
   obtain ⟨u, r, l⟩ := hl j x v g1 g2 (by
    rcases g3 with z | z
    ·exact .inr (.inl z)
    ·exact .inr (.inr z))
   refine ⟨u, r, .inr ⟨g4, c, g5, ?_⟩⟩
   rcases l with ⟨k, _⟩ | ⟨_, c', e, z⟩
   ·rcases g3 with q | q
    ·rw [k] at q; cases q
    ·rw [k] at q; cases q
   ·have e' := (gJ scope X.env).look g5
    rw [e] at e'; cases e'
    obtain ⟨o, ho, hd⟩ := z
    exact ⟨o, keep4 _ _ ho, hd⟩
  ·obtain ⟨v, o, ho, hd⟩ := I3.cell x c ((gJ scope X.env).look e)
   exact ⟨v, o, keep4 _ _ ho, hd⟩
 have st4 : tn 0 h₁ := T.keep _ _ _ st2 fun b _ o e => keep4 b o (keep2 b o e)
 have fpc : ∀ {pins' : List (Addr × Obj)} {H' : Hp}, (∀ b ∈ fp, H' b = Option.none) -> (∀ p ∈ pins', p.1 ∉ fp) -> ∀ b ∈ fp, yo XC pins' H' b := fun {pins' H'} hn hp b hb => by
  obtain ⟨q1, q2⟩ := ok.exf b hb
  exact ⟨hn b hb, q1, ok.exfs b hb, .inl hb, q2, fun p hp' z => hp p (by simpa [XC, cxC] using hp') (by rw [z]; exact hb)⟩
 have hDf : D ∉ fp := fun hb => by
  obtain ⟨o, e, _⟩ := T.obj _ _ st2 D hb
  rw [<- hD] at e
  exact absurd (Heap.lt_size e) (Nat.lt_irrefl _)
 have out : ∀ {σ' : St} {H' : Hp} {s' : Shared}, Inv XC [] σ' H' s' -> Inv X pins σ H' s' := fun {σ' H' s'} J' =>
  I2.call' (ch := fp) (J'.os.trans hs32) (un32.trans J'.base) J'.hok J'.bare fun b hb => by
   obtain ⟨q0, q1, q2, q3, q4, q5⟩ := f2 b hb
   exact ⟨q3, q1, q4, q5⟩
 have loop : ∀ s₄ : Shared, s₄ = { s3 with heap := h₁, toks := s3.toks + ([] : List (Str × Value)).length } ->
   codeAny (model X.prog X.w) X.A (.compLoop (.ListComp elt [⟨tg, iter, ifs, 0⟩] scope pos) 0 (.ref it) (.ref D) (compEnvC scope (kW scope X.env) s3.heap.objs.size X.env)) (R (.ref D) s3.heap.objs.size) s₄ := by
  rintro s₄ rfl
  refine uT (fun n s' => ∃ i acc σ' H', Inv XC [] σ' H' s' /\ tn i s'.heap /\ (∀ b ∈ fp, H' b = Option.none) /\ H' D = some (.lst acc) /\ W i n acc σ' H') ?_ m0
   ⟨0, [], iH σ cap, upd H2 D (.lst []), I4, st4, fun b hb => (f3 b hb).1, au, w0⟩
  rintro n s5 ⟨i, acc, σ5, H5, I5, st5, fr5, hA, w5⟩
  rcases turn i n acc σ5 H5 w5 hA with ⟨stop, q⟩ | ⟨go, step⟩
  ·refine thn (T.done XC rfl rfl rfl hc i [] s5 σ5 H5 _ I5 (fpc fr5 (by simp)) st5 stop) fun r s6 ⟨hr, I6⟩ => ?_
   subst hr
   obtain ⟨m, hn, _⟩ := I6.loc
   exact hR D s3.heap.objs.size H5 s6 (out I6) ⟨m, hn⟩ I6.free (Nat.ne_of_gt I3.lt) I3.sz (fun x c e z => by
    obtain ⟨v, o, ho, _⟩ := I3.cell x c e
    rw [z] at ho
    exact absurd (Heap.lt_size ho) (Nat.lt_irrefl _)) (fun p hp z => by
    have e := (I3.pin p hp).1
    rw [z] at e
    exact absurd (Heap.lt_size e) (Nat.lt_irrefl _)) q
  ·refine thn (T.item XC rfl rfl rfl hc i [] s5 σ5 H5 _ I5 (fpc fr5 (by simp)) st5 go) fun r s6 ⟨u, hr, h6⟩ => ?_
   subst hr
   refine thn h6 fun _ s7 ⟨x, H7, I7, r7, y7, st7, fr7⟩ => ?_
   have I7' := I7.pinned (fpc fr7 (by simp)) (T.obj _ _ st7)
   have again : ∀ {σ8 : St} {H8 : Hp} {s8 : Shared}, Inv XC ([] ++ uR fp s7.heap) σ8 H8 s8 -> (∃ acc', H8 D = some (.lst acc') /\ ∃ m', m' < n /\ W (i + 1) m' acc' σ8 H8) ->
     ∃ m, m < n /\ ∃ i acc σ' H', Inv XC [] σ' H' s8 /\ tn i s8.heap /\ (∀ b ∈ fp, H' b = Option.none) /\ H' D = some (.lst acc) /\ W i m acc σ' H' := fun {σ8 H8 s8} I8 ⟨acc', hA', m', hm, w8⟩ => by
    refine ⟨m', hm, i + 1, acc', σ8, H8, I8.unpinned, T.keep _ _ _ st7 fun b hb o e => (I8.pin (b, o) (List.mem_append_right _ (List.mem_append_right _ (iM hb e)))).1, fun b hb => ?_, hA', w8⟩
    obtain ⟨o, e, d⟩ := T.obj _ _ st7 b hb
    exact (I8.pin (b, o) (List.mem_append_right _ (List.mem_append_right _ (iM hb e)))).2.1
   refine thn (hg s3 _ fp _ _ s7 σ5 H7 x u _ I7' r7 (step x H7 y7)) fun _ s8 ⟨σ8, H8, I8, q8⟩ => ?_
   refine thn (ht s3 _ fp _ _ s8 σ8 H8 _ I8 q8) fun b s9 ⟨H9, I9, q9⟩ => ?_
   cases b with
   | false =>
    rw [if_neg Bool.false_ne_true] at q9 ⊢
    obtain ⟨m', hm, acc', hA', w9⟩ := q9
    exact again I9 ⟨acc', hA', m', hm, w9⟩
   | true =>
    rw [if_pos rfl] at q9 ⊢
    refine thn (he s3 _ fp _ _ s9 σ8 H9 _ I9 q9) fun v s10 ⟨y, H10, I10, r10, acc', hA', hz, m', hm, w10⟩ => ?_
    refine thn (dN (X := XC) _ s10 σ8 H10 (.ref D) [y] (.ref D) [v] (fun _ Hz => Hz = upd H10 D (.lst (acc' ++ [y]))) I10 rfl (.cons r10 .nil) ⟨D, acc', y, rfl, rfl, hA', hz, rfl⟩) fun _ s11 ⟨_, H11, I11, _, e11⟩ => ?_
    subst e11
    exact again I11 ⟨acc' ++ [y], au, m', hm, w10⟩
 exact codeAny_compStart_list (loop _ rfl) (T.self _ 0 _ _ _ st4 (loop _ rfl))
theorem bI (hc : X.calm = true) (C : CompOk X iter scope N' cap) (hi : PI X tg iter wi)
  (hg : ∀ s H fp xe, PG (cxC X N' scope s H fp xe) tg g) (ht : ∀ s H fp xe, PTs (cxC X N' scope s H fp xe) ifs tt) (he : ∀ s H fp xe, PE (cxC X N' scope s H fp xe) elt te) :
  PE X (.ListComp elt [⟨tg, iter, ifs, 0⟩] scope pos) (Iz cap wi g tt te) := by
 intro pins s σ H Q I h
 rw [eval_ListComp]
 refine wpAny_comprehension_free (use := none) rfl C.fold C.clos C.kind C.names (thn (hi pins s σ H _ I h) fun v s1 h1 => thn h1 fun itv s2 h2 => ?_)
 obtain ⟨it, fp, tn, J, H2, e, I2, T, st2, f2, hw⟩ := h2
 subst e
 refine vd (R := fun acc Cl => compPost (model X.prog X.w) X.A X.xe none (EP X pins σ Q) acc Cl) hc C hg ht he I2 T st2 f2 ?_ hw
 intro D Cl H' s' I' ⟨m, hn⟩ hf h1 h2 h3 h4 q
 exact ⟨m, hn, fun h' hs' => ⟨.ref D, H', I'.turned (t' := s'.toks) (fun b o hb e => (hs'.2 b hb).trans e) hf h1 (.inr h2) h3 h4, rfl, q⟩⟩
theorem qU {i : Nat} {y : Str} {py spos : Pos} (hN : X.N.Nodup) (hi0 : X.N[i]? = some y) (hy : X.env.scope.names.lookup y = some .local)
  (hc : X.calm = true) (C : CompOk X iter scope N' cap) (hi : PI X tg iter wi)
  (hg : ∀ s H fp xe, PG (cxC X N' scope s H fp xe) tg g) (ht : ∀ s H fp xe, PTs (cxC X N' scope s H fp xe) ifs tt) (he : ∀ s H fp xe, PE (cxC X N' scope s H fp xe) elt te)
  (hsw : swapsWith (.ListComp elt [⟨tg, iter, ifs, 0⟩] scope pos) (some (.Name y py)) spos.line X.env = pure true := by rfl) :
  PS X (.Assign [.Name y py] (.ListComp elt [⟨tg, iter, ifs, 0⟩] scope pos) spos) (Mm (Iz cap wi g tt te) (xq i)) := by
 intro pins s σ H D I h
 rw [exec_Assign_Name_used _ _ _ _ hsw]
 refine wpAny_bind (wpAny_standAt (wpAny_bind ?_))
 show wpAny _ X.A (do let _ <- comprehension (.ListComp elt [⟨tg, iter, ifs, 0⟩] scope pos) scope X.env _ (newList []) false (eval iter X.env) (some (assign (.Name y py) X.env))) _ _ s
 refine wpAny_bind (wpAny_mono (wpAny_comprehension_free (use := some (assign (.Name y py) X.env)) (Q := fun _ s' => SP X pins D .next s') rfl C.fold C.clos C.kind C.names (thn (hi pins s σ H _ I h) fun v s1 h1 => thn h1 fun itv s2 h2 => ?_))
  (fun _ s' hq => wpAny_pure (wpAny_pure hq)) fun _ _ e => e)
 obtain ⟨it, fp, tn, J, H2, e, I2, T, st2, f2, hw⟩ := h2
 subst e
 refine vd (Q := fun x H1 => xq i x σ H1 D.nx) (R := fun acc Cl => compPost (model X.prog X.w) X.A X.xe (some (assign (.Name y py) X.env)) (fun _ s' => SP X pins D .next s') acc Cl) hc C hg ht he I2 T st2 f2 ?_ hw
 intro Da Cl H' s' I' ⟨m, hn⟩ hf h1 h2 h3 h4 q
 show wpAny _ _ (assign (.Name y py) X.env (.ref Da)) _ _ s'
 refine wpAny_assign_Name (uW I' hN hi0 (.inl hy) (v := .ref Da) rfl (fun s'' I'' ⟨a, hsb, ha⟩ => ?_) (.inr hy))
 have hne : Cl ≠ a := by
  rcases ha with z | z
  ·rw [z]; exact h1
  ·exact Ne.symm (h3 y a z)
 exact ⟨m, hn.sameBut hsb hne, fun h' hs' => ⟨_, H', I''.turned (t' := s''.toks) (fun b o hb e => (hs'.2 b hb).trans e) hf h1 (.inr h2) h3 h4, q⟩⟩
end
end L2
namespace L2
open PySem PySem.Spec PyProof.Rows
section
variable {X : Cx} {a b c : Expr} {ta tb tc : TE} {pos : Pos}
def CMulB (i j : Int) : Prop := i.natAbs < 2 ^ 2000 /\ j.natAbs < 2 ^ 2000
theorem CMulB.ok {i j : Int} (h : CMulB i j) : IntMulOk i j :=
 IntMulOk.of_bits (Nat.le_trans (intBits_le h.1) (by decide)) (Nat.le_trans (intBits_le h.2) (by decide))
def uX (_ j : Int) : Prop := 0 < j /\ j.natAbs < 2 ^ 2000
theorem iQ : OpR X (binaryOp .FloorDiv) (rI uX fun i j => .int (i / j)) := opI fun i j _ _ _ _ _ hc q => by
 have h1 : (0 : Int) < j := hc.1
 have h0 : j.natAbs ≠ 0 := by omega
 have h2 : j.natAbs.log2 < 2000 := (Nat.log2_lt h0).mpr hc.2
 exact floordiv_int (by omega) (by rw [Int.fdiv_eq_ediv_of_nonneg i (by omega)]; exact q) (.inl (PyProof.noPylong_of_log2 (by omega)))
theorem Bx (hc : X.calm = true) : dM X (.builtin "sum") (fun xs H Q => ∃ (a : Addr) (ns : List Int), xs = [.ref a] /\ SqL X.K H a (ns.map V.int) /\ Q (.int ns.sum) H) := by
 intro pins s σ H xs us Q I r h
 obtain ⟨a, ns, rfl, hq, q⟩ := h
 obtain ⟨u, rfl, r1⟩ := vals1 r
 cases r1
 obtain ⟨its, rv, pl, hz⟩ := I.list hq
 have hi : IntsAre its ns := intsAre_of rv
 obtain ⟨xs, e⟩ := hi.allInts.items
 have hl := pl.isList
 rw [e] at hl
 refine sum_intListG (I.ok.hd hc) hl fun h' tk t' hk => ?_
 have e1 : its = (intItems xs).toList := by rw [<- e]
 have e2 : xs.toList.map (·.1) = ns := by rw [<- nums_intItems, <- e1, hi.numsOf]
 have es : preSum (numAt xs) xs.size = ns.sum := by rw [preSum_eq, List.take_of_length_le (by simp), e2]
 rw [es]
 exact ⟨.int ns.sum, H, I.kept hk, ⟨_, rfl⟩, q⟩
theorem qT {pins : List (Addr × Obj)} {σ : St} {H : Hp} {s : Shared} {l : Addr} {bs : List Bool} (I : Inv X pins σ H s) (hq : SqL X.K H l (bs.map V.bl)) :
  ∃ its : List Value, its.length = bs.length /\ s.heap.IsList l its.toArray /\ l ≠ s.heap.objs.size /\ ∀ (i : Nat) (v : Value), its.toArray[i]? = some v -> v = .bool (bs.getD i false) := by
 obtain ⟨its, rv, pl, hz⟩ := I.list hq
 refine ⟨its, by rw [<- rv.length, List.length_map], pl.isList, ?_, fun i v e => ?_⟩
 ·obtain ⟨o, n, e, _⟩ := pl
  exact Nat.ne_of_lt (Heap.lt_size e)
 ·have e' : its[i]? = some v := by simpa using e
  have hi : i < its.length := (List.getElem?_eq_some_iff.mp e').1
  have hb : i < bs.length := by have := rv.length; rw [List.length_map] at this; omega
  obtain ⟨u, hu, ru⟩ := rv.get (i := i) (x := .bl bs[i]) (by simp [hb])
  rw [e'] at hu
  cases hu
  have : v = Value.bool bs[i] := ru
  rw [this]
  simp [List.getD, hb]
theorem range_any (bs : List Bool) : (List.range bs.length).any (fun i => bs.getD i false) = bs.any id := by
 rw [Bool.eq_iff_iff]
 simp only [List.any_eq_true, List.mem_range, id]
 constructor
 ·rintro ⟨i, hi, e⟩
  refine ⟨bs[i], List.getElem_mem hi, ?_⟩
  simpa [List.getD, hi] using e
 ·rintro ⟨x, hx, e⟩
  obtain ⟨i, hi, rfl⟩ := List.mem_iff_getElem.mp hx
  exact ⟨i, hi, by simpa [List.getD, hi] using e⟩
theorem range_all (bs : List Bool) : (List.range bs.length).all (fun i => bs.getD i false) = bs.all id := by
 rw [Bool.eq_iff_iff]
 simp only [List.all_eq_true, List.mem_range, id]
 constructor
 ·intro h x hx
  obtain ⟨i, hi, rfl⟩ := List.mem_iff_getElem.mp hx
  simpa [List.getD, hi] using h i hi
 ·intro h i hi
  have := h bs[i] (List.getElem_mem hi)
  simpa [List.getD, hi] using this
theorem Av (hc : X.calm = true) : dM X (.builtin "any") (fun xs H Q => ∃ (a : Addr) (bs : List Bool), xs = [.ref a] /\ SqL X.K H a (bs.map V.bl) /\ Q (.bl (bs.any id)) H) := by
 intro pins s σ H xs us Q I r h
 obtain ⟨a, bs, rfl, hq, q⟩ := h
 obtain ⟨u, rfl, r1⟩ := vals1 r
 cases r1
 obtain ⟨its, hlen, hl, hne, hit⟩ := qT I hq
 refine call_any_walk (wpAny_pyIter_list hl ?_)
 refine ⟨s.heap.objs.size, _, _, _, _, _, fun i => bs.getD i false, rfl, Walks.list (A := X.A.in1) (I.ok.hd hc) s.heap.objs.size a hne its.toArray, ⟨⟨_, Heap.get?_push_size _ rfl, rfl, rfl⟩, hl.at fun o e => Heap.get?_push_of_some _ e⟩, fun i v s' Q' E' e hQ => ?_, fun h' tk hk => ?_⟩
 ·rw [hit i v e]
  exact wpAny_truthy_bool hQ
 ·have e : (List.range its.toArray.size).any (fun i => bs.getD i false) = bs.any id := by rw [List.size_toArray, hlen]; exact range_any bs
  rw [e]
  refine ⟨.bl (bs.any id), H, I.kept fun b o e => hk b o ?_ (Heap.get?_push_of_some _ e), rfl, q⟩
  intro z
  have z' : b = s.heap.objs.size := by simpa using z
  rw [z'] at e
  exact absurd (Heap.lt_size e) (Nat.lt_irrefl _)
theorem Cy (hc : X.calm = true) : dM X (.builtin "all") (fun xs H Q => ∃ (a : Addr) (bs : List Bool), xs = [.ref a] /\ SqL X.K H a (bs.map V.bl) /\ Q (.bl (bs.all id)) H) := by
 intro pins s σ H xs us Q I r h
 obtain ⟨a, bs, rfl, hq, q⟩ := h
 obtain ⟨u, rfl, r1⟩ := vals1 r
 cases r1
 obtain ⟨its, hlen, hl, hne, hit⟩ := qT I hq
 refine call_all_walk (wpAny_pyIter_list hl ?_)
 refine ⟨s.heap.objs.size, _, _, _, _, _, fun i => bs.getD i false, rfl, Walks.list (A := X.A.in1) (I.ok.hd hc) s.heap.objs.size a hne its.toArray, ⟨⟨_, Heap.get?_push_size _ rfl, rfl, rfl⟩, hl.at fun o e => Heap.get?_push_of_some _ e⟩, fun i v s' Q' E' e hQ => ?_, fun h' tk hk => ?_⟩
 ·rw [hit i v e]
  exact wpAny_truthy_bool hQ
 ·have e : (List.range its.toArray.size).all (fun i => bs.getD i false) = bs.all id := by rw [List.size_toArray, hlen]; exact range_all bs
  rw [e]
  refine ⟨.bl (bs.all id), H, I.kept fun b o e => hk b o ?_ (Heap.get?_push_of_some _ e), rfl, q⟩
  intro z
  have z' : b = s.heap.objs.size := by simpa using z
  rw [z'] at e
  exact absurd (Heap.lt_size e) (Nat.lt_irrefl _)
end
section
variable {prog : Program} {w : World} {A : Around} {E : Value -> Shared -> Prop}
theorem uK {it t : Addr} {items : Array Value} (hne : t ≠ it) : ∀ (n i : Nat) (s : Shared) (Q : List Value -> Shared -> Prop), s.heap.IsListIter it t i -> s.heap.IsList t items -> i + n <= items.size ->
  (∀ h', h'.IsListIter it t (i + n) -> Heap.SameBut it s.heap h' -> Q ((items.toList.drop i).take n) { s with heap := h' }) -> wpAny (model prog w) A (draw (.ref it) n) Q E s
 | 0, i, s, Q, hit, _, _, hQ => by
  show wpAny _ _ (pure []) Q E s
  exact wpAny_pure (by simpa using hQ s.heap hit (Heap.SameBut.refl ..))
 | n + 1, i, s, Q, hit, ht, hle, hQ => by
  have hlt : i < items.size := by omega
  show wpAny _ _ (pyNext (.ref it) >>= _) Q E s
  refine wpAny_bind (wpAny_pyNext_list_item hit ht (x := items[i]) (by simp [hlt]) fun h₁ hit₁ hs₁ => ?_)
  refine wpAny_bind (wpAny_holding (uK hne n (i + 1) _ _ hit₁ (ht.extBut hs₁.extBut hne) (by omega) fun h₂ hit₂ hs₂ => wpAny_pure ?_))
  have hd : items.toList.drop i = items[i] :: items.toList.drop (i + 1) := by simp [List.drop_eq_getElem_cons, hlt]
  have := hQ h₂ (by rw [show i + (n + 1) = i + 1 + n by omega]; exact hit₂) (hs₁.trans hs₂)
  rw [hd, List.take_succ_cons] at this
  exact this
theorem lZ {s : Shared} {t : Addr} {items : Array Value} {Q : List Value -> Shared -> Prop} (hh : A.handled = none) (ht : s.heap.IsList t items)
  (hQ : ∀ h', Heap.ExtBut s.heap.objs.size s.heap h' -> Q items.toList { s with heap := h' }) : wpAny (model prog w) A (unpackItems (.ref t) items.size none) Q E s := by
 have hlt : t ≠ s.heap.objs.size := by obtain ⟨o, ho, _⟩ := ht; exact Nat.ne_of_lt (Heap.lt_size ho)
 unfold unpackItems
 refine wpAny_bind ?_
 ·unfold notIterableAtAll
  refine wpAny_bind (wpAny_specialOf ht.typeIs slot_list_iter.lookup ?_)
  refine wpAny_pure ?_
  simp only [Bool.false_eq_true, if_false]
  refine wpAny_bind (wpAny_holding (wpAny_pyIter_list ht ?_))
  have ht0 : (s.heap.push { cls := .type "list_iterator", data := .fields #[.ref t, .int 0 0] }).IsList t items := ht.at fun o e => Heap.get?_push_of_some _ e
  refine wpAny_bind (wpAny_holding (uK hlt items.size 0 _ _ ⟨_, Heap.get?_push_size _ rfl, rfl, rfl⟩ ht0 (by omega) fun h₁ hit₁ hs₁ => ?_))
  have hall : List.take items.size (List.drop 0 items.toList) = items.toList := by
   rw [List.drop_zero]; exact List.take_of_length_le (by simp)
  rw [hall]
  rw [if_neg (by simp)]
  have ht₁ : h₁.IsList t items := ht0.extBut hs₁.extBut hlt
  refine wpAny_bind (wpAny_holding (wpAny_pyNext_list_end hh hit₁ ht₁ (by simp) fun h₂ he₂ => ?_))
  simp only [Option.isSome_none, Bool.false_eq_true, if_false]
  refine wpAny_pure (hQ h₂ fun b o hb e => he₂ b o hb (hs₁.extBut b o hb (Heap.get?_push_of_some _ e)))
theorem kJ {env : Env} {elts : List Expr} {x1} {pos : Pos} {s : Shared} {t : Addr} {items : Array Value} {Q : Unit -> Shared -> Prop} (hh : A.handled = none) (ht : s.heap.IsList t items)
  (hn : (assignEach elts env).length = items.size) (hstar : (assignEach elts env).findIdx? (·.1) = none)
  (h : ∀ h', Heap.ExtBut s.heap.objs.size s.heap h' -> wpAny (model prog w) A (assignInOrder ((assignEach elts env).map (·.2)) items.toList) Q E { s with heap := h' }) :
  wpAny (model prog w) A (assign (.Tuple elts x1 pos) env (.ref t)) Q E s := by
 rw [assign_Tuple]
 refine wpAny_bind (wpAny_standAt ?_)
 unfold unpack
 rw [hn, hstar]
 exact wpAny_bind (wpAny_holding (lZ hh ht h))
end
section
variable {X : Cx} {pos : Pos}
def Nu (K : Fg_) (n : Nat) (t : TGs) : TG := fun v σ H Q => ∃ a xs, v = .ref a /\ SqL K H a xs /\ xs.length = n /\ t xs σ H Q
theorem Kr {es : List Expr} {k : Nat} {t : TGs} {n : Nat} (hc : X.calm = true) (h : PGs X es t)
  (hn : (assignEach es X.env).length = n := by rfl) (hst : (assignEach es X.env).findIdx? (·.1) = none := by rfl) : PG X (.Tuple es k pos) (Nu X.K n t) := by
 intro pins s σ H v u Q I r hw
 obtain ⟨a, xs, e1, hq, hl, hw⟩ := hw
 subst e1
 cases r
 obtain ⟨its, rv, ht, hz⟩ := I.list hq
 refine kJ (I.ok.hd hc) ht.isList (by simp [hn, <- hl, rv.length]) hst fun h' hx => ?_
 have I1 : Inv X pins σ H { s with heap := h' } := I.kept (t' := s.toks) fun b o e => hx b o (Nat.ne_of_lt (Heap.lt_size e)) e
 exact h pins _ σ H xs _ Q I1 (by simpa using rv) hw
end
end L2
namespace L2
open PySem PySem.Spec PyProof.Rows
section
variable {X : Cx} {a b c : Expr} {ta tb tc : TE} {pos : Pos}
def CMulU (i j : Int) : Prop := CMul i j \/ CMulB i j
theorem dZ : OpR X (binaryOp .Mult) (rI CMulU fun i j => .int (i * j)) := opI fun _ _ _ _ _ _ _ hc q => mul_int q (hc.elim (fun h => h.ok) fun h => h.ok)
theorem CMulU.l {i j : Int} (h1 : -(2 ^ 64) < i) (h2 : i < 2 ^ 64) : CMulU i j := .inl (.inl ⟨h1, h2⟩)
theorem CMulU.r {i j : Int} (h1 : -(2 ^ 64) < j) (h2 : j < 2 ^ 64) : CMulU i j := .inl (.inr ⟨h1, h2⟩)
theorem CMulU.big {i j : Int} (h1 : i.natAbs < 2 ^ 2000) (h2 : j.natAbs < 2 ^ 2000) : CMulU i j := .inr ⟨h1, h2⟩
theorem tM : dM X (.builtin "isinstance") (fun xs H Q => ∃ x n t k, xs = [x, .ty n] /\ TyOf X.K H x t /\ PySem.W.kitOne X.K t (.type n) = some k /\ Q (.bl k) H) := by
 intro pins s σ H xs us Q I r h
 obtain ⟨x, n, t, k, rfl, ty, e, q⟩ := h
 obtain ⟨u, w', rfl, rx, rc⟩ := vals2 r
 cases rc
 exact uD I rx ty e fun tk => ⟨.bl k, H, I.tok _, rfl, q⟩
theorem tR : dM X (.builtin "isinstance") (fun xs H Q => ∃ x C t k, xs = [x, .ref C] /\ TyOf X.K H x t /\ PySem.W.kitOne X.K t (.ref C) = some k /\ Q (.bl k) H) := by
 intro pins s σ H xs us Q I r h
 obtain ⟨x, C, t, k, rfl, ty, e, q⟩ := h
 obtain ⟨u, w', rfl, rx, rc⟩ := vals2 r
 cases rc
 exact uD I rx ty e fun tk => ⟨.bl k, H, I.tok _, rfl, q⟩
theorem Il {x : Str} (T : String) (hg : Gl X x) (hm : X.mg x = none) (hv : bootBuiltins x = some (.type T)) (hn : x ≠ "__name__" := by decide) (hd : (x == ("__debug__" : Str)) = false := by decide) : PE X (.Name x pos) (tC (.ty T)) := HN hg hm hv rfl hn hd
end
section
variable {D : Ends} {σ : St} {H : Hp} {t u : TS} {te ta tb tc : TE} {tt tu : TT} {Q : VK} {QB : Bool -> Hp -> Prop} {QA : List V -> Hp -> Prop} {QG : St -> Hp -> Prop} {v x y : V} {vs : List V} {i j : Nat} {g : TG} {gs : TGs} {A : TA} {K : Fg_}
theorem ap_seq : JS t u D σ H = t { D with nx := u D } σ H := rfl
theorem ap_next : JR D σ H = D.nx σ H := rfl
theorem ap_asg : Mm te g D σ H = te σ H fun x H1 => g x σ H1 D.nx := rfl
theorem ap_name : xq i v σ H QG = QG (σ.set i (some v)) H := rfl
theorem ap_var : KH i σ H Q = ∃ v, σ[i]? = some (some v) /\ Q v H := rfl
theorem ap_c : tC v σ H Q = Q v H := rfl
theorem ap_op {r : R2} : tOp r ta tb σ H Q = ta σ H fun x H1 => tb σ H1 fun y H2 => r x y H2 Q := rfl
theorem ap_un {r : V -> Hp -> VK -> Prop} : tUn r ta σ H Q = ta σ H fun x H1 => r x H1 Q := rfl
theorem ap_rI {C : Int -> Int -> Prop} {f : Int -> Int -> V} : rI C f x y H Q = ∃ i j, x = .int i /\ y = .int j /\ C i j /\ Q (f i j) H := rfl
theorem ap_rI0 {f : Int -> Int -> V} : rI0 f x y H Q = ∃ i j, x = .int i /\ y = .int j /\ Q (f i j) H := rfl
theorem ap_rU {f : Int -> V} : rU f x H Q = ∃ i, x = .int i /\ Q (f i) H := rfl
theorem ap_rEq : rEq x y H Q = (KR x y = true /\ Q (.bl (decide (x = y))) H) := rfl
theorem ap_ret : Oe te D σ H = te σ H D.rt := rfl
theorem ap_retN : Ko D σ H = D.rt .non H := rfl
theorem ap_drop : Lb te D σ H = te σ H fun _ H1 => D.nx σ H1 := rfl
theorem ap_if : Mq tt t u D σ H = tt σ H fun b H1 => if b = true then t D σ H1 else u D σ H1 := rfl
theorem ap_test : Mi te σ H QB = te σ H fun x H' => ∃ k, x = .bl k /\ QB k H' := rfl
theorem ap_tB : tB te σ H QB = te σ H fun x H1 => ∃ c, x = .bl c /\ QB c H1 := rfl
theorem ap_and : Oi tt tu σ H QB = tt σ H fun c H1 => if c = true then tu σ H1 QB else QB false H1 := rfl
theorem ap_or : tOr tt tu σ H QB = tt σ H fun c H1 => if c = true then QB true H1 else tu σ H1 QB := rfl
theorem ap_not : Ob tt σ H QB = tt σ H fun c H1 => QB (!c) H1 := rfl
theorem ap_andV : Mg ta tb σ H Q = ta σ H fun x H1 => ∃ c, x = .bl c /\ if c = true then tb σ H1 Q else Q (.bl false) H1 := rfl
theorem ap_notV : JP ta σ H Q = ta σ H fun x H1 => ∃ c, x = .bl c /\ Q (.bl (!c)) H1 := rfl
theorem ap_ifE : tIf tt ta tb σ H Q = tt σ H fun c H1 => if c = true then ta σ H1 Q else tb σ H1 Q := rfl
theorem ap_call {sp : Sp} {dvs : List V} {E : XK} : Ip sp dvs E A σ H Q = A σ H fun vs H1 => sp (vs ++ dvs) H1 Q E := rfl
theorem ap_nil : JN σ H QA = QA [] H := rfl
theorem ap_cons : Fx ta A σ H QA = ta σ H fun x H1 => A σ H1 fun xs H2 => QA (x :: xs) H2 := rfl
theorem ap_cb {r : List V -> Hp -> VK -> Prop} : tCB r A σ H Q = A σ H fun vs H1 => r vs H1 Q := rfl
theorem ap_lst : NZ A σ H Q = A σ H fun xs H1 => xs.length <= sizeLine /\ ∀ p, H1 p = none -> Q (.ref p) (upd H1 p (.lst xs)) := rfl
theorem ap_tup : Oj A σ H Q = A σ H fun xs H1 => xs.length <= sizeLine /\ ∀ p, H1 p = none -> Q (.ref p) (upd H1 p (.tup xs)) := rfl
theorem ap_chain {r r' : R2} : GJ r r' ta tb tc σ H Q = ta σ H fun x H1 => tb σ H1 fun y H2 => r x y H2 fun z H3 => ∃ k, z = .bl k /\ (if k = true then tc σ H3 fun w' H4 => r' y w' H4 Q else Q (.bl false) H3) := rfl
theorem ap_sl {r : V -> Option Int -> Option Int -> Hp -> VK -> Prop} {tl th : TO} : tSl r te tl th σ H Q = te σ H fun x H1 => tl σ H1 fun l H2 => th σ H2 fun u H3 => r x l u H3 Q := rfl
theorem ap_noPart {QO : Option Int -> Hp -> Prop} : BX σ H QO = QO none H := rfl
theorem ap_part {QO : Option Int -> Hp -> Prop} : KY te σ H QO = te σ H fun x H1 => ∃ i, x = .int i /\ QO (some i) H1 := rfl
theorem ap_gNil : Oa vs σ H QG = (vs = [] /\ QG σ H) := rfl
theorem ap_gCons {u : TGs} : Ka g u vs σ H QG = ∃ v r, vs = v :: r /\ g v σ H fun σ' H' => u r σ' H' QG := rfl
theorem ap_gLst {n : Nat} : Nu K n gs v σ H QG = ∃ a xs, v = .ref a /\ SqL K H a xs /\ xs.length = n /\ gs xs σ H QG := rfl
theorem ap_gTup {n : Nat} : MN K n gs v σ H QG = ∃ a xs, v = .ref a /\ SqT K H a xs /\ xs.length = n /\ gs xs σ H QG := rfl
theorem ap_bm {T : String} {r : V -> List V -> Hp -> VK -> Prop} : tBM K T r te A σ H Q = te σ H fun x H1 => tyV K T x H1 /\ A σ H1 fun xs H2 => r x xs H2 Q := rfl
theorem ap_bm0 {T : String} {r : V -> List V -> Hp -> VK -> Prop} : Nq K T r te σ H Q = te σ H fun x H1 => tyV K T x H1 /\ r x [] H1 Q := rfl
theorem ap_ixL {x y : V} : Nr K x y H Q = ∃ p xs i v, x = .ref p /\ y = .int i /\ SqL K H p xs /\ atI xs i = some v /\ Q v H := rfl
theorem ap_slL {lo hi : Option Int} : Ng K x lo hi H Q = ∃ a xs, x = .ref a /\ SqL K H a xs /\ ∀ p, H p = none -> Q (.ref p) (upd H p (.lst (yg xs lo hi))) := rfl
theorem scal_int (i j : Int) : KR (.int i) (.int j) = true := rfl
theorem scal_str (i j : Str) : KR (.str i) (.str j) = true := rfl
theorem scal_bl (i j : Bool) : KR (.bl i) (.bl j) = true := rfl
theorem start_eq (N : List Str) (vs : List V) : start N vs = vs.map some ++ List.replicate (N.length - vs.length) none := rfl
end
end L2
namespace L2
open PySem PySem.Spec PyProof.Rows
theorem jw {α : Type} (l : List α) : l.filter (fun _ => true) = l := by simp
theorem Same.upd {H H' : Hp} {a : Addr} {o : HO} (h : Same H H') (hn : H a = Option.none) : Same H (upd H' a o) := fun b u e => by
 rw [aF (aN e hn)]
 exact h b u e
theorem Same.new {H : Hp} {a : Addr} {o : HO} (hn : H a = Option.none) : Same H (L2.upd H a o) := Same.upd (Same.refl H) hn
section
variable {K : Fg_} {a D : Addr} {xs : List V} {g : TG} {tt : TT} {te : TE} {σ0 : St} {H1 : Hp} {Q : VK}
theorem jo {xs : List V} (J : It) (Sσ : St -> Prop) (p : V -> Bool) (F : V -> V) (hD : H1 D = Option.none) (h0 : Sσ σ0) (hz : xs.length <= sizeLine)
  (hgo : ∀ (i : Nat) x H, xs[i]? = some x -> Same H1 H -> J.go i H /\ ∀ y H', J.yld i H y H' -> y = x /\ H' = H) (hstop : ∀ H, Same H1 H -> J.stop xs.length H)
  (hs : ∀ x ∈ xs, ∀ (σ : St) (H : Hp) (R1 : St -> VK) (R2 : St -> Hp -> Prop), Sσ σ -> Same H1 H -> (p x = true -> ∀ σ4 H6, Sσ σ4 -> Same H H6 -> R1 σ4 (F x) H6) -> (p x = false -> ∀ σ4 H6, Sσ σ4 -> Same H H6 -> R2 σ4 H6) ->
   g x σ H fun σ4 H4 => tt σ4 H4 fun b H5 => if b = true then te σ4 H5 (R1 σ4) else R2 σ4 H5)
  (k : ∀ H', Same H1 H' -> H' D = some (.lst ((xs.filter p).map F)) -> Q (.ref D) H') :
  ∃ W : Nat -> Nat -> List V -> St -> Hp -> Prop, (∃ m, W 0 m [] σ0 (upd H1 D (.lst []))) /\ ∀ i m acc σ1 H2, W i m acc σ1 H2 -> H2 D = some (.lst acc) ->
   (J.stop i H2 /\ Q (.ref D) H2) \/ (J.go i H2 /\ ∀ x H3, J.yld i H2 x H3 -> g x σ1 H3 fun σ4 H4 => tt σ4 H4 fun b H5 =>
    if b = true then te σ4 H5 fun v H6 => ∃ acc', H6 D = some (.lst acc') /\ acc'.length < sizeLine /\ ∃ m', m' < m /\ W (i + 1) m' (acc' ++ [v]) σ4 (upd H6 D (.lst (acc' ++ [v])))
    else ∃ m', m' < m /\ ∃ acc', H5 D = some (.lst acc') /\ W (i + 1) m' acc' σ4 H5) := by
 refine ⟨fun i m acc σ H => m = xs.length - i /\ i <= xs.length /\ Sσ σ /\ Same H1 H /\ acc = ((xs.take i).filter p).map F, ⟨xs.length, rfl, Nat.zero_le _, h0, Same.new hD, by simp⟩, ?_⟩
 rintro i m acc σ H ⟨rfl, hi, hσ, sm, rfl⟩ hA
 by_cases hlt : i < xs.length
 ·have hx : xs[i]? = some xs[i] := by simp [hlt]
  obtain ⟨go, yl⟩ := hgo i xs[i] H hx sm
  refine .inr ⟨go, fun y H' hy => ?_⟩
  obtain ⟨rfl, rfl⟩ := yl y H' hy
  have htake : xs.take (i + 1) = xs.take i ++ [xs[i]] := by rw [List.take_add_one, hx]; rfl
  have hlen : (((xs.take i).filter p).map F).length <= i := by
   rw [List.length_map]
   exact Nat.le_trans (List.length_filter_le _ _) (by rw [List.length_take]; exact Nat.min_le_left _ _)
  refine hs xs[i] (List.getElem_mem hlt) σ H' _ _ hσ sm (fun hp σ4 H6 hσ4 s6 => ?_) (fun hp σ4 H6 hσ4 s6 => ?_)
  ·refine ⟨_, s6 _ _ hA, by omega, xs.length - (i + 1), by omega, rfl, hlt, hσ4, (sm.trans s6).upd hD, ?_⟩
   rw [htake, List.filter_append, List.map_append]
   simp [hp]
  ·refine ⟨xs.length - (i + 1), by omega, _, s6 _ _ hA, rfl, hlt, hσ4, sm.trans s6, ?_⟩
   rw [htake, List.filter_append, List.map_append]
   simp [hp]
 ·have e : i = xs.length := by omega
  subst e
  refine .inl ⟨hstop H sm, k H sm ?_⟩
  rw [hA, List.take_length]
theorem Bl (Sσ : St -> Prop) (p : V -> Bool) (F : V -> V) (hS : SqL K H1 a xs) (hD : H1 D = Option.none) (h0 : Sσ σ0) (hz : xs.length <= sizeLine)
  (hs : ∀ x ∈ xs, ∀ (σ : St) (H : Hp) (R1 : St -> VK) (R2 : St -> Hp -> Prop), Sσ σ -> Same H1 H -> (p x = true -> ∀ σ4 H6, Sσ σ4 -> Same H H6 -> R1 σ4 (F x) H6) -> (p x = false -> ∀ σ4 H6, Sσ σ4 -> Same H H6 -> R2 σ4 H6) ->
   g x σ H fun σ4 H4 => tt σ4 H4 fun b H5 => if b = true then te σ4 H5 (R1 σ4) else R2 σ4 H5)
  (k : ∀ H', Same H1 H' -> H' D = some (.lst ((xs.filter p).map F)) -> Q (.ref D) H') :
  ∃ W : Nat -> Nat -> List V -> St -> Hp -> Prop, (∃ m, W 0 m [] σ0 (upd H1 D (.lst []))) /\ ∀ i m acc σ1 H2, W i m acc σ1 H2 -> H2 D = some (.lst acc) ->
   ((Itl K a).stop i H2 /\ Q (.ref D) H2) \/ ((Itl K a).go i H2 /\ ∀ x H3, (Itl K a).yld i H2 x H3 -> g x σ1 H3 fun σ4 H4 => tt σ4 H4 fun b H5 =>
    if b = true then te σ4 H5 fun v H6 => ∃ acc', H6 D = some (.lst acc') /\ acc'.length < sizeLine /\ ∃ m', m' < m /\ W (i + 1) m' (acc' ++ [v]) σ4 (upd H6 D (.lst (acc' ++ [v])))
    else ∃ m', m' < m /\ ∃ acc', H5 D = some (.lst acc') /\ W (i + 1) m' acc' σ4 H5) :=
 jo (Itl K a) Sσ p F hD h0 hz (fun i x H hx sm => ⟨⟨xs, x, sm.seq hS, hx⟩, fun y H' hy => ⟨Option.some.inj ((hy.2 xs (sm.seq hS)).symm.trans hx), hy.1⟩⟩) (fun H sm => ⟨xs, sm.seq hS, Nat.le_refl _⟩) hs k
theorem zQ {lo : Int} {n : Nat} (Sσ : St -> Prop) (p : V -> Bool) (F : V -> V) (hD : H1 D = Option.none) (h0 : Sσ σ0) (hz : n <= sizeLine)
  (hs : ∀ i : Nat, i < n -> ∀ (σ : St) (H : Hp) (R1 : St -> VK) (R2 : St -> Hp -> Prop), Sσ σ -> Same H1 H -> (p (.int (lo + i)) = true -> ∀ σ4 H6, Sσ σ4 -> Same H H6 -> R1 σ4 (F (.int (lo + i))) H6) -> (p (.int (lo + i)) = false -> ∀ σ4 H6, Sσ σ4 -> Same H H6 -> R2 σ4 H6) ->
   g (.int (lo + i)) σ H fun σ4 H4 => tt σ4 H4 fun b H5 => if b = true then te σ4 H5 (R1 σ4) else R2 σ4 H5)
  (k : ∀ H', Same H1 H' -> H' D = some (.lst ((((List.range n).map fun (i : Nat) => V.int (lo + i)).filter p).map F)) -> Q (.ref D) H') :
  ∃ W : Nat -> Nat -> List V -> St -> Hp -> Prop, (∃ m, W 0 m [] σ0 (upd H1 D (.lst []))) /\ ∀ i m acc σ1 H2, W i m acc σ1 H2 -> H2 D = some (.lst acc) ->
   ((Itr lo n).stop i H2 /\ Q (.ref D) H2) \/ ((Itr lo n).go i H2 /\ ∀ x H3, (Itr lo n).yld i H2 x H3 -> g x σ1 H3 fun σ4 H4 => tt σ4 H4 fun b H5 =>
    if b = true then te σ4 H5 fun v H6 => ∃ acc', H6 D = some (.lst acc') /\ acc'.length < sizeLine /\ ∃ m', m' < m /\ W (i + 1) m' (acc' ++ [v]) σ4 (upd H6 D (.lst (acc' ++ [v])))
    else ∃ m', m' < m /\ ∃ acc', H5 D = some (.lst acc') /\ W (i + 1) m' acc' σ4 H5) := by
 refine jo (xs := (List.range n).map fun (i : Nat) => V.int (lo + i)) (Itr lo n) Sσ p F hD h0 (by simpa using hz) (fun i x H hx sm => ?_) (fun H sm => ?_) (fun x hx σ H R1 R2 h1 h2 h3 h4 => ?_) k
 ·have hi : i < n := by simpa using (List.getElem?_eq_some_iff.mp hx).1
  have e : x = .int (lo + i) := by
   rw [List.getElem?_map, List.getElem?_range hi] at hx
   exact (Option.some.inj hx).symm
  exact ⟨hi, fun y H' hy => ⟨hy.2.trans e.symm, hy.1⟩⟩
 ·show n <= _
  simp
 ·obtain ⟨i, hi, rfl⟩ := List.mem_map.mp hx
  exact hs i (List.mem_range.mp hi) σ H R1 R2 h1 h2 h3 h4
end
end L2
namespace L2
open PySem PySem.Spec PyProof.Rows
inductive DV where
 | non | bl (b : Bool) | int (i : Int) | str (x : Str) | lst (xs : List DV) | tup (xs : List DV)
mutual
inductive RepD (K : Fg_) (H : Hp) : V -> DV -> Prop
 | non : RepD K H .non .non
 | bl (b : Bool) : RepD K H (.bl b) (.bl b)
 | int (i : Int) : RepD K H (.int i) (.int i)
 | str (x : Str) : RepD K H (.str x) (.str x)
 | lst {a : Addr} {vs : List V} {ds : List DV} (h : SqL K H a vs) (hs : RepsD K H vs ds) : RepD K H (.ref a) (.lst ds)
 | tup {a : Addr} {vs : List V} {ds : List DV} (h : SqT K H a vs) (hs : RepsD K H vs ds) : RepD K H (.ref a) (.tup ds)
inductive RepsD (K : Fg_) (H : Hp) : List V -> List DV -> Prop
 | nil : RepsD K H [] []
 | cons {v : V} {d : DV} {vs : List V} {ds : List DV} (h : RepD K H v d) (hs : RepsD K H vs ds) : RepsD K H (v :: vs) (d :: ds)
end
end L2
namespace L2
open PySem PySem.Spec PyProof.Rows
section
variable {X : Cx} {K : Fg_} {a b o e : Expr} {ta tb to te : TE} {pos : Pos} {tg : Expr}
theorem gP (hK : X.K = K := by rfl) : IxR X (Nr K) := hK ▸ Jj
theorem jb (hK : X.K = K := by rfl) : IxR X (MJ K) := hK ▸ JL
theorem rT (hK : X.K = K := by rfl) : SlR X (Ng K) := hK ▸ HF
def Nb (K : Fg_) : List V -> Hp -> VK -> Prop := fun xs H Q => ∃ p ys, xs = [.ref p] /\ (SqL K H p ys \/ SqT K H p ys) /\ Q (.int ys.length) H
theorem jt (hK : X.K = K := by rfl) : dM X (.builtin "len") (Nb K) := hK ▸ vC
def Mz (K : Fg_) : List V -> Hp -> VK -> Prop := fun xs H Q => ∃ (a : Addr) (ns : List Int), xs = [.ref a] /\ SqL K H a (ns.map V.int) /\ Q (.int ns.sum) H
theorem eZ (hc : X.calm = true) (hK : X.K = K := by rfl) : dM X (.builtin "sum") (Mz K) := hK ▸ Bx hc
def MP (K : Fg_) : List V -> Hp -> VK -> Prop := fun xs H Q => ∃ (a : Addr) (bs : List Bool), xs = [.ref a] /\ SqL K H a (bs.map V.bl) /\ Q (.bl (bs.any id)) H
theorem vo (hc : X.calm = true) (hK : X.K = K := by rfl) : dM X (.builtin "any") (MP K) := hK ▸ Av hc
def Ny (K : Fg_) : List V -> Hp -> VK -> Prop := fun xs H Q => ∃ (a : Addr) (bs : List Bool), xs = [.ref a] /\ SqL K H a (bs.map V.bl) /\ Q (.bl (bs.all id)) H
theorem zU (hc : X.calm = true) (hK : X.K = K := by rfl) : dM X (.builtin "all") (Ny K) := hK ▸ Cy hc
def oG (K : Fg_) : List V -> Hp -> VK -> Prop := fun xs H Q => ∃ p ys, xs = [.ref p] /\ (SqL K H p ys \/ SqT K H p ys) /\ ∀ l, H l = none -> Q (.ref l) (upd H l (.lst ys))
theorem iR (hK : X.K = K := by rfl) : dM X (.type "list") (oG K) := hK ▸ uH
def Oo (K : Fg_) : List V -> Hp -> VK -> Prop := fun xs H Q => ∃ x n t k, xs = [x, .ty n] /\ TyOf K H x t /\ PySem.W.kitOne K t (.type n) = some k /\ Q (.bl k) H
theorem qd (hK : X.K = K := by rfl) : dM X (.builtin "isinstance") (Oo K) := hK ▸ tM
def NQ (K : Fg_) : List V -> Hp -> VK -> Prop := fun xs H Q => ∃ x C t k, xs = [x, .ref C] /\ TyOf K H x t /\ PySem.W.kitOne K t (.ref C) = some k /\ Q (.bl k) H
theorem pU (hK : X.K = K := by rfl) : dM X (.builtin "isinstance") (NQ K) := hK ▸ tR
def NT : List V -> Hp -> VK -> Prop := fun xs H Q => ∃ i j, xs = [.int i, .int j] /\ Q (.int (if j > i then j else i)) H
theorem Bs (hc : X.calm = true) : dM X (.builtin "max") NT := Dp hc
def Oh : List V -> Hp -> VK -> Prop := fun xs H Q => ∃ i j, xs = [.int i, .int j] /\ Q (.int (if j < i then j else i)) H
theorem nR (hc : X.calm = true) : dM X (.builtin "min") Oh := Ad hc
theorem aZ (hl : PE X o to) (hK : X.K = K := by rfl) : PI X tg o (Ir K to) := hK ▸ Jp hl
theorem Hy {es : List Expr} {k : Nat} {t : TGs} {n : Nat} (hc : X.calm = true) (h : PGs X es t) (hn : (assignEach es X.env).length = n := by rfl) (hst : (assignEach es X.env).findIdx? (·.1) = none := by rfl) (hK : X.K = K := by rfl) : PG X (.Tuple es k pos) (Nu K n t) := hK ▸ Kr hc h hn hst
theorem gW {es : List Expr} {k : Nat} {t : TGs} {n : Nat} (hc : X.calm = true) (h : PGs X es t) (hn : (assignEach es X.env).length = n := by rfl) (hst : (assignEach es X.env).findIdx? (·.1) = none := by rfl) (hK : X.K = K := by rfl) : PG X (.Tuple es k pos) (MN K n t) := hK ▸ Lw hc h hn hst
theorem aB {f : Str} (he : PE X e ta) (hb : attributeBase e f X.env (eval e X.env) = eval e X.env) (hK : X.K = K := by rfl) : PE X (.Attribute e f pos) (Mt K ta f) := hK ▸ JZ he hb
theorem gq {T : String} {name : Str} {id : String} {r : V -> List V -> Hp -> VK -> Prop} {es : List Expr} {t : TA} {apos cpos : Pos} (pa : PlainAttrs T) (slot : Slot T name id) (hty : typeOf (.builtin id) = pure (.type "method_descriptor")) (hm : MtR X id r) (ho : PE X o to) (ha : PA X (e :: es) t)
  (hbase : attributeBase o name X.env (eval o X.env) = eval o X.env := by rfl)
  (hfew : ((backTo cpos (starEach (e :: es) X.env)).all (fun x => !x.1) && (backToKw cpos (keywordEach [] X.env)).all (fun x => x.1.isSome)
   && decide ((e :: es).length + ([] : List Keyword).length + (if ([] : List Keyword).isEmpty then 0 else 1) < 30)) = true := by rfl)
  (hline : (apos.endLine == cpos.line) = true := by rfl) (hs : starEach (e :: es) X.env = (false, eval e X.env) :: starEach es X.env := by rfl) (hplain : (backTo cpos (starEach es X.env)).any (·.1) = false := by rfl) (hK : X.K = K := by rfl) :
  PE X (.Call (.Attribute o name apos) (e :: es) [] cpos) (tBM K T r to t) := hK ▸ Nh pa slot hty hm ho ha hbase hfew hline hs hplain
theorem wW {T : String} {name : Str} {id : String} {r : V -> List V -> Hp -> VK -> Prop} {apos cpos : Pos} (pa : PlainAttrs T) (slot : Slot T name id) (hty : typeOf (.builtin id) = pure (.type "method_descriptor")) (hm : MtR X id r) (ho : PE X o to)
  (hbase : attributeBase o name X.env (eval o X.env) = eval o X.env := by rfl) (hline : (apos.endLine == cpos.line) = true := by rfl) (hK : X.K = K := by rfl) : PE X (.Call (.Attribute o name apos) [] [] cpos) (Nq K T r to) := hK ▸ JH pa slot hty hm ho hbase hline
end
section
variable {K : Fg_} {H : Hp} {Q : VK} {p : Addr} {x y : V}
theorem ap_noIf {σ : St} {QB : Bool -> Hp -> Prop} : zH σ H QB = QB true H := rfl
theorem ap_rLen : Nb K [.ref p] H Q = ∃ ys, (SqL K H p ys \/ SqT K H p ys) /\ Q (.int (ys.length : Int)) H := by simp [Nb]
theorem ap_rSum : Mz K [.ref p] H Q = ∃ ns : List Int, SqL K H p (ns.map V.int) /\ Q (.int ns.sum) H := by simp [Mz]
theorem ap_rAny : MP K [.ref p] H Q = ∃ bs : List Bool, SqL K H p (bs.map V.bl) /\ Q (.bl (bs.any id)) H := by simp [MP]
theorem ap_rAll : Ny K [.ref p] H Q = ∃ bs : List Bool, SqL K H p (bs.map V.bl) /\ Q (.bl (bs.all id)) H := by simp [Ny]
theorem ap_rListOf : oG K [.ref p] H Q = ∃ ys, (SqL K H p ys \/ SqT K H p ys) /\ ∀ l, H l = none -> Q (.ref l) (upd H l (.lst ys)) := by simp [oG]
theorem ap_rIsT {n : String} : Oo K [x, .ty n] H Q = ∃ t k, TyOf K H x t /\ PySem.W.kitOne K t (.type n) = some k /\ Q (.bl k) H := propext ⟨fun ⟨x', n', t, k, e, h⟩ => by
  injection e with e1 e2
  injection e2 with e2 _
  injection e2 with e2
  subst e1 e2
  exact ⟨t, k, h⟩, fun ⟨t, k, h⟩ => ⟨x, n, t, k, rfl, h⟩⟩
theorem ap_append : sX (.ref p) [y] H Q = ∃ xs, H p = some (.lst xs) /\ xs.length < sizeLine /\ Q .non (upd H p (.lst (xs ++ [y]))) := by simp [sX]
theorem ap_rCat {l b : Addr} : Ni (.ref l) (.ref b) H Q = ∃ xs zs, H l = some (.lst xs) /\ H b = some (.lst zs) /\ xs.length + zs.length <= sizeLine /\ ∀ p, H p = none -> Q (.ref p) (upd H p (.lst (xs ++ zs))) := by simp [Ni]
theorem ap_rMax {i j : Int} : NT [.int i, .int j] H Q = Q (.int (if j > i then j else i)) H := propext ⟨fun ⟨i', j', e, h⟩ => by cases e; exact h, fun h => ⟨i, j, rfl, h⟩⟩
theorem ap_rMin {i j : Int} : Oh [.int i, .int j] H Q = Q (.int (if j < i then j else i)) H := propext ⟨fun ⟨i', j', e, h⟩ => by cases e; exact h, fun h => ⟨i, j, rfl, h⟩⟩
end
end L2
namespace L2
open PySem PySem.Spec PyProof.Rows
section
variable {K : Fg_} {a : Addr} {xs : List V} {g : TG} {tb : TS} {D : Ends} {σ : St} {H : Hp} {wi : TI} {cap : List (Option Nat)} {tt : TT} {te tl : TE} {Q : VK} {ta : TA} {R : It -> Hp -> Prop}
def ForP (J : It) (g : TG) (tb : TS) (D : Ends) (σ : St) (H1 : Hp) : Prop := ∃ W : Nat -> Nat -> St -> Hp -> Prop, (∃ m, W 0 m σ H1) /\ ∀ i m σ H, W i m σ H ->
 (J.stop i H /\ D.nx σ H) \/ (J.go i H /\ ∃ N : St -> Hp -> Prop, (∀ σ' H', N σ' H' -> ∃ m', m' < m /\ W (i + 1) m' σ' H') /\ ∀ x H', J.yld i H x H' -> g x σ H' fun σ2 H2 => tb { D with nx := N, ct := N, bk := D.nx } σ2 H2)
theorem ap_for : Mp wi g tb D σ H = wi σ H fun J H1 => ForP J g tb D σ H1 := rfl
theorem ForP.list (Pv : Nat -> St -> Hp -> Prop) (h0 : Pv 0 σ H) (hl : ∀ i σ H, i <= xs.length -> Pv i σ H -> SqL K H a xs)
  (hs : ∀ i x σ H, xs[i]? = some x -> Pv i σ H -> g x σ H fun σ2 H2 => tb { D with nx := Pv (i + 1), ct := Pv (i + 1), bk := D.nx } σ2 H2) (hd : ∀ σ H, Pv xs.length σ H -> D.nx σ H) : ForP (Itl K a) g tb D σ H := FQ Pv h0 hl hs hd
theorem ForP.range {lo : Int} {n : Nat} (Pv : Nat -> St -> Hp -> Prop) (h0 : Pv 0 σ H)
  (hs : ∀ i σ H, i < n -> Pv i σ H -> g (.int (lo + i)) σ H fun σ2 H2 => tb { D with nx := Pv (i + 1), ct := Pv (i + 1), bk := D.nx } σ2 H2) (hd : ∀ σ H, Pv n σ H -> D.nx σ H) : ForP (Itr lo n) g tb D σ H := Ak Pv h0 hs hd
theorem ap_iList : Ir K tl σ H R = tl σ H fun x H1 => ∃ a, x = .ref a /\ (∃ xs, SqL K H1 a xs) /\ R (Itl K a) H1 := rfl
theorem ap_iRng1 : Kc ta σ H R = ta σ H fun vs H1 => ∃ j : Int, vs = [.int j] /\ -(2 ^ 62) <= j /\ j < 2 ^ 62 /\ R (Itr 0 j.toNat) H1 := rfl
def CompP (cap : List (Option Nat)) (J : It) (g : TG) (tt : TT) (te : TE) (σ : St) (H1 : Hp) (Q : VK) : Prop := ∀ D, H1 D = Option.none ->
 ∃ W : Nat -> Nat -> List V -> St -> Hp -> Prop, (∃ m, W 0 m [] (iH σ cap) (upd H1 D (.lst []))) /\ ∀ i m acc σ1 H2, W i m acc σ1 H2 -> H2 D = some (.lst acc) ->
  (J.stop i H2 /\ Q (.ref D) H2) \/ (J.go i H2 /\ ∀ x H3, J.yld i H2 x H3 -> g x σ1 H3 fun σ4 H4 => tt σ4 H4 fun b H5 =>
   if b = true then te σ4 H5 fun v H6 => ∃ acc', H6 D = some (.lst acc') /\ acc'.length < sizeLine /\ ∃ m', m' < m /\ W (i + 1) m' (acc' ++ [v]) σ4 (upd H6 D (.lst (acc' ++ [v])))
   else ∃ m', m' < m /\ ∃ acc', H5 D = some (.lst acc') /\ W (i + 1) m' acc' σ4 H5)
theorem ap_comp : Iz cap wi g tt te σ H Q = wi σ H fun J H1 => CompP cap J g tt te σ H1 Q := rfl
theorem CompP.list (Sσ : St -> Prop) (p : V -> Bool) (F : V -> V) (hS : SqL K H a xs) (h0 : Sσ (iH σ cap)) (hz : xs.length <= sizeLine)
  (hs : ∀ x ∈ xs, ∀ (σ : St) (H5 : Hp) (R1 : St -> VK) (R2 : St -> Hp -> Prop), Sσ σ -> Same H H5 -> (p x = true -> ∀ σ4 H6, Sσ σ4 -> Same H5 H6 -> R1 σ4 (F x) H6) -> (p x = false -> ∀ σ4 H6, Sσ σ4 -> Same H5 H6 -> R2 σ4 H6) ->
   g x σ H5 fun σ4 H4 => tt σ4 H4 fun b H5 => if b = true then te σ4 H5 (R1 σ4) else R2 σ4 H5)
  (k : ∀ D H', H D = Option.none -> Same H H' -> H' D = some (.lst ((xs.filter p).map F)) -> Q (.ref D) H') : CompP cap (Itl K a) g tt te σ H Q :=
 fun D hD => Bl Sσ p F hS hD h0 hz hs fun H' s e => k D H' hD s e
theorem CompP.range {lo : Int} {n : Nat} (Sσ : St -> Prop) (p : V -> Bool) (F : V -> V) (h0 : Sσ (iH σ cap)) (hz : n <= sizeLine)
  (hs : ∀ i : Nat, i < n -> ∀ (σ : St) (H5 : Hp) (R1 : St -> VK) (R2 : St -> Hp -> Prop), Sσ σ -> Same H H5 -> (p (.int (lo + i)) = true -> ∀ σ4 H6, Sσ σ4 -> Same H5 H6 -> R1 σ4 (F (.int (lo + i))) H6) -> (p (.int (lo + i)) = false -> ∀ σ4 H6, Sσ σ4 -> Same H5 H6 -> R2 σ4 H6) ->
   g (.int (lo + i)) σ H5 fun σ4 H4 => tt σ4 H4 fun b H5 => if b = true then te σ4 H5 (R1 σ4) else R2 σ4 H5)
  (k : ∀ D H', H D = Option.none -> Same H H' -> H' D = some (.lst ((((List.range n).map fun (i : Nat) => V.int (lo + i)).filter p).map F)) -> Q (.ref D) H') : CompP cap (Itr lo n) g tt te σ H Q :=
 fun D hD => zQ Sσ p F hD h0 hz hs fun H' s e => k D H' hD s e
theorem Ey (xs : List V) (n : Nat) : yg xs none (some (n : Int)) = xs.take n := by
 unfold yg
 rw [HT.sIx_none, HT.sIx_nat, List.drop_zero, Nat.sub_zero]
 rcases Nat.le_total n xs.length with h | h
 ·rw [Nat.min_eq_left h]
 ·rw [Nat.min_eq_right h, List.take_of_length_le h, List.take_of_length_le (Nat.le_refl _)]
end
end L2
namespace L2
open PySem PySem.Spec PyProof.Rows
structure LeE (D D' : Ends) : Prop where
 nx : ∀ σ H, D.nx σ H -> D'.nx σ H
 rt : ∀ v H, D.rt v H -> D'.rt v H
 bk : ∀ σ H, D.bk σ H -> D'.bk σ H
 ct : ∀ σ H, D.ct σ H -> D'.ct σ H
end L2
namespace L2
open PySem PySem.Spec PyProof.Rows
section
variable {X : Cx} {pins : List (Addr × Obj)} {σ : St} {H : Hp} {s : Shared} {h' : Heap}
theorem Inv.turnedN {t' : Nat} {fp : List Addr} (I : Inv X pins σ H s) (hf : ∀ b ∈ fp, yo X pins H b) (k : ∀ b o, b ∉ fp -> s.heap.get? b = some o -> h'.get? b = some o) : Inv X pins σ H { s with heap := h', toks := t' } := by
 have nit : ∀ b u, H b = some u -> b ∉ fp := fun b u e z => by rw [(hf b z).1] at e; cases e
 refine I.step (g' := s.gens) (d' := s.drawn) (ch := fp) (fun b hb => ⟨(hf b hb).2.2.2.1, (hf b hb).2.1, (hf b hb).2.2.2.2.1, (hf b hb).2.2.2.2.2⟩) (fun b o _ _ hc e _ => k b o hc e) (fun b o _ _ hc e _ => ⟨o.slots, k b o hc e⟩) (fun _ _ _ _ n => n)
  (fun b o hc e => ⟨o, k b o hc e⟩) (fun _ _ e => e) (fun _ _ _ e => e) (fun b ps e => ⟨#[], by rw [e]; simp⟩) (fun m hm => ?_) (fun b u e => ?_) I.bare
 ·obtain ⟨o, es, ep, ho, r⟩ := hm
  exact ⟨o, es, ep, k _ o (fun z => (hf _ z).2.1 rfl) ho, r⟩
 ·refine (I.hok b u e).stay (fun c v hc q => k c v ?_ q) (fun _ q => q) fun _ _ q => q
  rcases hc with z | z
  ·rw [z]; exact nit b u e
  ·exact nit c _ z
theorem Inv.turnedT {t' : Nat} {fp : List Addr} {T : Addr} {o : HO} (I : Inv X pins σ H s) (hf : ∀ b ∈ fp, yo X pins H b) (hT : s.heap.objs.size <= T) (k : ∀ b o, b ∉ fp -> s.heap.get? b = some o -> h'.get? b = some o)
  (new : ObjOk X.prog X.w (upd H T o) h' T o) : Inv X pins σ (upd H T o) { s with heap := h', toks := t' } := by
 have nit : ∀ b u, H b = some u -> b ∉ fp := fun b u e z => by rw [(hf b z).1] at e; cases e
 have hn : H T = none := I.hok.fresh hT
 refine I.step (g' := s.gens) (d' := s.drawn) (ch := fp) (fun b hb => ⟨(hf b hb).2.2.2.1, (hf b hb).2.1, (hf b hb).2.2.2.2.1, (hf b hb).2.2.2.2.2⟩) (fun b o _ _ hc e _ => k b o hc e) (fun b o _ _ hc e _ => ⟨o.slots, k b o hc e⟩)
  (fun b o _ e n => by rw [aF (Nat.ne_of_lt (Nat.lt_of_lt_of_le (Heap.lt_size e) hT))]; exact n)
  (fun b o hc e => ⟨o, k b o hc e⟩) (fun b xs e => by rw [aF (aN e hn)]; exact e) (fun b o xs e => by rw [aF (aN e hn)]; exact e) (fun b ps e => ⟨#[], by rw [aF (aN e hn), e]; simp⟩) (fun m hm => ?_) (fun b u e => ?_) I.bare
 ·obtain ⟨o, es, ep, ho, r⟩ := hm
  exact ⟨o, es, ep, k _ o (fun z => (hf _ z).2.1 rfl) ho, r⟩
 ·by_cases hb : b = T
  ·subst hb; rw [au] at e; cases e; exact new
  ·rw [aF hb] at e
   refine (I.hok b u e).stay (fun c v hc q => k c v ?_ q) (fun c q => by rw [aF (aN q hn)]; exact q) fun c xs q => by rw [aF (aN q hn)]; exact q
   rcases hc with z | z
   ·rw [z]; exact nit b u e
   ·exact nit c _ z
end
theorem fB {h : Heap} {a b : Addr} {oa ob : Obj} {ca cb : Value} (ha : h.get? a = some oa) (hb : h.get? b = some ob) (ea : oa.cls = ca) (eb : ob.cls = cb) (hc : ca ≠ cb) : a ≠ b := by
 intro e; subst e; rw [ha] at hb; cases hb; exact hc (ea.symm.trans eb)
def Itz (K : Fg_) (a b : Addr) : It :=
 ⟨fun i H => ∃ xs ys x y, SqL K H a xs /\ SqL K H b ys /\ xs[i]? = some x /\ ys[i]? = some y,
   fun i H v H' => ∃ p x y, H p = none /\ v = .ref p /\ H' = upd H p (.tup [x, y]) /\ (∀ xs, SqL K H a xs -> xs[i]? = some x) /\ ∀ ys, SqL K H b ys -> ys[i]? = some y,
   fun i H => ∃ xs ys, SqL K H a xs /\ SqL K H b ys /\ (xs.length <= i \/ ys.length <= i)⟩
theorem nM {h : Heap} {z TI TO i1 i2 a b : Addr} {f0 u v : Value} {xs ys : Array Value} {j1 j2 : Nat} (hTT : TI ≠ TO) (h12 : i1 ≠ i2) (hz : IsZip h z TI TO f0) (hTI : IsPair h TI (.ref i1) (.ref i2)) (hTO : IsPair h TO u v)
  (h1 : h.IsListIter i1 a j1) (h2 : h.IsListIter i2 b j2) (p1 : h.IsList a xs) (p2 : h.IsList b ys) : ZipApart z TI TO i1 i2 a b := by
 obtain ⟨o1, e1, c1, _⟩ := h1
 obtain ⟨o2, e2, c2, _⟩ := h2
 obtain ⟨l1, f1, d1, _⟩ := p1
 obtain ⟨l2, f2, d2, _⟩ := p2
 exact ⟨fB hTI hz rfl rfl (by simp), fB hTO hz rfl rfl (by simp), fB e1 hz c1 rfl (by simp), fB e2 hz c2 rfl (by simp), hTT, fB hTI e1 rfl c1 (by simp), fB hTI e2 rfl c2 (by simp), fB hTO e1 rfl c1 (by simp), fB hTO e2 rfl c2 (by simp), h12,
  fB f1 hz d1 rfl (by simp), fB f1 hTO d1 rfl (by simp), fB f1 e1 d1 c1 (by simp), fB f1 e2 d1 c2 (by simp), fB f2 hz d2 rfl (by simp), fB f2 hTO d2 rfl (by simp), fB f2 e1 d2 c1 (by simp), fB f2 e2 d2 c2 (by simp)⟩
theorem Gi {P : Program} {w : World} {K : Fg_} {elts : List Expr} {x1 : Nat} {pos : Pos} (a b z TI TO i1 i2 : Addr) (hTT : TI ≠ TO) (h12 : i1 ≠ i2) :
  Turn P w K (.Tuple elts x1 pos) (Itz K a b) [z, TI, TO, i1, i2] z (fun i h => IsZip h z TI TO .none /\ IsPair h TI (.ref i1) (.ref i2) /\ (∃ u v, IsPair h TO u v) /\ h.IsListIter i1 a i /\ h.IsListIter i2 b i) where
 mem := by simp
 obj := fun i h st c hb => by
  obtain ⟨hz, hTI, ⟨u, v, hTO⟩, ⟨o1, e1, c1, d1⟩, ⟨o2, e2, c2, d2⟩⟩ := st
  simp only [List.mem_cons, List.not_mem_nil, or_false] at hb
  rcases hb with rfl | rfl | rfl | rfl | rfl
  ·exact ⟨_, hz, fun v z => by cases z⟩
  ·exact ⟨_, hTI, fun v z => by cases z⟩
  ·exact ⟨_, hTO, fun v z => by cases z⟩
  ·exact ⟨_, e1, fun v z => by rw [d1] at z; cases z⟩
  ·exact ⟨_, e2, fun v z => by rw [d2] at z; cases z⟩
 keep := fun i h h' st k => by
  obtain ⟨hz, hTI, ⟨u, v, hTO⟩, h1, h2⟩ := st
  exact ⟨k _ (by simp) _ hz, k _ (by simp) _ hTI, ⟨u, v, k _ (by simp) _ hTO⟩, h1.at fun o e => k _ (by simp) o e, h2.at fun o e => k _ (by simp) o e⟩
 item := by
  intro X hP hw hK hc i pins s σ H E I hf st hg
  subst hP hw hK
  obtain ⟨xs, ys, x, y, hq1, hq2, hx, hy⟩ := hg
  obtain ⟨its1, rv1, p1, _⟩ := I.list hq1
  obtain ⟨its2, rv2, p2, _⟩ := I.list hq2
  obtain ⟨u1, hu1, ru1⟩ := rv1.get hx
  obtain ⟨u2, hu2, ru2⟩ := rv2.get hy
  obtain ⟨hz, hTI, ⟨ua, ub, hTO⟩, h1, h2⟩ := st
  have D := nM hTT h12 hz hTI hTO h1 h2 p1.isList p2.isList
  refine wpAny_pyNext_zip_item D hz hTI hTO h1 h2 p1.isList p2.isList (x := u1) (y := u2) (by simpa using hu1) (by simpa using hu2) fun h' a1 a2 a3 a4 a5 a6 a7 => ?_
  refine ⟨_, rfl, wpAny_letOwnedTupleGo_zip (s := { s with heap := h' }) a1 fun h'' b1 b2 => ?_⟩
  have nz : s.heap.objs.size ≠ z := Nat.ne_of_gt (Heap.lt_size hz)
  have k : ∀ c o, c ∉ [z, TI, TO, i1, i2] -> s.heap.get? c = some o -> h''.get? c = some o := fun c o hc e => by
   simp only [List.mem_cons, List.not_mem_nil, or_false, not_or] at hc
   exact (b2.2 c hc.1).trans (a7 c o hc.1 hc.2.2.1 hc.2.2.2.1 hc.2.2.2.2 e)
  have hTup : h''.get? s.heap.objs.size = some { cls := .type "tuple", data := .seq #[u1, u2] } := (b2.2 _ nz).trans a5
  refine ⟨.ref s.heap.objs.size, upd H s.heap.objs.size (.tup [x, y]), I.turnedT (t' := s.toks) hf (Nat.le_refl _) k ⟨by rw [sizeLine_eq]; simp, [u1, u2], .cons ru1 (.cons ru2 .nil), _, hTup, rfl, _, rfl⟩, rfl,
   ⟨_, x, y, I.hok.fresh (Nat.le_refl _), rfl, rfl, fun xs' q => by rw [I.list_inj q hq1]; exact hx, fun ys' q => by rw [I.list_inj q hq2]; exact hy⟩, ?_, fun c hb => ?_⟩
  ·exact ⟨b1, (b2.2 _ D.TIz).trans (a7 _ _ D.TIz D.TITO D.TIi1 D.TIi2 hTI), ⟨_, _, (b2.2 _ D.TOz).trans a2⟩, a3.at fun o e => (b2.2 _ D.i1z).trans e, a4.at fun o e => (b2.2 _ D.i2z).trans e⟩
  ·obtain ⟨o, e⟩ : ∃ o, s.heap.get? c = some o := by
    simp only [List.mem_cons, List.not_mem_nil, or_false] at hb
    rcases hb with rfl | rfl | rfl | rfl | rfl
    ·exact ⟨_, hz⟩
    ·exact ⟨_, hTI⟩
    ·exact ⟨_, hTO⟩
    ·obtain ⟨o, e, _⟩ := h1; exact ⟨o, e⟩
    ·obtain ⟨o, e, _⟩ := h2; exact ⟨o, e⟩
   rw [aF (Nat.ne_of_lt (Heap.lt_size e))]
   exact (hf c hb).1
 done := by
  intro X hP hw hK hc i pins s σ H E I hf st hg
  subst hP hw hK
  obtain ⟨xs, ys, hq1, hq2, hx⟩ := hg
  obtain ⟨its1, rv1, p1, _⟩ := I.list hq1
  obtain ⟨its2, rv2, p2, _⟩ := I.list hq2
  obtain ⟨hz, hTI, ⟨ua, ub, hTO⟩, h1, h2⟩ := st
  have D := nM hTT h12 hz hTI hTO h1 h2 p1.isList p2.isList
  have l1 := rv1.length
  have l2 := rv2.length
  refine wpAny_pyNext_zip_end (I.ok.hd hc) D hz hTI hTO h1 h2 p1.isList p2.isList (hx.elim (fun h => .inl (by simp; omega)) fun h => .inr (by simp; omega)) fun h' k => ⟨rfl, I.turnedN (t' := s.toks) hf fun c o hc e => ?_⟩
  simp only [List.mem_cons, List.not_mem_nil, or_false, not_or] at hc
  exact k c o hc.1 hc.2.2.1 hc.2.2.2.1 hc.2.2.2.2 e
 self := fun _ _ _ _ _ st h => wpAny_pyIter_zip st.1 h
def Ite (K : Fg_) (a : Addr) : It :=
 ⟨fun i H => ∃ xs x, SqL K H a xs /\ xs[i]? = some x,
   fun i H v H' => ∃ p x, H p = none /\ v = .ref p /\ H' = upd H p (.tup [.int i, x]) /\ ∀ xs, SqL K H a xs -> xs[i]? = some x,
   fun i H => ∃ xs, SqL K H a xs /\ xs.length <= i⟩
theorem Aq {P : Program} {w : World} {K : Fg_} {elts : List Expr} {x1 : Nat} {pos : Pos} (a e it : Addr) (hei : e ≠ it) :
  Turn P w K (.Tuple elts x1 pos) (Ite K a) [e, it] e (fun i h => (∃ old, IsEnum h e it i old) /\ h.IsListIter it a i) where
 mem := by simp
 obj := fun i h st c hb => by
  obtain ⟨⟨old, he⟩, ⟨o1, e1, c1, d1⟩⟩ := st
  simp only [List.mem_cons, List.not_mem_nil, or_false] at hb
  rcases hb with rfl | rfl
  ·exact ⟨_, he, fun v z => by cases z⟩
  ·exact ⟨_, e1, fun v z => by rw [d1] at z; cases z⟩
 keep := fun i h h' st k => by
  obtain ⟨⟨old, he⟩, h1⟩ := st
  exact ⟨⟨old, k _ (by simp) _ he⟩, h1.at fun o e => k _ (by simp) o e⟩
 item := by
  intro X hP hw hK hc i pins s σ H E I hf st hg
  subst hP hw hK
  obtain ⟨xs, x, hq1, hx⟩ := hg
  obtain ⟨its1, rv1, p1, _⟩ := I.list hq1
  obtain ⟨u1, hu1, ru1⟩ := rv1.get hx
  obtain ⟨⟨old, he⟩, h1⟩ := st
  refine wpAny_pyNext_enum_item he h1 p1.isList (x := u1) (by simpa using hu1) hei fun h' a1 a2 a3 a4 a5 => ?_
  refine ⟨_, rfl, wpAny_letOwnedTupleGo_enum (s := { s with heap := h', toks := s.toks + 1 }) a1 fun h'' b1 b2 => ?_⟩
  have ne : s.heap.objs.size ≠ e := Nat.ne_of_gt (Heap.lt_size he)
  have k : ∀ c o, c ∉ [e, it] -> s.heap.get? c = some o -> h''.get? c = some o := fun c o hc q => by
   simp only [List.mem_cons, List.not_mem_nil, or_false, not_or] at hc
   exact (b2.2 c hc.1).trans (a5 c o hc.1 hc.2 q)
  have hTup : h''.get? s.heap.objs.size = some { cls := .type "tuple", data := .seq #[.int i s.toks, u1] } := (b2.2 _ ne).trans a3
  refine ⟨.ref s.heap.objs.size, upd H s.heap.objs.size (.tup [.int i, x]), I.turnedT (t' := s.toks + 1) hf (Nat.le_refl _) k ⟨by rw [sizeLine_eq]; simp, [.int i s.toks, u1], .cons ⟨_, rfl⟩ (.cons ru1 .nil), _, hTup, rfl, _, rfl⟩, rfl,
   ⟨_, x, I.hok.fresh (Nat.le_refl _), rfl, rfl, fun xs' q => by rw [I.list_inj q hq1]; exact hx⟩, ⟨⟨u1, by simpa using b1⟩, a2.at fun o q => (b2.2 _ (Ne.symm hei)).trans q⟩, fun c hb => ?_⟩
  obtain ⟨o, q⟩ : ∃ o, s.heap.get? c = some o := by
   simp only [List.mem_cons, List.not_mem_nil, or_false] at hb
   rcases hb with rfl | rfl
   ·exact ⟨_, he⟩
   ·obtain ⟨o, q, _⟩ := h1; exact ⟨o, q⟩
  rw [aF (Nat.ne_of_lt (Heap.lt_size q))]
  exact (hf c hb).1
 done := by
  intro X hP hw hK hc i pins s σ H E I hf st hg
  subst hP hw hK
  obtain ⟨xs, hq1, hx⟩ := hg
  obtain ⟨its1, rv1, p1, _⟩ := I.list hq1
  obtain ⟨⟨old, he⟩, h1⟩ := st
  have l1 := rv1.length
  refine wpAny_pyNext_enum_end (I.ok.hd hc) he h1 p1.isList (by simp; omega) fun h' k => ⟨rfl, I.turnedN (t' := s.toks) hf fun c o hc q => ?_⟩
  simp only [List.mem_cons, List.not_mem_nil, or_false, not_or] at hc
  exact k c o hc.2 q
 self := fun _ _ _ _ _ st h => by
  obtain ⟨⟨old, he⟩, _⟩ := st
  exact wpAny_pyIter_enum he h
section
variable {X : Cx} {K : Fg_} {ta : TA} {elts : List Expr} {x1 : Nat} {tpos : Pos}
def Ol (K : Fg_) (ta : TA) : TI := fun σ H R => ta σ H fun vs H1 => ∃ a b, vs = [.ref a, .ref b] /\ (∃ xs, SqL K H1 a xs) /\ (∃ ys, SqL K H1 b ys) /\ R (Itz K a b) H1
def Lh (K : Fg_) (ta : TA) : TI := fun σ H R => ta σ H fun vs H1 => ∃ a, vs = [.ref a] /\ (∃ xs, SqL K H1 a xs) /\ R (Ite K a) H1
theorem Hg {a b : Expr} {p pos : Pos} (hg : Gl X "zip") (hm : X.mg "zip" = none) (ha : PA X [a, b] ta) (hs : starEach [a, b] X.env = [(false, eval a X.env), (false, eval b X.env)] := by rfl) (hs2 : starEach [b] X.env = [(false, eval b X.env)] := by rfl) (hK : X.K = K := by rfl) :
  PI X (.Tuple elts x1 tpos) (.Call (.Name "zip" p) [a, b] [] pos) (Ol K ta) := by
 subst hK
 intro pins s σ H R I h
 refine Call_ (pH I hg hm (by decide +kernel) (PyProof.Rows.callWith_type1 (T := "zip") (thn (ha pos pins s σ H _ I h) fun us s1 ⟨vs, H1, I1, r1, q1⟩ => ?_) (by rw [hs, hs2]) (by rw [hs2]; rfl)))
 obtain ⟨l1, l2, e, ⟨xs, hx⟩, ⟨ys, hy⟩, q⟩ := q1
 subst e
 obtain ⟨u, v, rfl, ru, rv⟩ := vals2 r1
 cases ru
 cases rv
 obtain ⟨its1, _, p1, _⟩ := I1.list hx
 obtain ⟨its2, _, p2, _⟩ := I1.list hy
 refine call_zip_2 p1.isList p2.isList fun h' g1 g2 g3 g4 g5 g6 k => ?_
 have I2 : Inv X pins σ H1 { s1 with heap := h' } := I1.kept (t' := s1.toks) k
 refine wpAny_pyIter_zip (s := { s1 with heap := h' }) g1 ⟨_, [s1.heap.objs.size + 4, s1.heap.objs.size + 2, s1.heap.objs.size + 3, s1.heap.objs.size, s1.heap.objs.size + 1], _, _, H1, rfl, I2, Gi l1 l2 _ _ _ _ _ (show ((s1.heap.objs.size : Nat) + 2 ≠ s1.heap.objs.size + 3) by omega) (show ((s1.heap.objs.size : Nat) ≠ s1.heap.objs.size + 1) by omega), ⟨g1, g2, ⟨_, _, g3⟩, g4, g5⟩, fun c hc => ?_, q⟩
 have hc' : s1.heap.objs.size <= c := by
  simp only [List.mem_cons, List.not_mem_nil, or_false] at hc
  have hc2 : ∃ k : Nat, c = s1.heap.objs.size + k := by
   rcases hc with rfl | rfl | rfl | rfl | rfl
   ·exact ⟨4, rfl⟩
   ·exact ⟨2, rfl⟩
   ·exact ⟨3, rfl⟩
   ·exact ⟨0, rfl⟩
   ·exact ⟨1, rfl⟩
  obtain ⟨k, rfl⟩ := hc2
  exact Nat.le_add_right _ k
 exact I1.fpOk hc' (I1.hok.fresh hc')
theorem IK {a : Expr} {p pos : Pos} (hg : Gl X "enumerate") (hm : X.mg "enumerate" = none) (ha : PA X [a] ta) (hs : starEach [a] X.env = [(false, eval a X.env)] := by rfl) (hK : X.K = K := by rfl) :
  PI X (.Tuple elts x1 tpos) (.Call (.Name "enumerate" p) [a] [] pos) (Lh K ta) := by
 subst hK
 intro pins s σ H R I h
 refine Call_ (pH I hg hm (by decide +kernel) (PyProof.Rows.callWith_type1 (T := "enumerate") (thn (ha pos pins s σ H _ I h) fun us s1 ⟨vs, H1, I1, r1, q1⟩ => ?_) (by rw [hs]; rfl) rfl))
 obtain ⟨l1, e, ⟨xs, hx⟩, q⟩ := q1
 subst e
 obtain ⟨u, rfl, ru⟩ := vals1 r1
 cases ru
 obtain ⟨its1, _, p1, _⟩ := I1.list hx
 refine call_enumerate_list p1.isList fun h' g1 g2 g3 k => ?_
 have I2 : Inv X pins σ H1 { s1 with heap := h' } := I1.kept (t' := s1.toks) k
 refine wpAny_pyIter_enum (s := { s1 with heap := h' }) g1 ⟨_, [s1.heap.objs.size + 1, s1.heap.objs.size], _, _, H1, rfl, I2, Aq l1 _ _ (show ((s1.heap.objs.size : Nat) + 1 ≠ s1.heap.objs.size) by omega), ⟨⟨_, g1⟩, g2⟩, fun c hc => ?_, q⟩
 have hc' : s1.heap.objs.size <= c := by
  simp only [List.mem_cons, List.not_mem_nil, or_false] at hc
  have hc2 : ∃ k : Nat, c = s1.heap.objs.size + k := by
   rcases hc with rfl | rfl
   ·exact ⟨1, rfl⟩
   ·exact ⟨0, rfl⟩
  obtain ⟨k, rfl⟩ := hc2
  exact Nat.le_add_right _ k
 exact I1.fpOk hc' (I1.hok.fresh hc')
variable {σ : St} {H : Hp} {R : It -> Hp -> Prop} {g : TG} {tb : TS} {D : Ends} {a b : Addr} {xs ys : List V}
theorem ap_iZip : Ol K ta σ H R = ta σ H fun vs H1 => ∃ a b, vs = [.ref a, .ref b] /\ (∃ xs, SqL K H1 a xs) /\ (∃ ys, SqL K H1 b ys) /\ R (Itz K a b) H1 := rfl
theorem ap_iEnum : Lh K ta σ H R = ta σ H fun vs H1 => ∃ a, vs = [.ref a] /\ (∃ xs, SqL K H1 a xs) /\ R (Ite K a) H1 := rfl
theorem ForP.zip (Pv : Nat -> St -> Hp -> Prop) (hlen : xs.length = ys.length) (h0 : Pv 0 σ H) (hl : ∀ i σ H, i <= xs.length -> Pv i σ H -> SqL K H a xs /\ SqL K H b ys)
  (hs : ∀ i x y σ H p, xs[i]? = some x -> ys[i]? = some y -> Pv i σ H -> H p = none -> g (.ref p) σ (upd H p (.tup [x, y])) fun σ2 H2 => tb { D with nx := Pv (i + 1), ct := Pv (i + 1), bk := D.nx } σ2 H2) (hd : ∀ σ H, Pv xs.length σ H -> D.nx σ H) : ForP (Itz K a b) g tb D σ H := by
 refine ⟨fun i m σ H => m = xs.length - i /\ i <= xs.length /\ Pv i σ H, ⟨xs.length, by simp, Nat.zero_le _, h0⟩, ?_⟩
 rintro i m σ H ⟨rfl, hi, p⟩
 obtain ⟨q1, q2⟩ := hl i σ H hi p
 by_cases hlt : i < xs.length
 ·refine .inr ⟨⟨xs, ys, xs[i], ys[i], q1, q2, by simp [hlt], by simp [hlen ▸ hlt]⟩, Pv (i + 1), fun σ' H' p' => ⟨xs.length - (i + 1), by omega, rfl, hlt, p'⟩, fun v H' y => ?_⟩
  obtain ⟨pp, x, y, hp, rfl, rfl, e1, e2⟩ := y
  exact hs i x y σ _ pp (e1 xs q1) (e2 ys q2) p hp
 ·have e : i = xs.length := by omega
  subst e
  exact .inl ⟨⟨xs, ys, q1, q2, .inl (Nat.le_refl _)⟩, hd σ H p⟩
theorem ForP.enum (Pv : Nat -> St -> Hp -> Prop) (h0 : Pv 0 σ H) (hl : ∀ i σ H, i <= xs.length -> Pv i σ H -> SqL K H a xs)
  (hs : ∀ i x σ H p, xs[i]? = some x -> Pv i σ H -> H p = none -> g (.ref p) σ (upd H p (.tup [.int i, x])) fun σ2 H2 => tb { D with nx := Pv (i + 1), ct := Pv (i + 1), bk := D.nx } σ2 H2) (hd : ∀ σ H, Pv xs.length σ H -> D.nx σ H) : ForP (Ite K a) g tb D σ H := by
 refine ⟨fun i m σ H => m = xs.length - i /\ i <= xs.length /\ Pv i σ H, ⟨xs.length, by simp, Nat.zero_le _, h0⟩, ?_⟩
 rintro i m σ H ⟨rfl, hi, p⟩
 have q1 := hl i σ H hi p
 by_cases hlt : i < xs.length
 ·refine .inr ⟨⟨xs, xs[i], q1, by simp [hlt]⟩, Pv (i + 1), fun σ' H' p' => ⟨xs.length - (i + 1), by omega, rfl, hlt, p'⟩, fun v H' y => ?_⟩
  obtain ⟨pp, x, hp, rfl, rfl, e1⟩ := y
  exact hs i x σ _ pp (e1 xs q1) p hp
 ·have e : i = xs.length := by omega
  subst e
  exact .inl ⟨⟨xs, q1, Nat.le_refl _⟩, hd σ H p⟩
end
end L2
namespace L2
open PySem PySem.Spec PyProof.Rows
def DK (h h' : Heap) : Prop := ∀ b o, h.get? b = some o -> ∃ o', h'.get? b = some o' /\ o'.dict = o.dict
theorem DK.trans {h h1 h2 : Heap} (a : DK h h1) (b : DK h1 h2) : DK h h2 := fun c o e => by
 obtain ⟨o1, e1, d1⟩ := a c o e
 obtain ⟨o2, e2, d2⟩ := b c o1 e1
 exact ⟨o2, e2, d2.trans d1⟩
structure KD {α : Type} (t : Sem α) : Prop where
 out : ∀ (M : Model) (Γ : PySem.Ctx) (P : α -> Pos -> Shared -> Prop) (E : Value -> Pos -> Shared -> Prop) (p : Pos) (s : Shared), Sem.wp M Γ t P E p s -> Sem.wp M Γ t (fun a p' s' => P a p' s' /\ DK s.heap s'.heap) E p s
end L2
namespace L2
open PySem PySem.Spec PyProof.Rows
structure XCls (K : Fg_) (C : Addr) : Prop where
 ex : PySem.W.excIn K C [.type "ValueError", .type "Exception", .type "BaseException", .type "object"] "ValueError.__new__" = true
end L2
namespace L2
open PySem PySem.Spec PyProof.Rows
section
variable {prog : Program} {w : World} {A : Around} {E : Value -> Shared -> Prop} {h : Heap} {g : Array GenState} {d : Drawn} {t : Nat} {os : OsState} {a : Addr} {o : Obj}
 {nm q : Str} {C N : Addr} {bs bm : List Value} {hdct : Bool} {sn : List Str} {sub : List Value} {ab : Bool} {col : Option Bool} {dd : Option Addr} {k0 k1 k2 k3 k5 : Option Value} {newId : String} {K : Fg_}
structure XAsk (K : Fg_) (C : Addr) : Prop where
 cl : PySem.W.findIn K (.ref C) "__class__" = some (some (.builtin "object.__class__"))
 ga : PySem.W.findIn K (.ref C) "__getattribute__" = some (some (.builtin "BaseException.__getattribute__"))
 gh : PySem.W.findIn K (.ref C) "__getattr__" = some none
end
end L2
namespace L2
open PySem PySem.Spec PyProof.Rows
abbrev TX := St -> Hp -> VK -> XK -> Prop
end L2
namespace L2
open PySem PySem.Spec PyProof.Rows
section
variable {κ : Type} [DecidableEq κ]
def iW (kvs : List (κ × V)) (k : κ) : Option V := (kvs.find? fun kv => decide (kv.1 = k)).map (·.2)
def putK (kvs : List (κ × V)) (k : κ) (v : V) : List (κ × V) :=
 if (kvs.any fun kv => decide (kv.1 = k)) = true then kvs.map (fun kv => if kv.1 = k then (kv.1, v) else kv) else kvs ++ [(k, v)]
def vW (kvs : List (κ × V)) (k : κ) : List (κ × V) := kvs.filter fun kv => decide (kv.1 ≠ k)
theorem gM {p : κ × V} {r : List (κ × V)} {k : κ} (e : p.1 = k) : iW (p :: r) k = some p.2 := by simp [iW, List.find?_cons, e]
theorem iI {p : κ × V} {r : List (κ × V)} {k : κ} (e : ¬ p.1 = k) : iW (p :: r) k = iW r k := by simp [iW, List.find?_cons, e]
theorem fV (k : κ) : ∀ kvs : List (κ × V), (kvs.any fun kv => decide (kv.1 = k)) = (iW kvs k).isSome
 | [] => rfl
 | p :: r => by
  rw [List.any_cons]
  by_cases e : p.1 = k
  ·simp only [gM e, decide_eq_true e, Bool.true_or, Option.isSome_some]
  ·rw [iI e, decide_eq_false e, Bool.false_or]; exact fV k r
theorem nC (kvs : List (κ × V)) (k : κ) (v : V) : (putK kvs k v).length <= kvs.length + 1 := by
 unfold putK
 split
 ·rw [List.length_map]; omega
 ·rw [List.length_append, List.length_cons, List.length_nil]; omega
theorem Er {kvs : List (κ × V)} {k : κ} (v : V) (h : iW kvs k = none) : putK kvs k v = kvs ++ [(k, v)] := by
 unfold putK
 rw [fV, h]
 exact if_neg (by decide)
theorem RelO.isSome_eq {o : Option V} {u : Option Value} (r : RelO o u) : o.isSome = u.isSome := by
 cases o with
 | none => cases u with
  | none => rfl
  | some _ => exact (show False from r).elim
 | some _ => cases u with
  | none => exact (show False from r).elim
  | some _ => rfl
theorem RelO.getD {o : Option V} {u : Option Value} {d : V} {d' : Value} (r : RelO o u) (rd : RelV d d') : RelV (o.getD d) (u.getD d') := by
 cases o with
 | none => cases u with
  | none => exact rd
  | some _ => exact (show False from r).elim
 | some _ => cases u with
  | none => exact (show False from r).elim
  | some _ => exact r
theorem KV.val {kvs : List (κ × V)} {vs : List (κ × Value)} (r : KV kvs vs) (k : κ) : RelO (iW kvs k) (valueAt vs k) := by
 unfold KV at r
 induction r with
 | nil => exact True.intro
 | @cons p q ps qs h t ih =>
  obtain ⟨h1, h2⟩ := h
  by_cases e : p.1 = k
  ·have e' : q.1 = k := h1.symm.trans e
   have b : valueAt (q :: qs) k = some q.2 := by simp [valueAt, List.find?_cons, e']
   rw [gM e, b]; exact h2
  ·have e' : ¬ q.1 = k := fun z => e (h1.trans z)
   have b : valueAt (q :: qs) k = valueAt qs k := by simp [valueAt, List.find?_cons, e']
   rw [iI e, b]; exact ih
theorem KV.any {kvs : List (κ × V)} {vs : List (κ × Value)} (r : KV kvs vs) (k : κ) : (kvs.any fun kv => decide (kv.1 = k)) = vs.any fun kv => decide (kv.1 = k) := by
 unfold KV at r
 induction r with
 | nil => rfl
 | cons h t ih => rw [List.any_cons, List.any_cons, ih, h.1]
theorem KV.repl {kvs : List (κ × V)} {vs : List (κ × Value)} (r : KV kvs vs) (k : κ) {y : V} {u : Value} (ry : RelV y u) :
  KV (kvs.map fun kv => if kv.1 = k then (kv.1, y) else kv) (vs.map fun kv => if kv.1 = k then (kv.1, u) else kv) := by
 unfold KV at r ⊢
 induction r with
 | nil => exact .nil
 | @cons p q ps qs h t ih =>
  rw [List.map_cons, List.map_cons]
  refine .cons ?_ ih
  obtain ⟨h1, h2⟩ := h
  by_cases e : p.1 = k
  ·rw [if_pos e, if_pos (h1.symm.trans e)]; exact ⟨h1, ry⟩
  ·rw [if_neg e, if_neg (fun z => e (h1.trans z))]; exact ⟨h1, h2⟩
theorem KV.put {kvs : List (κ × V)} {vs : List (κ × Value)} (r : KV kvs vs) (k : κ) {y : V} {u : Value} (ry : RelV y u) : KV (putK kvs k y) (stored vs k u) := by
 unfold putK stored
 rw [r.any k]
 by_cases e : (vs.any fun kv => decide (kv.1 = k)) = true
 ·rw [if_pos e, if_pos e]; exact r.repl k ry
 ·rw [if_neg e, if_neg e]; exact Paired.snoc r ⟨rfl, ry⟩
theorem KV.drop {kvs : List (κ × V)} {vs : List (κ × Value)} (r : KV kvs vs) (k : κ) : KV (vW kvs k) (without vs k) := by
 unfold KV at r ⊢
 unfold vW without
 induction r with
 | nil => exact .nil
 | @cons p q ps qs h t ih =>
  obtain ⟨h1, h2⟩ := h
  rw [List.filter_cons, List.filter_cons]
  by_cases e : p.1 = k
  ·have a : ¬ decide (p.1 ≠ k) = true := by simp [e]
   have b : ¬ decide (q.1 ≠ k) = true := by simp [h1.symm.trans e]
   rw [if_neg a, if_neg b]; exact ih
  ·have e' : ¬ q.1 = k := fun z => e (h1.trans z)
   have a : decide (p.1 ≠ k) = true := by simp [e]
   have b : decide (q.1 ≠ k) = true := by simp [e']
   rw [if_pos a, if_pos b]; exact .cons ⟨h1, h2⟩ ih
theorem KV.keys {kvs : List (κ × V)} {vs : List (κ × Value)} (r : KV kvs vs) : kvs.map (·.1) = vs.map (·.1) := by
 unfold KV at r
 induction r with
 | nil => rfl
 | cons h t ih => rw [List.map_cons, List.map_cons, ih, h.1]
theorem KV.length {kvs : List (κ × V)} {vs : List (κ × Value)} (r : KV kvs vs) : kvs.length = vs.length := Paired.length r
theorem Gd (kvs : List (κ × V)) (k : κ) : (vW kvs k).length <= kvs.length := List.length_filter_le _ _
end
theorem xr {P : Program} {w : World} {k : Key} {u : Value} (r : RelV (kV k) u) : (bh P w).is k u = true := by
 cases k with
 | inl i => obtain ⟨t, e⟩ := (show ∃ t, u = Value.int i t from r); subst e; exact xx P w i t
 | inr x => obtain ⟨t, e⟩ := (show ∃ t, u = Value.str x t from r); subst e; exact vU P w x t
theorem ux {P : Program} {w : World} : ∀ {ks : List Key} {us : List Value}, Vals (ks.map kV) us -> ItemsAre (bh P w) ks us
 | [], _, r => by rw [List.map_nil] at r; cases r; exact .nil
 | k :: ks, _, r => by
  rw [List.map_cons] at r
  cases r with
  | cons h t => exact .cons (xr h) (ux t)
abbrev KT (H : Hp) : List (List Key × V) -> List (List Key × Addr × Value) -> Prop := Paired fun p q => p.1 = q.1 /\ H q.2.1 = some (.tup (p.1.map kV)) /\ RelV p.2 q.2.2
theorem KT.val {H : Hp} {kvs : List (List Key × V)} {xs : List (List Key × Addr × Value)} (r : KT H kvs xs) (k : List Key) : RelO (iW kvs k) ((atKey xs k).map (·.2)) := by
 induction r with
 | nil => exact True.intro
 | @cons p q ps qs h t ih =>
  obtain ⟨h1, _, h2⟩ := h
  by_cases e : p.1 = k
  ·have e' : q.1 = k := h1.symm.trans e
   have b : atKey (q :: qs) k = some q.2 := by simp [atKey, List.find?_cons, e']
   rw [gM e, b]; exact h2
  ·have e' : ¬ q.1 = k := fun z => e (h1.trans z)
   have b : atKey (q :: qs) k = atKey qs k := by simp [atKey, List.find?_cons, e']
   rw [iI e, b]; exact ih
theorem KT.repl {H : Hp} {kvs : List (List Key × V)} {xs : List (List Key × Addr × Value)} (r : KT H kvs xs) (k : List Key) {y : V} {u : Value} (ry : RelV y u) :
  KT H (kvs.map fun kv => if kv.1 = k then (kv.1, y) else kv) (xs.map (putAt k u)) := by
 induction r with
 | nil => exact .nil
 | @cons p q ps qs h t ih =>
  rw [List.map_cons, List.map_cons]
  refine .cons ?_ ih
  obtain ⟨h1, h2, h3⟩ := h
  unfold putAt
  by_cases e : p.1 = k
  ·rw [if_pos e, if_pos (h1.symm.trans e)]; exact ⟨h1, h2, ry⟩
  ·rw [if_neg e, if_neg (fun z => e (h1.trans z))]; exact ⟨h1, h2, h3⟩
theorem KT.put {H : Hp} {kvs : List (List Key × V)} {xs : List (List Key × Addr × Value)} (r : KT H kvs xs) (k : List Key) {b : Addr} {y : V} {u : Value} (hb : H b = some (.tup (k.map kV))) (ry : RelV y u) :
  KT H (putK kvs k y) (storedH xs k b u) := by
 have e : (kvs.any fun kv => decide (kv.1 = k)) = (atKey xs k).isSome := by
  rw [fV, (r.val k).isSome_eq, Option.isSome_map]
 unfold putK storedH
 rw [e]
 by_cases q : (atKey xs k).isSome = true
 ·rw [if_pos q, if_pos q]; exact r.repl k ry
 ·rw [if_neg q, if_neg q]; exact Paired.snoc r ⟨rfl, hb, ry⟩
theorem KT.keeps {H H' : Hp} {kvs : List (List Key × V)} {xs : List (List Key × Addr × Value)} (r : KT H kvs xs) (ht : ∀ b ys, H b = some (.tup ys) -> H' b = some (.tup ys)) : KT H' kvs xs :=
 Paired.mapP r fun _ _ z => ⟨z.1, ht _ _ z.2.1, z.2.2⟩
section
variable {P : Program} {w : World} {H : Hp} {h : Heap} {a : Addr}
theorem Jv {u : HO} (ok : HOk P w H h) (e : Rd H a u) : ObjOk P w H h a u := e.ok ok
theorem Ar {kvs : List (Key × V)} (ok : HOk P w H h) (e : Rd H a (.dK kvs)) : kvs.length <= sizeLine /\ (a == sysModules) = false /\ ∃ vs, KV kvs vs /\ h.DictOf (bh P w) a vs :=
 show ObjOk P w H h a (.dK kvs) from Jv ok e
theorem DQ {kvs : List (Key × V)} (ok : HOk P w H h) (e : H a = some (.dK kvs)) : kvs.length <= sizeLine /\ (a == sysModules) = false /\ ∃ vs, KV kvs vs /\ h.DictOf (bh P w) a vs := Ar ok (.inl e)
theorem yu {ks : List Key} (ok : HOk P w H h) (e : H a = some (.tup (ks.map kV))) : (tupleKind (bh P w)).is h ks a := by
 obtain ⟨_, its, r, o, h1, h2, n, h3⟩ := (show ObjOk P w H h a (.tup (ks.map kV)) from ok a _ e)
 exact ⟨o, its.toArray, n, h1, h2, h3, by simpa using ux r⟩
theorem Gk {kvs : List (List Key × V)} (ok : HOk P w H h) (e : Rd H a (.dT kvs)) : kvs.length <= sizeLine /\ (a == sysModules) = false /\
  ∃ xs, KT H kvs xs /\ h.DictOfH (tupleKind (bh P w)) a xs := by
 obtain ⟨z, y, xs, r, o, es, ep, h1, h2, h3, h4, h5⟩ := (show ObjOk P w H h a (.dT kvs) from Jv ok e)
 refine ⟨z, y, xs, r, o, es, ep, h1, h2, h3, h4, fun x hx => ?_, h5⟩
 have all : ∀ {l : List (List Key × V)} {m : List (List Key × Addr × Value)}, KT H l m -> ∀ x ∈ m, (tupleKind (bh P w)).is h x.1 x.2.1 := by
  intro l m q
  induction q with
  | nil => intro x hx; exact nomatch hx
  | @cons p q ps qs hq t ih =>
   intro x hx
   rcases List.mem_cons.mp hx with e | hx
   ·subst e
    exact yu ok (by rw [<- hq.1]; exact hq.2.1)
   ·exact ih x hx
 exact all r x hx
theorem Nf {kvs : List (List Key × V)} (ok : HOk P w H h) (e : H a = some (.dT kvs)) : kvs.length <= sizeLine /\ (a == sysModules) = false /\
  ∃ xs, KT H kvs xs /\ h.DictOfH (tupleKind (bh P w)) a xs := Gk ok (.inl e)
end
def DGet (H : Hp) (a : Addr) (y : V) (r : Option V) : Prop :=
 (∃ kvs k, Rd H a (.dK kvs) /\ y = kV k /\ r = iW kvs k) \/ ∃ kvs k b, Rd H a (.dT kvs) /\ y = .ref b /\ H b = some (.tup (k.map kV)) /\ r = iW kvs k
def DPut (H : Hp) (a : Addr) (y v : V) (H' : Hp) : Prop :=
 (∃ kvs k, H a = some (.dK kvs) /\ y = kV k /\ kvs.length < sizeLine /\ H' = upd H a (.dK (putK kvs k v))) \/
 ∃ kvs k b, H a = some (.dT kvs) /\ y = .ref b /\ H b = some (.tup (k.map kV)) /\ kvs.length < sizeLine /\ H' = upd H a (.dT (putK kvs k v))
theorem DGet.k {H : Hp} {a : Addr} {kvs : List (Key × V)} {k : Key} (e : H a = some (.dK kvs)) : DGet H a (kV k) (iW kvs k) := .inl ⟨kvs, k, .inl e, rfl, rfl⟩
theorem DPut.k {H : Hp} {a : Addr} {kvs : List (Key × V)} {k : Key} {v : V} (e : H a = some (.dK kvs)) (hl : kvs.length < sizeLine) : DPut H a (kV k) v (upd H a (.dK (putK kvs k v))) := .inl ⟨kvs, k, e, rfl, hl, rfl⟩
section
variable {X : Cx} {pins : List (Addr × Obj)} {σ : St} {H : Hp} {s : Shared} {a : Addr} {y v : V} {u r : Value} {o : Option V} {A : Around} {E : Value -> Shared -> Prop}
theorem Inv.big (I : Inv X pins σ H s) : sysModules < s.heap.objs.size := by
 have h : mainGlobals < s.heap.objs.size := (I.mod.glob.keeps I.bk).lt
 exact Nat.lt_trans (by decide) h
theorem wL {h' : Heap} {t' : Nat} {ob : HO} (I : Inv X pins σ H s) (mu : Mut (H a)) (hs : Heap.SameBut a s.heap h') (he : ∃ q, h'.get? a = some q) (new : ObjOk X.prog X.w (upd H a ob) h' a ob) :
  Inv X pins σ (upd H a ob) { s with heap := h', toks := t' } :=
 I.write (x := a) (e := a) mu (.inl rfl) (fun b q hb z => (hs.2 b hb).trans z) he new
theorem yE {P : Program} {w : World} {H' : Hp} {h' : Heap} {kvs : List (Key × V)} {vs : List (Key × Value)} (z : kvs.length <= sizeLine) (hd : (a == sysModules) = false) (rel : KV kvs vs) (dd : h'.DictOf (bh P w) a vs) :
  ObjOk P w H' h' a (.dK kvs) := ⟨z, hd, vs, rel, dd⟩
theorem Bc {H' : Hp} {Q : Unit -> Shared -> Prop} (hu : A.units + 1 < cLine) (I : Inv X pins σ H s) (g : DPut H a y v H') (ry : RelV y u) (rv : RelV v r) (h : ∀ s', Inv X pins σ H' s' -> Q () s') :
  wpAny (model X.prog X.w) A (setItem (.ref a) u r) Q E s := by
 rcases g with ⟨kvs, k, e, ey, l, eH⟩ | ⟨kvs, k, b, e, ey, eb, l, eH⟩
 ·subst ey eH
  obtain ⟨z, hd, vs, rel, dd⟩ := DQ I.hok e
  have hz : vs.length <= sizeLine := by rw [<- rel.length]; exact z
  have hl : (putK kvs k v).length <= sizeLine := by have := nC kvs k v; omega
  refine wpAny_setItem_pairs (hsz := hz) (xr ry) dd fun h' dd' hs => h _ ?_
  have he : ∃ q, h'.get? a = some q := let ⟨q, _, _, hq, _⟩ := dd'; ⟨q, hq⟩
  exact wL I (by rw [e]; exact True.intro) hs he (yE hl hd (rel.put k rv) dd')
 ·subst ey eH
  cases (show u = Value.ref b from ry)
  obtain ⟨z, hd, xs, rel, dd⟩ := Nf I.hok e
  have hz : xs.length <= sizeLine := by rw [<- Paired.length rel]; exact z
  have hl : (putK kvs k v).length <= sizeLine := by have := nC kvs k v; omega
  refine wpAny_setItem_heap (hsz := hz) (tupleKind_room_in1 hu) (yu I.hok eb) dd fun h' dd' hs => h _ ?_
  obtain ⟨q, es, ep, hq, h2, h3, h4, _, h5⟩ := dd'
  refine wL I (by rw [e]; exact True.intro) hs ⟨q, hq⟩ ⟨hl, hd, _, (rel.put k eb rv).keeps fun c ys ec => ?_, q, es, ep, hq, h2, h3, h4, h5⟩
  rw [aF (MT ec e (fun z => nomatch z))]
  exact ec
end
section
variable {X : Cx} {pins : List (Addr × Obj)} {σ : St} {H : Hp} {s : Shared} {a : Addr} {kvs : List (Key × V)} {k : Key} {u : Value} {A : Around} {E : Value -> Shared -> Prop}
theorem Mv {v : V} {more : List Value} {Q : Value -> Shared -> Prop} (I : Inv X pins σ H s) (e : H a = some (.dK kvs)) (ry : RelV (kV k) u) (l : iW kvs k = some v) (hm : more = [] \/ ∃ x, more = [x])
  (h : ∀ w' s', Inv X pins σ (upd H a (.dK (vW kvs k))) s' -> RelV v w' -> Q w' s') : wpAny (model X.prog X.w) A (call (.builtin "dict.pop") (.ref a :: u :: more)) Q E s := by
 obtain ⟨z, hd, vs, rel, dd⟩ := DQ I.hok e
 obtain ⟨w', hw, rw'⟩ := RelO.some_of (v := v) (o := valueAt vs k) (by rw [<- l]; exact rel.val k)
 have hp : (keyPart u).isSome = true := by
  cases k with
  | inl i => obtain ⟨t, q⟩ := (show ∃ t, u = Value.int i t from ry); subst q; rfl
  | inr x => obtain ⟨t, q⟩ := (show ∃ t, u = Value.str x t from ry); subst q; rfl
 have ha : argsOk "dict.pop" ⟨.ref a :: u :: more, []⟩ := by
  rcases hm with q | ⟨x, q⟩
  ·subst q; exact PySem.F.args_dict_pop_2 _ _
  ·subst q; exact PySem.F.args_dict_pop_3 _ _ _
 refine call_meetsIn PySem.F.slot_dict_pop dd.typeIs PySem.F.entry_dict_pop ha (meets_dict_pop_there (bh X.prog X.w) a (xr ry) more hm hp)
  ⟨vs, w', dd, by rw [<- rel.length]; exact z, hw, fun h' dd' hs => h w' _ ?_ rw'⟩
 have he : ∃ q, h'.get? a = some q := let ⟨q, _, _, hq, _⟩ := dd'; ⟨q, hq⟩
 exact wL I (by rw [e]; exact True.intro) hs he (yE (Nat.le_trans (Gd kvs k) z) hd (rel.drop k) dd')
theorem LC {r : Value} {Q : Value -> Shared -> Prop} (I : Inv X pins σ H s) (e : H a = some (.dK kvs)) (ry : RelV (kV k) u) (l : iW kvs k = none) (h : ∀ s', Inv X pins σ H s' -> Q r s') :
  wpAny (model X.prog X.w) A (call (.builtin "dict.pop") [.ref a, u, r]) Q E s := by
 obtain ⟨z, hd, vs, rel, dd⟩ := DQ I.hok e
 have hn : valueAt vs k = none := RelO.none_of (by rw [<- l]; exact rel.val k)
 have hp : (keyPart u).isSome = true := by
  cases k with
  | inl i => obtain ⟨t, q⟩ := (show ∃ t, u = Value.int i t from ry); subst q; rfl
  | inr x => obtain ⟨t, q⟩ := (show ∃ t, u = Value.str x t from ry); subst q; rfl
 exact call_meetsIn PySem.F.slot_dict_pop dd.typeIs PySem.F.entry_dict_pop (PySem.F.args_dict_pop_3 _ _ _) (meets_dict_pop_default (bh X.prog X.w) a (xr ry) hd hp r) ⟨vs, dd, hn, h _ (I.tok _)⟩
end
def Mh (td ty tv : TE) : TS := fun D σ H => tv σ H fun v H1 => td σ H1 fun x H2 => ty σ H2 fun y H3 => ∃ a H4, x = .ref a /\ DPut H3 a y v H4 /\ D.nx σ H4
section
variable {X : Cx} {o i e value : Expr} {pos pos' tpos : Pos} {td ty tv : TE}
theorem wA (hu : X.A.units + 1 < cLine) (ho : PE X o td) (hi : PE X i ty) (hv : PE X value tv) (hs : swapsWith value (some (.Subscript o i pos')) pos.line X.env = pure false) :
  PS X (.Assign [.Subscript o i pos'] value pos) (Mh td ty tv) := by
 intro pins s σ H D I h
 refine wpAny_Assign_Subscript (thn (hv pins s σ H _ I h) fun r s1 ⟨v, H1, I1, rv, q1⟩ => thn (ho pins s1 σ H1 _ I1 q1) fun u s2 ⟨x, H2, I2, rx, q2⟩ => thn (hi pins s2 σ H2 _ I2 q2) fun iv s3 ⟨y, H3, I3, ry, a, H4, ex, g, q3⟩ => ?_) hs
 subst ex
 obtain rfl : u = Value.ref a := rx
 exact Bc hu I3 g ry rv fun s4 I4 => ⟨σ, H4, I4, q3⟩
end
theorem Ej {P : Program} {w : World} {H : Hp} (h : Heap) (hb : sysModules < h.objs.size) : ObjOk P w H (h.push { cls := .type "dict", data := .dict #[] }) h.objs.size (.dK []) :=
 ⟨Nat.zero_le _, beq_eq_false_iff_ne.mpr (Ne.symm (Nat.ne_of_lt hb)), [], .nil, Heap.DictOf.new h⟩
def GD : TE := fun _ H Q => ∀ p, H p = none -> Q (.ref p) (upd H p (.dK []))
section
variable {X : Cx} {pos : Pos}
theorem Fp : PE X (.Dict [] [] pos) GD := fun pins s σ H Q I h =>
 wpAny_Dict_empty ⟨.ref s.heap.objs.size, _, I.laid (a := s.heap.objs.size) (o := .dK []) (t' := s.toks) (fun _ _ q => Heap.get?_push_of_some _ q) (Nat.le_refl _) (Ej s.heap I.big), rfl, h _ (I.hok.fresh (Nat.le_refl _))⟩
end
structure M1 (X : Cx) (o : Expr) (m : Str) (apos : Pos) (e : Expr) (cpos : Pos) : Prop where
 base : attributeBase o m X.env (eval o X.env) = eval o X.env
 few : ((backTo cpos (starEach [e] X.env)).all (fun x => !x.1) && (backToKw cpos (keywordEach [] X.env)).all (fun x => x.1.isSome)
  && decide (([e] : List Expr).length + ([] : List Keyword).length + (if ([] : List Keyword).isEmpty then 0 else 1) < 30)) = true
 line : (apos.endLine == cpos.line) = true
 trees : backTo cpos (starEach [e] X.env) = [(false, eval e X.env)]
structure M2 (X : Cx) (o : Expr) (m : Str) (apos : Pos) (e f : Expr) (cpos : Pos) : Prop where
 base : attributeBase o m X.env (eval o X.env) = eval o X.env
 few : ((backTo cpos (starEach [e, f] X.env)).all (fun x => !x.1) && (backToKw cpos (keywordEach [] X.env)).all (fun x => x.1.isSome)
  && decide (([e, f] : List Expr).length + ([] : List Keyword).length + (if ([] : List Keyword).isEmpty then 0 else 1) < 30)) = true
 line : (apos.endLine == cpos.line) = true
 trees : backTo cpos (starEach [e, f] X.env) = [(false, eval e X.env), (false, eval f X.env)]
def IsD (H : Hp) (a : Addr) : Prop := (∃ kvs, Rd H a (.dK kvs)) \/ ∃ kvs, Rd H a (.dT kvs)
theorem Dm {X : Cx} {pins : List (Addr × Obj)} {σ : St} {H : Hp} {s : Shared} {a : Addr} (I : Inv X pins σ H s) (d : IsD H a) :
  s.TypeIs (.ref a) "dict" /\ (∀ b, Value.ref a = .ref b -> ∃ ob, s.heap.get? b = some ob /\ ob.dict = none) /\ (a == sysModules) = false := by
 rcases d with ⟨kvs, e⟩ | ⟨kvs, e⟩
 ·obtain ⟨_, hd, vs, _, dd⟩ := Ar I.hok e
  refine ⟨dd.typeIs, fun b q => ?_, hd⟩
  cases q
  obtain ⟨ob, _, _, h1, h2, _⟩ := dd
  exact ⟨ob, h1, h2.2.1⟩
 ·obtain ⟨_, hd, xs, _, dd⟩ := Gk I.hok e
  refine ⟨dd.typeIs, fun b q => ?_, hd⟩
  cases q
  obtain ⟨ob, _, _, h1, h2, _⟩ := dd
  exact ⟨ob, h1, h2.2.1⟩
section
variable {X : Cx} {pins : List (Addr × Obj)} {σ : St} {H : Hp} {s : Shared} {a : Addr} {y d : V} {u r : Value} {o : Option V} {A : Around} {E : Value -> Shared -> Prop}
theorem JD {Q : Value -> Shared -> Prop} (hu : A.units + 1 < cLine) (I : Inv X pins σ H s) (g : DGet H a y o) (ry : RelV y u) (h : ∀ w' s', Inv X pins σ H s' -> RelV (o.getD .non) w' -> Q w' s') :
  wpAny (model X.prog X.w) A (call (.builtin "dict.get") [.ref a, u]) Q E s := by
 rcases g with ⟨kvs, k, e, ey, l⟩ | ⟨kvs, k, b, e, ey, eb, l⟩
 ·subst ey
  obtain ⟨z, hd, vs, rel, dd⟩ := Ar I.hok e
  refine call_meetsIn PySem.F.slot_dict_get dd.typeIs PySem.F.entry_dict_get (PySem.F.args_dict_get_2 _ _) (meets_dict_get (bh X.prog X.w) a (xr ry) hd) ⟨_, dd.mapOf, h _ _ (I.tok _) ?_⟩
  rw [l]
  exact (rel.val k).getD rfl
 ·subst ey
  cases (show u = Value.ref b from ry)
  obtain ⟨z, hd, xs, rel, dd⟩ := Gk I.hok e
  refine call_meetsIn PySem.F.slot_dict_get dd.typeIs PySem.F.entry_dict_get (PySem.F.args_dict_get_2 _ _) (meetsH_dict_get (tupleKind (bh X.prog X.w)) a b hd) ⟨tupleKind_room_in1 hu, k, xs, yu I.hok eb, dd, h _ _ (I.tok _) ?_⟩
  rw [l]
  exact (rel.val k).getD rfl
theorem Kf {Q : Value -> Shared -> Prop} (hu : A.units + 1 < cLine) (I : Inv X pins σ H s) (g : DGet H a y o) (ry : RelV y u) (rd : RelV d r) (h : ∀ w' s', Inv X pins σ H s' -> RelV (o.getD d) w' -> Q w' s') :
  wpAny (model X.prog X.w) A (call (.builtin "dict.get") [.ref a, u, r]) Q E s := by
 rcases g with ⟨kvs, k, e, ey, l⟩ | ⟨kvs, k, b, e, ey, eb, l⟩
 ·subst ey
  obtain ⟨z, hd, vs, rel, dd⟩ := Ar I.hok e
  refine call_meetsIn PySem.F.slot_dict_get dd.typeIs PySem.F.entry_dict_get (PySem.F.args_dict_get_3 _ _ _) (meets_dict_get_default (bh X.prog X.w) a (xr ry) hd r) ⟨_, dd.mapOf, h _ _ (I.tok _) ?_⟩
  rw [l]
  exact (rel.val k).getD rd
 ·subst ey
  cases (show u = Value.ref b from ry)
  obtain ⟨z, hd, xs, rel, dd⟩ := Gk I.hok e
  refine call_meetsIn PySem.F.slot_dict_get dd.typeIs PySem.F.entry_dict_get (PySem.F.args_dict_get_3 _ _ _) (meetsH_dict_get_default (tupleKind (bh X.prog X.w)) a b hd r) ⟨tupleKind_room_in1 hu, k, xs, yu I.hok eb, dd, h _ _ (I.tok _) ?_⟩
  rw [l]
  exact (rel.val k).getD rd
end
def Gv (td ty : TE) : TE := fun σ H Q => td σ H fun x H1 => ∃ a, x = .ref a /\ IsD H1 a /\ ty σ H1 fun y H2 => ∃ o, DGet H2 a y o /\ Q (o.getD .non) H2
def Gx (td ty tx : TE) : TE := fun σ H Q => td σ H fun x H1 => ∃ a, x = .ref a /\ IsD H1 a /\ ty σ H1 fun y H2 => tx σ H2 fun z H3 => ∃ o, DGet H3 a y o /\ Q (o.getD z) H3
def GC (td ty tx : TE) : TE := fun σ H Q => td σ H fun x H1 => ∃ a, x = .ref a /\ IsD H1 a /\ ty σ H1 fun y H2 => tx σ H2 fun z H3 => ∃ kvs k, H3 a = some (.dK kvs) /\ y = kV k /\
 (∀ v, iW kvs k = some v -> Q v (upd H3 a (.dK (vW kvs k)))) /\ (iW kvs k = none -> Q z H3)
section
variable {X : Cx} {o e f : Expr} {apos cpos : Pos} {td ty tx : TE}
theorem Em (hu : X.A.units + 1 < cLine) (ho : PE X o td) (he : PE X e ty) (m : M1 X o "get" apos e cpos) : PE X (.Call (.Attribute o "get" apos) [e] [] cpos) (Gv td ty) := by
 intro pins s σ H Q I h
 refine wpAny_Call_method m.base m.few m.line PySem.F.plainAttrs_dict PySem.F.slot_dict_get PySem.F.type_dict_get (thn (ho pins s σ H _ I h) fun u s1 ⟨x, H1, I1, rx, a, ex, d, q1⟩ => ?_)
 subst ex
 obtain rfl : u = Value.ref a := rx
 obtain ⟨t1, t2, _⟩ := Dm I1 d
 refine ⟨t1, t2, ?_⟩
 rw [m.trees]
 refine Calls.callWith_builtin rfl (Calls.evalArgs_plain (Calls.spliced_cons (thn (he pins s1 σ H1 _ I1 q1) fun iv s2 ⟨y, H2, I2, ry, ov, g, q2⟩ => Calls.spliced_nil ?_)))
 exact JD hu I2 g ry fun w' s3 I3 rw' => ⟨_, H2, I3, rw', q2⟩
theorem rm (hu : X.A.units + 1 < cLine) (ho : PE X o td) (he : PE X e ty) (hf : PE X f tx) (m : M2 X o "get" apos e f cpos) : PE X (.Call (.Attribute o "get" apos) [e, f] [] cpos) (Gx td ty tx) := by
 intro pins s σ H Q I h
 refine wpAny_Call_method m.base m.few m.line PySem.F.plainAttrs_dict PySem.F.slot_dict_get PySem.F.type_dict_get (thn (ho pins s σ H _ I h) fun u s1 ⟨x, H1, I1, rx, a, ex, d, q1⟩ => ?_)
 subst ex
 obtain rfl : u = Value.ref a := rx
 obtain ⟨t1, t2, _⟩ := Dm I1 d
 refine ⟨t1, t2, ?_⟩
 rw [m.trees]
 refine Calls.callWith_builtin rfl (Calls.evalArgs_plain (Calls.spliced_cons (thn (he pins s1 σ H1 _ I1 q1) fun iv s2 ⟨y, H2, I2, ry, q2⟩ =>
  Calls.spliced_cons (thn (hf pins s2 σ H2 _ I2 q2) fun fv s3 ⟨z, H3, I3, rz, ov, g, q3⟩ => Calls.spliced_nil ?_))))
 exact Kf hu I3 g ry rz fun w' s4 I4 rw' => ⟨_, H3, I4, rw', q3⟩
theorem Eg (ho : PE X o td) (he : PE X e ty) (hf : PE X f tx) (m : M2 X o "pop" apos e f cpos) : PE X (.Call (.Attribute o "pop" apos) [e, f] [] cpos) (GC td ty tx) := by
 intro pins s σ H Q I h
 refine wpAny_Call_method m.base m.few m.line PySem.F.plainAttrs_dict PySem.F.slot_dict_pop PySem.F.type_dict_pop (thn (ho pins s σ H _ I h) fun u s1 ⟨x, H1, I1, rx, a, ex, d, q1⟩ => ?_)
 subst ex
 obtain rfl : u = Value.ref a := rx
 obtain ⟨t1, t2, _⟩ := Dm I1 d
 refine ⟨t1, t2, ?_⟩
 rw [m.trees]
 refine Calls.callWith_builtin rfl (Calls.evalArgs_plain (Calls.spliced_cons (thn (he pins s1 σ H1 _ I1 q1) fun iv s2 ⟨y, H2, I2, ry, q2⟩ =>
  Calls.spliced_cons (thn (hf pins s2 σ H2 _ I2 q2) fun fv s3 ⟨z, H3, I3, rz, kvs, k, ea, ey, q3, q4⟩ => Calls.spliced_nil ?_))))
 subst ey
 cases l : iW kvs k with
 | some v => exact Mv I3 ea ry l (.inr ⟨fv, rfl⟩) fun w' s4 I4 rw' => ⟨v, _, I4, rw', q3 v l⟩
 | none => exact LC I3 ea ry l fun s4 I4 => ⟨z, H3, I4, rz, q4 l⟩
end
section
variable {X : Cx} {pins : List (Addr × Obj)} {σ : St} {H : Hp} {s : Shared} {a : Addr} {kvs : List (Key × V)} {A : Around} {E : Value -> Shared -> Prop}
theorem Fy {Q : Value -> Shared -> Prop} (I : Inv X pins σ H s) (e : Rd H a (.dK kvs)) (h : ∀ p s', H p = none -> Inv X pins σ (upd H p (.dK kvs)) s' -> Q (.ref p) s') : wpAny (model X.prog X.w) A (call (.type "dict") [.ref a]) Q E s := by
 obtain ⟨z, hd, vs, rel, dd⟩ := Ar I.hok e
 refine kt_call_dict hd dd (by rw [<- rel.length]; exact z) fun h' dd' hs => ?_
 refine h _ _ (I.hok.fresh (Nat.le_refl _)) (I.laid (a := s.heap.objs.size) (o := .dK kvs) (t' := s.toks) (fun b q hq => ?_) (Nat.le_refl _) (yE z (beq_eq_false_iff_ne.mpr (Ne.symm (Nat.ne_of_lt I.big))) rel dd'))
 exact (hs.2 b (Nat.ne_of_lt (Heap.lt_size hq))).trans (Heap.get?_push_of_some _ hq)
end
end L2
namespace L2
open PySem PySem.Spec PyProof.Rows
section
variable {κ : Type} [DecidableEq κ]
theorem Ei {kvs : List (κ × V)} {k : κ} (h : iW kvs k = none) : ¬ k ∈ kvs.map (·.1) := by
 intro m
 obtain ⟨p, hp, e⟩ := List.mem_map.mp m
 have q : (kvs.any fun kv => decide (kv.1 = k)) = true := List.any_eq_true.mpr ⟨p, hp, decide_eq_true e⟩
 rw [fV, h] at q
 exact absurd q (by simp)
theorem Ax : ∀ {l : List κ} {k : κ}, l.Nodup -> ¬ k ∈ l -> (l ++ [k]).Nodup
 | [], k, _, _ => by simp
 | a :: r, k, h, hk => by
  obtain ⟨h1, h2⟩ := List.nodup_cons.mp h
  show (a :: (r ++ [k])).Nodup
  refine List.nodup_cons.mpr ⟨fun m => ?_, Ax h2 fun m => hk (List.mem_cons.mpr (Or.inr m))⟩
  rcases List.mem_append.mp m with q | q
  ·exact h1 q
  ·exact hk (List.mem_cons.mpr (Or.inl (List.mem_singleton.mp q).symm))
theorem Ie {kvs : List (κ × V)} {k : κ} (v : V) (hn : (kvs.map (·.1)).Nodup) (h : iW kvs k = none) : ((putK kvs k v).map (·.1)).Nodup := by
 rw [Er v h, List.map_append]
 exact Ax hn (Ei h)
end
end L2
namespace L2
open PySem PySem.Spec PyProof.Rows
structure FunD (K : Fg_) (x qual : Str) (st : Stmt) (f : Addr) (fd : FuncData) (dvs : List V) : Prop where
 ex : ∃ (oc : Value) (od : Option Addr) (Td : Addr) (kV doc pm : Value) (an : Option Addr) (cdv ct : Value) (osl : Array (Option Value)) (ot : Obj) (its : List Value) (nt : Nat),
  fd = PySem.W.fnOf x qual (aD st) (aC st) (ak st) (.ref Td) kV doc pm an cdv ct /\ K.lookup f = some ⟨oc, od, .func fd, osl⟩ /\ PySem.W.codeIn K cdv qual = true /\ K.lookup Td = some ot /\ ot.data = .seq its.toArray nt /\ Vals dvs its
 kp : PySem.W.keepIn K (.ref f) = true
section
variable {P : Program} {w : World} {K : Fg_} {mg : Str -> Option Value} {base : Heap}
theorem FunD.ok {x qual : Str} {st : Stmt} {f : Addr} {fd : FuncData} {N ps : List Str} {k : Nat} {sp : Sp} {dvs : List V} (F : FunD K x qual st f fd dvs) (S : FnScope N ps (ak st)) (len : ∀ vs H Q E, sp vs H Q E -> vs.length = ps.length)
  (hbody : ∀ (cdv : Value) (A : Around) (outer : List Env) (s : Shared) (H : Hp) (vs : List V) (Q : VK) (E : XK), Room k (A.deeper (envOfC qual (ak st) s.heap.objs.size f cdv)) -> sp vs H Q E ->
   ∃ t, PSs (Hf CX0 P w K mg base N qual (ak st) f cdv A outer s H E).nox (aC st) t /\ t { nx := fun _ H' => Q .non H', rt := Q } (start N vs) H) : FnOk P w K mg base CX0 (k + 1) f fd ps sp := by
 obtain ⟨oc, od, Td, kV, doc, pm, an, cdv, ct, osl, ot, its, nt, rfl, lk, hcd, _⟩ := F.ex
 refine Lr lk hcd S len fun A outer s H vs Q E hr hsp => ?_
 obtain ⟨t, h, q⟩ := hbody cdv A outer s H vs Q E hr hsp
 exact ⟨t, h.nox, q⟩
theorem FunD.binds {x qual : Str} {st : Stmt} {f : Addr} {fd : FuncData} {ps : List Str} {dvs : List V} (F : FunD K x qual st f fd dvs) (n : Nat)
  (h : ∀ (Td : Addr) (kV doc pm : Value) (an : Option Addr) (cdv ct : Value) (its us : List Value), its.length = dvs.length -> (us ++ its.drop n).length = ps.length ->
   ∃ k, bindArgs (PySem.W.fnOf x qual (aD st) (aC st) (ak st) (.ref Td) kV doc pm an cdv ct) ⟨us, []⟩ = (seqItems? (.ref Td) >>= k) /\ k (some its.toArray) = pure (ps.zip (us ++ its.drop n))) : ∃ ds, Binds K fd ps ds /\ Vals (dvs.drop n) ds := by
 obtain ⟨oc, od, Td, kV, doc, pm, an, cdv, ct, osl, ot, its, nt, rfl, lk, hcd, lt, hdt, hv⟩ := F.ex
 refine ⟨its.drop n, fun s us X hl => ?_, hv.drop n⟩
 obtain ⟨k, e1, e2⟩ := h Td kV doc pm an cdv ct its us hv.length.symm hl
 exact PySem.W.binds_K X rfl lt hdt e1 e2
theorem Dr {x qual : Str} {st : Stmt} {f Td : Addr} {oc : Value} {od an : Option Addr} {osl : Array (Option Value)} {kV doc pm cdv ct : Value} {dvs : List V} {ot : Obj} {its : List Value} {nt : Nat} (l : K.lookup f = some ⟨oc, od, .func (PySem.W.fnOf x qual (aD st) (aC st) (ak st) (.ref Td) kV doc pm an cdv ct), osl⟩)
  (c : PySem.W.codeIn K cdv qual = true) (k : PySem.W.keepIn K (.ref f) = true) (lt : K.lookup Td = some ot) (hd : ot.data = .seq its.toArray nt) (hv : Vals dvs its) : FunD K x qual st f (PySem.W.fnOf x qual (aD st) (aC st) (ak st) (.ref Td) kV doc pm an cdv ct) dvs :=
 ⟨⟨oc, od, Td, kV, doc, pm, an, cdv, ct, osl, ot, its, nt, rfl, l, c, lt, hd, hv⟩, k⟩
end
structure ClsFn (K : Fg_) (C : Addr) (m : Str) (f : Addr) : Prop where
 ga : PySem.W.specialIn K (.ref C) "__getattribute__" = some (some (.builtin "type.__getattribute__"))
 rd : PySem.W.readsIn K C (.type "type") = true
 fi : PySem.W.findCls K (.ref C) (.type "type") m = some (.val (.ref f))
section
variable {X : Cx} {CX : CXT} {k : Nat} {f C : Addr} {fd : FuncData} {ps ks : List Str} {sp : Sp} {dvs : List V} {ds : List Value} {E : XK} {x m : Str} {p pos apos : Pos} {e o : Expr} {es : List Expr} {ta : TE} {t tk : TA} {kws : List Keyword}
theorem jL {pl : Sem Bool} (Z : ClsFn X.K C m f) (F : FnOk X.prog X.w X.K X.mg X.base CX k f fd ps sp) (hr : Room k X.A) (hg : Gl X x) (hm : X.mg x = some (.ref C)) (hk : PySem.W.keepIn X.K (.ref f) = true) (hb : Binds X.K fd ps ds) (hd : Vals dvs ds) (hx : lg CX X E)
  (ha : PA X (e :: es) t) (hdb : (x == ("__debug__" : Str)) = false := by decide) (he : starEach (e :: es) X.env = (false, eval e X.env) :: starEach es X.env := by rfl) (hpl : (backTo pos (starEach es X.env)).any (·.1) = false := by rfl)
  (ht : eval (.Call (.Attribute (.Name x p) m apos) (e :: es) [] pos) X.env = (do
   let ov <- eval (.Name x p) X.env
   standAt apos.atName
   let (f, first) <- holding [ov] (getMethod ov m pl)
   callWith pos f first (backTo pos (starEach (e :: es) X.env)) (backToKw pos (keywordEach [] X.env))) := by rfl) :
  PE X (.Call (.Attribute (.Name x p) m apos) (e :: es) [] pos) (Ip sp dvs E t) := by
 intro pins s σ H Q I h
 refine PySem.W.methodCall_KW (pl := pl) (qb I hg hm ?_ hdb) ht
 refine PySem.W.method_cls I.kIn Z.ga (PySem.W.cls_value I.kIn Z.rd Z.fi rfl ?_)
 have I' : Inv X pins σ H { s with toks := s.toks + 1 } := I.tok _
 refine PySem.W.callWith_K (first := []) (h₀ := X.base) I.ok.mod.kin hk (thn (ha pos pins _ σ H _ I' h) fun us s1 ⟨vs, H1, I1, r, q⟩ => ⟨I1.kIn, ?_⟩) he hpl
 exact yI F hr hb hd hx I1 r q
inductive MTab (X : Cx) (CX : CXT) (m : Str) : List (Addr × Sp) -> Prop
 | nil : MTab X CX m []
 | cons {C f : Addr} {fd : FuncData} {ps : List Str} {sp : Sp} {k : Nat} {r : List (Addr × Sp)} (c : Cls X.K C) (hm : Meth X.K C m f) (F : FnOk X.prog X.w X.K X.mg X.base CX k f fd ps sp) (hr : Room k X.A) (hb : Binds X.K fd ps []) (t : MTab X CX m r) : MTab X CX m ((C, sp) :: r)
theorem MTab.get {tab : List (Addr × Sp)} (T : MTab X CX m tab) {C : Addr} {sp : Sp} (h : (C, sp) ∈ tab) : ∃ f fd ps k, Cls X.K C /\ Meth X.K C m f /\ FnOk X.prog X.w X.K X.mg X.base CX k f fd ps sp /\ Room k X.A /\ Binds X.K fd ps [] := by
 induction T with
 | nil => cases h
 | cons c hm F hr hb t ih =>
  rcases List.mem_cons.mp h with z | z
  ·cases z
   exact ⟨_, _, _, _, c, hm, F, hr, hb⟩
  ·exact ih z
def CW (tab : List (Addr × Sp)) (m : Str) (E : XK) (ta : TE) (t : TA) : TE := fun σ H Q => ta σ H fun x H1 => ∃ a C dx fs sp, x = .ref a /\ H1 a = some (.ins C dx fs) /\ (C, sp) ∈ tab /\ fs.lookup m = none /\ t σ H1 fun vs H2 => sp (x :: vs) H2 Q E
theorem bJ {pl : Sem Bool} {tab : List (Addr × Sp)} (he : PE X o ta) (T : MTab X CX m tab) (hx : lg CX X E) (ha : PA X (e :: es) t)
  (hst : starEach (e :: es) X.env = (false, eval e X.env) :: starEach es X.env := by rfl) (hpl : (backTo pos (starEach es X.env)).any (·.1) = false := by rfl)
  (ht : eval (.Call (.Attribute o m apos) (e :: es) [] pos) X.env = (do
   let ov <- eval o X.env
   standAt apos.atName
   let (f, first) <- holding [ov] (getMethod ov m pl)
   callWith pos f first (backTo pos (starEach (e :: es) X.env)) (backToKw pos (keywordEach [] X.env))) := by rfl) :
  PE X (.Call (.Attribute o m apos) (e :: es) [] pos) (CW tab m E ta t) := by
 intro pins s σ H Q I h
 refine PySem.W.methodCall_KW (pl := pl) (thn (he pins s σ H _ I h) fun u s1 ⟨y, H1, I1, rx, a, C, dx, fs, sp, ex, ea, hmem, l, q⟩ => ?_) ht
 subst ex
 obtain rfl : u = Value.ref a := rx
 obtain ⟨f, fd, ps, k, c, hm, F, hr, hb⟩ := T.get hmem
 refine qY I1 ea c hm l ?_
 refine PySem.W.callWith_K (first := [.ref a]) (h₀ := X.base) I.ok.mod.kin hm.kp (thn (ha pos pins s1 σ H1 _ I1 q) fun us s2 ⟨vs, H2, I2, r, q2⟩ => ⟨I2.kIn, ?_⟩) hst hpl
 exact yI (us := .ref a :: us) (vs := .ref a :: vs) (dvs := []) (ds := []) F hr hb .nil hx I2 (.cons rfl r) (by rw [List.append_nil]; exact q2)
theorem gb {pl : Sem Bool} {tab : List (Addr × Sp)} (he : PE X o ta) (T : MTab X CX m tab) (hx : lg CX X E)
  (ht : eval (.Call (.Attribute o m apos) [] [] pos) X.env = (do
   let ov <- eval o X.env
   standAt apos.atName
   let (f, first) <- holding [ov] (getMethod ov m pl)
   callWith pos f first (backTo pos (starEach [] X.env)) (backToKw pos (keywordEach [] X.env))) := by rfl) :
  PE X (.Call (.Attribute o m apos) [] [] pos) (CW tab m E ta JN) := by
 intro pins s σ H Q I h
 refine PySem.W.methodCall_KW (pl := pl) (thn (he pins s σ H _ I h) fun u s1 ⟨y, H1, I1, rx, a, C, dx, fs, sp, ex, ea, hmem, l, q⟩ => ?_) ht
 subst ex
 obtain rfl : u = Value.ref a := rx
 obtain ⟨f, fd, ps, k, c, hm, F, hr, hb⟩ := T.get hmem
 refine qY I1 ea c hm l ?_
 exact PySem.W.callWith_K0 (first := [.ref a]) I1.kIn hm.kp (yI (us := [.ref a]) (vs := [.ref a]) (dvs := []) (ds := []) F hr hb .nil hx I1 (.cons rfl .nil) q)
variable {g : List Value -> List Value -> List Value} {gV : List V -> List V -> List V}
end
theorem iJ (f : Str) (v : V) : ∀ {fs : List (Str × V)}, (fs.map (·.1)).contains f = false -> mZ f v fs = fs ++ [(f, v)]
 | [], _ => rfl
 | (g, x) :: r, h => by
  rw [List.map_cons, List.contains_cons] at h
  have h1 : ¬ g = f := fun e => by rw [e] at h; simp at h
  have h2 : (r.map (·.1)).contains f = false := (Bool.or_eq_false_iff.mp h).2
  show (if g = f then (g, v) :: r else (g, x) :: mZ f v r) = _
  rw [if_neg h1, iJ f v h2]
  rfl
structure InsTy (K : Fg_) (C : Addr) : Prop where
 cl : Cls K C
 ha : PySem.W.findIn K (.ref C) "__class__" = some (some (.builtin "object.__class__"))
 hn : PySem.W.specialIn K (.builtin "object.__class__") "__get__" = some (some (.builtin "getset_descriptor.__get__"))
 htk : PySem.W.takesIn K (.builtin "object.__class__") = some true
 hm : PySem.W.mroIn K C (.type "object") = some true
theorem InsTy.of {K : Fg_} {C a dx : Addr} {H : Hp} {fs : List (Str × V)} (z : InsTy K C) (h : H a = some (.ins C dx fs)) : TyOf K H (.ref a) (.ref C) := .ins h z.cl z.ha z.hn z.htk z.hm
end L2
namespace L2
open PySem PySem.Spec PyProof.Rows
def signs (x : Str) : List V := x.cps.toList.map fun c => V.str ⟨#[c]⟩
def Kh (x : Str) : It := ⟨fun i _ => i < x.cps.size, fun i H v H' => H' = H /\ (signs x)[i]? = some v, fun i _ => x.cps.size <= i⟩
theorem Et {P : Program} {w : World} {K : Fg_} {tg : Expr} {ty : String} (hty : ty = "str_ascii_iterator" \/ ty = "str_iterator") (it : Addr) (x : Str) (t : Tok) : Turn P w K tg (Kh x) [it] it (fun i h => h.IsStrIter it ty x t i) where
 mem := by simp
 obj := fun i h st b hb => by
  have e : b = it := by simpa using hb
  subst e
  obtain ⟨o, e, c, d⟩ := st
  exact ⟨o, e, fun v z => by rw [d] at z; cases z⟩
 keep := fun i h h' st k => by
  obtain ⟨o, e, r⟩ := st
  exact ⟨o, k it (by simp) o e, r⟩
 item := by
  intro X hP hw hK hc i pins s σ H E I hf st hg
  subst hP hw hK
  have hi : i < x.cps.size := hg
  have hx : x.cps[i]? = some x.cps[i] := Array.getElem?_eq_getElem hi
  have hs : (signs x)[i]? = some (.str ⟨#[x.cps[i]]⟩) := by
   unfold signs
   rw [List.getElem?_map, Array.getElem?_toList, hx]
   rfl
  rcases hty with rfl | rfl
  ·refine wpAny_pyNext_ascii_item st hx fun h' st' sb => ?_
   obtain ⟨o, e, c, d⟩ := id st'
   exact ⟨_, rfl, BR (s := { s with heap := h', toks := s.toks + 1 }) e c d (by decide) ⟨.str ⟨#[x.cps[i]]⟩, H, I.turnedN hf fun b o hb q => (sb.2 b (by simpa using hb)).trans q, ⟨_, rfl⟩, ⟨rfl, hs⟩, st', fun b hb => (hf b hb).1⟩⟩
  ·refine wpAny_pyNext_wide_item st hx fun h' st' sb => ?_
   obtain ⟨o, e, c, d⟩ := id st'
   exact ⟨_, rfl, BR (s := { s with heap := h', toks := s.toks + 1 }) e c d (by decide) ⟨.str ⟨#[x.cps[i]]⟩, H, I.turnedN hf fun b o hb q => (sb.2 b (by simpa using hb)).trans q, ⟨_, rfl⟩, ⟨rfl, hs⟩, st', fun b hb => (hf b hb).1⟩⟩
 done := by
  intro X hP hw hK hc i pins s σ H E I hf st hg
  subst hP hw hK
  have hx : x.cps[i]? = none := Array.getElem?_eq_none hg
  rcases hty with rfl | rfl
  ·exact wpAny_pyNext_ascii_end (I.ok.hd hc) st hx fun h' eb => ⟨rfl, I.turnedN (t' := s.toks) hf fun b o hb q => eb b o (by simpa using hb) q⟩
  ·exact wpAny_pyNext_wide_end (I.ok.hd hc) st hx fun h' eb => ⟨rfl, I.turnedN (t' := s.toks) hf fun b o hb q => eb b o (by simpa using hb) q⟩
 self := fun _ _ _ _ _ st h => by
  rcases hty with rfl | rfl
  ·exact wpAny_pyIter_striter_ascii st h
  ·exact wpAny_pyIter_striter_wide st h
section
variable {X : Cx} {K : Fg_} {tg : Expr}
def NP (tl : TE) : TI := fun σ H R => tl σ H fun x H1 => ∃ z, x = .str z /\ R (Kh z) H1
theorem Kw {l : Expr} {tl : TE} (hl : PE X l tl) : PI X tg l (NP tl) := by
 intro pins s σ H R I h
 refine thn (hl pins s σ H _ I h) fun v s1 ⟨x, H1, I1, r1, q1⟩ => ?_
 obtain ⟨z, e, q⟩ := q1
 subst e
 obtain ⟨t, rfl⟩ := r1
 have fin : ∀ (ty : String) (hty : ty = "str_ascii_iterator" \/ ty = "str_iterator"), PIE X pins σ tg R (.ref s1.heap.objs.size) { s1 with heap := s1.heap.push { cls := .type ty, data := .fields #[.str z t, .int 0 0] } } := fun ty hty => by
  refine ⟨s1.heap.objs.size, [s1.heap.objs.size], _, _, H1, rfl, I1.kept (t' := s1.toks) fun b o e => Heap.get?_push_of_some _ e, Et hty _ z t, ⟨_, Heap.get?_push_size _ rfl, rfl, rfl⟩, fun b hb => ?_, q⟩
  have e : b = s1.heap.objs.size := by simpa using hb
  subst e
  exact I1.fpOk (Nat.le_refl _) (I1.hok.fresh (Nat.le_refl _))
 cases ha : z.cps.all (· < 128)
 ·exact wpAny_pyIter_wide ha (fin _ (.inr rfl))
 ·exact wpAny_pyIter_ascii ha (fin _ (.inl rfl))
variable {σ : St} {H : Hp} {R : It -> Hp -> Prop} {tl : TE} {cap : List (Option Nat)} {g : TG} {tt : TT} {te : TE} {Q : VK} {x : Str}
theorem ap_iStr : NP tl σ H R = tl σ H fun x H1 => ∃ z, x = .str z /\ R (Kh z) H1 := rfl
theorem CompP.str (Sσ : St -> Prop) (p : V -> Bool) (F : V -> V) (h0 : Sσ (iH σ cap)) (hz : x.cps.size <= sizeLine)
  (hs : ∀ y ∈ signs x, ∀ (σ : St) (H5 : Hp) (R1 : St -> VK) (R2 : St -> Hp -> Prop), Sσ σ -> Same H H5 -> (p y = true -> ∀ σ4 H6, Sσ σ4 -> Same H5 H6 -> R1 σ4 (F y) H6) -> (p y = false -> ∀ σ4 H6, Sσ σ4 -> Same H5 H6 -> R2 σ4 H6) ->
   g y σ H5 fun σ4 H4 => tt σ4 H4 fun b H5 => if b = true then te σ4 H5 (R1 σ4) else R2 σ4 H5)
  (k : ∀ D H', H D = Option.none -> Same H H' -> H' D = some (.lst (((signs x).filter p).map F)) -> Q (.ref D) H') : CompP cap (Kh x) g tt te σ H Q := fun D hD => by
 have hl : (signs x).length = x.cps.size := by simp [signs]
 refine jo (xs := signs x) (Kh x) Sσ p F hD h0 (by omega) (fun i y H' hy sm => ?_) (fun H' sm => ?_) hs fun H' s e => k D H' hD s e
 ·have hi : i < (signs x).length := (List.getElem?_eq_some_iff.mp hy).1
  exact ⟨by show i < x.cps.size; omega, fun z H2 hz => ⟨Option.some.inj (hz.2.symm.trans hy), hz.1⟩⟩
 ·show x.cps.size <= _
  omega
def NK : R2 := fun x y H Q => ∃ i j, x = .str i /\ y = .str j /\ Q (.bl (!decide (j.cps.toList < i.cps.toList))) H
theorem uv : OpR X (compareOp .LtE) NK := by
 intro pins s σ H x y v u Q I rx ry h
 obtain ⟨i, j, rfl, rfl, q⟩ := h
 obtain ⟨t, rfl⟩ := rx
 obtain ⟨t', rfl⟩ := ry
 exact PySem.P.le_str ⟨.bl _, H, I, rfl, q⟩
def wB : List V -> Hp -> VK -> Prop := fun xs H Q => ∃ a kvs, xs = [.ref a] /\ Rd H a (.dK kvs) /\ ∀ p, H p = none -> Q (.ref p) (upd H p (.dK kvs))
theorem vY : dM X (.type "dict") wB := by
 intro pins s σ H xs us Q I r h
 obtain ⟨a, kvs, rfl, e, q⟩ := h
 obtain ⟨u, rfl, ru⟩ := vals1 r
 cases ru
 exact Fy I e fun p s' hp I' => ⟨.ref p, _, I', rfl, q p hp⟩
theorem aY {o value : Expr} {f : Str} {ta tv : TE} {pos pos' : Pos} (ha : PE X o ta) (hv : PE X value tv) (hs : swapsWith value (some (.Attribute o f pos')) pos.line X.env = pure false) (hK : X.K = K := by rfl) : PS X (.Assign [.Attribute o f pos'] value pos) (Nt K ta tv f) := hK ▸ Jx ha hv hs
variable {ta tv ty td tx : TE} {f : Str} {D : Ends} {C : Addr} {tab : List (Addr × Sp)} {m : Str} {E : XK} {t tk : TA} {sp : Sp} {dvs : List V} {gV : List V -> List V -> List V}
theorem ap_fldK : Mt K ta f σ H Q = ta σ H fun x H1 => ∃ a C dx fs v, x = .ref a /\ H1 a = some (.ins C dx fs) /\ Cls K C /\ NoAttr K C f /\ fs.lookup f = some v /\ Q v H1 := rfl
theorem ap_sFld : Nt K ta tv f D σ H = tv σ H fun y H1 => ta σ H1 fun x H2 => ∃ a C dx fs, x = .ref a /\ H2 a = some (.ins C dx fs) /\ Cls K C /\ NoAttr K C f /\ fs.length < 1000 /\ D.nx σ (upd H2 a (.ins C dx (mZ f y fs))) := rfl
theorem ap_methD : CW tab m E ta t σ H Q = ta σ H fun x H1 => ∃ a C dx fs sp, x = .ref a /\ H1 a = some (.ins C dx fs) /\ (C, sp) ∈ tab /\ fs.lookup m = none /\ t σ H1 fun vs H2 => sp (x :: vs) H2 Q E := rfl
theorem ap_make : JQ C sp dvs E t σ H Q = t σ H fun vs H1 => ∀ x dx, H1 x = none -> H1 dx = none -> dx ≠ x -> sp (.ref x :: (vs ++ dvs)) (upd (upd H1 dx (.own x)) x (.ins C dx [])) (fun v H2 => v = .non /\ Q (.ref x) H2) E := rfl
theorem ap_dget2 : Gx td ty tx σ H Q = td σ H fun x H1 => ∃ a, x = .ref a /\ IsD H1 a /\ ty σ H1 fun y H2 => tx σ H2 fun z H3 => ∃ o, DGet H3 a y o /\ Q (o.getD z) H3 := rfl
theorem ap_dput : Mh td ty tv D σ H = tv σ H fun v H1 => td σ H1 fun x H2 => ty σ H2 fun y H3 => ∃ a H4, x = .ref a /\ DPut H3 a y v H4 /\ D.nx σ H4 := rfl
theorem ap_dnewK : GD σ H Q = ∀ p, H p = none -> Q (.ref p) (upd H p (.dK [])) := rfl
theorem ap_dictOf {p : Addr} : wB [.ref p] H Q = ∃ kvs, Rd H p (.dK kvs) /\ ∀ q, H q = none -> Q (.ref q) (upd H q (.dK kvs)) := by simp [wB]
theorem ap_leS {i j : Str} : NK (.str i) (.str j) H Q = Q (.bl (!decide (j.cps.toList < i.cps.toList))) H := propext ⟨fun ⟨i', j', e1, e2, q⟩ => by cases e1; cases e2; exact q, fun q => ⟨i, j, rfl, rfl, q⟩⟩
theorem ap_rIsC {y : V} : NQ K [y, .ref C] H Q = ∃ t k, TyOf K H y t /\ PySem.W.kitOne K t (.ref C) = some k /\ Q (.bl k) H := propext ⟨fun ⟨x', C', t, k, e, r⟩ => by cases e; exact ⟨t, k, r⟩, fun ⟨t, k, r⟩ => ⟨y, C, t, k, rfl, r⟩⟩
theorem ap_ixT {x y : V} : MJ K x y H Q = ∃ p xs i v, x = .ref p /\ y = .int i /\ SqT K H p xs /\ atI xs i = some v /\ Q v H := rfl
theorem ap_lenS {z : Str} : (fun (xs : List V) (H : Hp) (Q : VK) => ∃ z, xs = [V.str z] /\ z.length <= sizeLine /\ Q (.int z.length) H) [.str z] H Q = (z.length <= sizeLine /\ Q (.int z.length) H) := propext ⟨fun ⟨z', e, r⟩ => by cases e; exact r, fun r => ⟨z, rfl, r⟩⟩
end
end L2
namespace L2
open PySem PySem.W PySem.Spec PyProof.Rows
section
variable {α β : Type} {lt : Nat -> Nat -> Bool} {n : Nat}
def Kok (lt : Nat -> Nat -> Bool) (n : Nat) (R : α -> Prop) : KasT α -> Prop
 | .ret a => R a
 | .ask i j k => i < n /\ j < n /\ Kok lt n R (k (lt i j))
theorem Kok.bind {R : α -> Prop} {S : β -> Prop} {f : α -> KasT β} : ∀ {t : KasT α}, Kok lt n R t -> (∀ a, R a -> Kok lt n S (f a)) -> Kok lt n S (t.bind f)
 | .ret a, h, k => k a h
 | .ask i j q, h, k => ⟨h.1, h.2.1, Kok.bind (t := q (lt i j)) h.2.2 k⟩
theorem Kok.wp {R : α -> Prop} {cmp : Nat -> Nat -> (Bool -> Shared -> Prop) -> Shared -> Prop} {s : Shared} {Q : α -> Shared -> Prop} (hc : ∀ i j (C : Bool -> Shared -> Prop), i < n -> j < n -> C (lt i j) s -> cmp i j C s) :
  ∀ {t : KasT α}, Kok lt n R t -> (∀ a, R a -> Q a s) -> t.kasWp cmp Q s
 | .ret a, h, k => k a h
 | .ask i j q, h, k => hc i j _ h.1 h.2.1 (Kok.wp hc (t := q (lt i j)) h.2.2 k)
def Prm (n : Nat) (p : Array Nat) : Prop := p.toList.Perm (List.range n)
theorem Prm.ltn {p : Array Nat} (h : Prm n p) (hn : 0 < n) (i : Nat) : p.getD i 0 < n := by
 by_cases hi : i < p.size
 ·have hm : p.getD i 0 ∈ p.toList := by simp [Array.getD, hi]
  exact List.mem_range.mp (h.mem_iff.mp hm)
 ·simp [Array.getD, hi, hn]
theorem Prm.rev {p : Array Nat} (h : Prm n p) (i j : Nat) : Prm n (kas_rev p i j) := (Array.perm_iff_toList_perm.mp (mirror_perm p i j _)).trans h
theorem Prm.bub {p : Array Nat} (h : Prm n p) (k d : Nat) : Prm n (bubble p k d) := (Array.perm_iff_toList_perm.mp (bubble_perm p k d)).trans h
theorem wH {p : Array Nat} (h : Prm n p) (hn : 0 < n) : ∀ f m, Kok lt n (fun _ => True) (kas_asc p f m)
 | 0, _ => trivial
 | f + 1, m => ⟨Prm.ltn h hn _, Prm.ltn h hn _, by
  dsimp only
  by_cases hc : lt (p.getD m 0) (p.getD (m - 1) 0) = true
  ·rw [if_pos hc]; trivial
  ·rw [if_neg hc]; exact wH h hn f (m + 1)⟩
theorem mQ (hn : 0 < n) : ∀ f {p : Array Nat} m q, Prm n p -> Kok lt n (fun r : Array Nat × Nat × Nat => Prm n r.1) (kas_desc f p m q)
 | 0, _, _, _, h => h
 | f + 1, p, m, q, h => ⟨Prm.ltn h hn _, Prm.ltn h hn _, by
  dsimp only
  by_cases hc : lt (p.getD m 0) (p.getD (m - 1) 0) = true
  ·rw [if_pos hc]
   by_cases hq : q > 0
   ·rw [if_pos hq]; exact mQ hn f _ _ (h.rev _ _)
   ·rw [if_neg hq]; exact mQ hn f _ _ h
  ·rw [if_neg hc]
   refine ⟨Prm.ltn h hn _, Prm.ltn h hn _, ?_⟩
   dsimp only
   by_cases hd : lt (p.getD (m - 1) 0) (p.getD m 0) = true
   ·rw [if_pos hd]; exact h
   ·rw [if_neg hd]; exact mQ hn f _ _ h⟩
theorem yj {p : Array Nat} (h : Prm n p) (hn : 0 < n) (m r : Nat) : Kok lt n (fun r : Nat × Array Nat => Prm n r.2) (kas_tail3 m r p) :=
 Kok.bind (wH (h.rev _ _) hn _ _) fun _ _ => h.rev 0 m
theorem xY {p : Array Nat} (h : Prm n p) (hn : 0 < n) (m r : Nat) : Kok lt n (fun r : Nat × Array Nat => Prm n r.2) (kas_descPart m r p) :=
 Kok.bind (mQ hn _ _ _ h) fun a ha => by
  by_cases hq : a.2.2 > 0
  ·rw [if_pos hq]; exact yj (ha.rev _ _) hn _ _
  ·rw [if_neg hq]; exact yj ha hn _ _
theorem Ag {p : Array Nat} (h : Prm n p) (hn : 0 < n) (r : Nat) : Kok lt n (fun r : Nat × Array Nat => Prm n r.2) (kas_count r p) :=
 Kok.bind (wH h hn _ _) fun m _ => by
  by_cases h1 : (m == r) = true
  ·rw [if_pos h1]; exact h
  ·rw [if_neg h1]
   by_cases h2 : m > 1
   ·rw [if_pos h2]
    refine ⟨Prm.ltn h hn _, Prm.ltn h hn _, ?_⟩
    dsimp only
    by_cases h3 : lt (p.getD 0 0) (p.getD (m - 1) 0) = true
    ·rw [if_pos h3]; exact h
    ·rw [if_neg h3]; exact xY (h.rev _ _) hn _ _
   ·rw [if_neg h2]; exact xY h hn _ _
theorem oW {p : Array Nat} (h : Prm n p) (hn : 0 < n) (k : Nat) : ∀ f l r, Kok lt n (fun _ => True) (kas_place p k f l r)
 | 0, _, _ => trivial
 | f + 1, l, r => by
  show Kok lt n _ (if l >= r then _ else _)
  by_cases h1 : l >= r
  ·rw [if_pos h1]; trivial
  ·rw [if_neg h1]
   refine ⟨Prm.ltn h hn _, Prm.ltn h hn _, ?_⟩
   dsimp only
   by_cases h3 : lt (p.getD k 0) (p.getD ((l + r) / 2) 0) = true
   ·rw [if_pos h3]; exact oW h hn k f _ _
   ·rw [if_neg h3]; exact oW h hn k f _ _
theorem Dt (hn : 0 < n) : ∀ f {p : Array Nat} k, Prm n p -> Kok lt n (Prm n) (kas_bin f p k)
 | 0, _, _, h => h
 | f + 1, p, k, h => Kok.bind (oW h hn k k 0 k) fun l _ => Dt hn f _ (h.bub _ _)
theorem Ga (hn : 0 < n) : Kok lt n (Prm n) (kas_sort n) :=
 Kok.bind (Ag (p := (List.range n).toArray) (by unfold Prm; simp) hn n) fun a ha => by
  by_cases h1 : a.1 < n
  ·rw [if_pos h1]; exact Dt hn _ _ ha
  ·rw [if_neg h1]; exact ha
end
section
variable {key : Nat -> Int} {n : Nat}
def Up (key : Nat -> Int) (p : Array Nat) (m : Nat) : Prop := ∀ a b, a < b -> b < m -> key (p.getD a 0) < key (p.getD b 0)
def Dn (key : Nat -> Int) (p : Array Nat) (m : Nat) : Prop := ∀ a b, a < b -> b < m -> key (p.getD b 0) < key (p.getD a 0)
theorem gO (p : Array Nat) (k : Nat) : p.getD k 0 = (p[k]?).getD 0 := by
 by_cases h : k < p.size
 ·simp [Array.getD, h]
 ·simp [Array.getD, h]
theorem Prm.size {p : Array Nat} (h : Prm n p) : p.size = n := by
 have := h.length_eq
 simpa using this
theorem Prm.unlike {p : Array Nat} (h : Prm n p) (hk : ∀ i j, i < n -> j < n -> key i = key j -> i = j) {a b : Nat} (ha : a < n) (hb : b < n) (hne : a ≠ b) : key (p.getD a 0) ≠ key (p.getD b 0) := fun e => by
 have hs := h.size
 have hn : 0 < n := by omega
 have e1 := hk _ _ (h.ltn hn a) (h.ltn hn b) e
 have hnd : p.toList.Nodup := h.nodup_iff.mpr List.nodup_range
 have e2 : p.toList[a]'(by simpa [hs] using ha) = p.toList[b]'(by simpa [hs] using hb) := by
  have q1 : p.getD a 0 = p[a]'(by omega) := by simp [Array.getD, hs, ha]
  have q2 : p.getD b 0 = p[b]'(by omega) := by simp [Array.getD, hs, hb]
  rw [q1, q2] at e1
  simpa using e1
 exact hne ((List.getElem_inj hnd).mp e2)
theorem Dh {p : Array Nat} {i j : Nat} (hj : j <= p.size) (k : Nat) : (kas_rev p i j).getD k 0 = if i <= k /\ k < j then p.getD (i + j - 1 - k) 0 else p.getD k 0 := by
 unfold kas_rev
 rw [gO, getElem?_mirror_all hj]
 by_cases c : i <= k /\ k < j
 ·rw [if_pos c, if_pos c, gO]
 ·rw [if_neg c, if_neg c, gO]
theorem CZ {p : Array Nat} {k l : Nat} (hk : k < p.size) (hl : l <= k) (a : Nat) : (bubble p k (k - l)).getD a 0 = if a = l then p.getD k 0 else if l < a /\ a <= k then p.getD (a - 1) 0 else p.getD a 0 := by
 rw [gO, getElem?_bubble hk (k - l) (by omega), show k - (k - l) = l by omega]
 by_cases c1 : a = l
 ·rw [if_pos c1, if_pos c1, gO]
 ·rw [if_neg c1, if_neg c1]
  by_cases c2 : l < a /\ a <= k
  ·rw [if_pos c2, if_pos c2, gO]
  ·rw [if_neg c2, if_neg c2, gO]
theorem Kok.mono {α : Type} {lt : Nat -> Nat -> Bool} {R S : α -> Prop} (h : ∀ a, R a -> S a) : ∀ {t : KasT α}, Kok lt n R t -> Kok lt n S t
 | .ret a, q => h a q
 | .ask i j k, q => ⟨q.1, q.2.1, Kok.mono h q.2.2⟩
theorem Up.snoc {p : Array Nat} {m : Nat} (h : Up key p m) (h1 : 1 <= m) (hl : key (p.getD (m - 1) 0) < key (p.getD m 0)) : Up key p (m + 1) := fun a b hab hb => by
 by_cases e : b = m
 ·subst e
  by_cases e2 : a = b - 1
  ·subst e2; exact hl
  ·exact Int.lt_trans (h a (b - 1) (by omega) (by omega)) hl
 ·exact h a b hab (by omega)
theorem Dn.snoc {p : Array Nat} {m : Nat} (h : Dn key p m) (h1 : 1 <= m) (hl : key (p.getD m 0) < key (p.getD (m - 1) 0)) : Dn key p (m + 1) := fun a b hab hb => by
 by_cases e : b = m
 ·subst e
  by_cases e2 : a = b - 1
  ·subst e2; exact hl
  ·exact Int.lt_trans hl (h a (b - 1) (by omega) (by omega))
 ·exact h a b hab (by omega)
theorem Hr (hk : ∀ i j, i < n -> j < n -> key i = key j -> i = j) {p : Array Nat} (h : Prm n p) : ∀ f m, 1 <= m -> m + f <= n -> Up key p m ->
  Kok (fun i j => decide (key i < key j)) n (fun r => m <= r /\ r <= m + f /\ Up key p r /\ (r < m + f -> key (p.getD r 0) < key (p.getD (r - 1) 0))) (kas_asc p f m)
 | 0, m, h1, h2, hu => ⟨Nat.le_refl _, Nat.le_refl _, hu, fun z => absurd z (by omega)⟩
 | f + 1, m, h1, h2, hu => ⟨Prm.ltn h (by omega) _, Prm.ltn h (by omega) _, by
  dsimp only
  by_cases hc : key (p.getD m 0) < key (p.getD (m - 1) 0)
  ·rw [if_pos (by simpa using hc)]
   exact ⟨Nat.le_refl _, by omega, hu, fun _ => hc⟩
  ·rw [if_neg (by simpa using hc)]
   have hne := h.unlike hk (show m - 1 < n by omega) (show m < n by omega) (by omega)
   refine Kok.mono (fun r hr => ?_) (Hr hk h f (m + 1) (by omega) (by omega) (hu.snoc h1 (by omega)))
   exact ⟨by omega, by omega, hr.2.2.1, fun z => hr.2.2.2 (by omega)⟩⟩
theorem GF (hk : ∀ i j, i < n -> j < n -> key i = key j -> i = j) {p : Array Nat} (h : Prm n p) : ∀ f m, 1 <= m -> m + f <= n -> Dn key p m ->
  Kok (fun i j => decide (key i < key j)) n (fun r : Array Nat × Nat × Nat => r.1 = p /\ r.2.2 = 0 /\ m <= r.2.1 /\ r.2.1 <= m + f /\ Dn key p r.2.1) (kas_desc f p m 0)
 | 0, m, h1, h2, hu => ⟨rfl, rfl, Nat.le_refl _, Nat.le_refl _, hu⟩
 | f + 1, m, h1, h2, hu => ⟨Prm.ltn h (by omega) _, Prm.ltn h (by omega) _, by
  dsimp only
  by_cases hc : key (p.getD m 0) < key (p.getD (m - 1) 0)
  ·rw [if_pos (by simpa using hc), if_neg (by omega)]
   refine Kok.mono (fun r hr => ?_) (GF hk h f (m + 1) (by omega) (by omega) (hu.snoc h1 hc))
   exact ⟨hr.1, hr.2.1, by omega, by omega, hr.2.2.2.2⟩
  ·rw [if_neg (by simpa using hc)]
   have hne := h.unlike hk (show m - 1 < n by omega) (show m < n by omega) (by omega)
   refine ⟨Prm.ltn h (by omega) _, Prm.ltn h (by omega) _, ?_⟩
   dsimp only
   rw [if_pos (decide_eq_true (by omega))]
   exact ⟨rfl, rfl, Nat.le_refl _, by show m <= _; omega, hu⟩⟩
theorem KQ (hk : ∀ i j, i < n -> j < n -> key i = key j -> i = j) {p : Array Nat} (h : Prm n p) {m : Nat} (h1 : 1 <= m) (h2 : m <= n) (hd : Dn key p m) :
  Kok (fun i j => decide (key i < key j)) n (fun r : Nat × Array Nat => Prm n r.2 /\ 1 <= r.1 /\ r.1 <= n /\ Up key r.2 r.1) (kas_tail3 m n p) := by
 have hs := h.size
 have hu : Up key (kas_rev p 0 m) m := fun a b hab hb => by
  rw [Dh (by omega), Dh (by omega), if_pos (by omega), if_pos (by omega)]
  exact hd _ _ (by omega) (by omega)
 refine Kok.bind (Hr hk (h.rev 0 m) (n - m) m h1 (by omega) hu) fun r hr => ?_
 exact ⟨h.rev 0 m, by show 1 <= r; omega, by show r <= n; omega, hr.2.2.1⟩
theorem Lz (hk : ∀ i j, i < n -> j < n -> key i = key j -> i = j) {p : Array Nat} (h : Prm n p) {m : Nat} (h2 : m + 1 <= n) (hd : Dn key p (m + 1)) :
  Kok (fun i j => decide (key i < key j)) n (fun r : Nat × Array Nat => Prm n r.2 /\ 1 <= r.1 /\ r.1 <= n /\ Up key r.2 r.1) (kas_descPart m n p) := by
 refine Kok.bind (GF hk h (n - (m + 1)) (m + 1) (by omega) (by omega) hd) fun r hr => ?_
 obtain ⟨r1, r2, r3⟩ := r
 obtain ⟨e1, e2, e3, e4, e5⟩ := hr
 dsimp only at e1 e2 e3 e4 e5 ⊢
 subst e1 e2
 rw [if_neg (by omega)]
 exact KQ hk h (by omega) (by omega) e5
theorem Hu (hk : ∀ i j, i < n -> j < n -> key i = key j -> i = j) {p : Array Nat} (h : Prm n p) (hn : 1 <= n) :
  Kok (fun i j => decide (key i < key j)) n (fun r : Nat × Array Nat => Prm n r.2 /\ 1 <= r.1 /\ r.1 <= n /\ Up key r.2 r.1) (kas_count n p) := by
 refine Kok.bind (Hr hk h (n - 1) 1 (by omega) (by omega) fun a b h1 h2 => absurd h1 (by omega)) fun m hm => ?_
 obtain ⟨m1, m2, m3, m4⟩ := hm
 by_cases h1 : (m == n) = true
 ·rw [if_pos h1]
  exact ⟨h, m1, by show m <= n; omega, m3⟩
 ·rw [if_neg h1]
  have h1 : m ≠ n := by simpa using h1
  by_cases h2 : m > 1
  ·rw [if_pos h2]
   refine ⟨Prm.ltn h (by omega) _, Prm.ltn h (by omega) _, ?_⟩
   dsimp only
   have := m3 0 (m - 1) (by omega) (by omega)
   rw [if_pos (by simpa using this)]
   exact ⟨h, m1, by show m <= n; omega, m3⟩
  ·rw [if_neg h2]
   have e : m = 1 := by omega
   subst e
   exact Lz hk h (by omega) fun a b hab hb => by
    have : a = 0 := by omega
    have : b = 1 := by omega
    subst a b
    exact m4 (by omega)
theorem xg {p : Array Nat} (h : Prm n p) {k : Nat} (hkn : k < n) (hu : Up key p k) : ∀ f l r, l <= r -> r <= k -> r - l <= f -> (∀ a, a < l -> key (p.getD a 0) <= key (p.getD k 0)) -> (∀ a, r <= a -> a < k -> key (p.getD k 0) < key (p.getD a 0)) ->
  Kok (fun i j => decide (key i < key j)) n (fun l' => l' <= k /\ (∀ a, a < l' -> key (p.getD a 0) <= key (p.getD k 0)) /\ (∀ a, l' <= a -> a < k -> key (p.getD k 0) < key (p.getD a 0))) (kas_place p k f l r)
 | 0, l, r, h1, h2, h3, ha, hb => ⟨by omega, ha, fun a q1 q2 => hb a (by omega) q2⟩
 | f + 1, l, r, h1, h2, h3, ha, hb => by
  show Kok _ n _ (if l >= r then _ else _)
  by_cases hc : l >= r
  ·rw [if_pos hc]
   exact ⟨by omega, ha, fun a q1 q2 => hb a (by omega) q2⟩
  ·rw [if_neg hc]
   refine ⟨Prm.ltn h (by omega) _, Prm.ltn h (by omega) _, ?_⟩
   dsimp only
   by_cases hd : key (p.getD k 0) < key (p.getD ((l + r) / 2) 0)
   ·rw [if_pos (by simpa using hd)]
    refine xg h hkn hu f _ _ (by omega) (by omega) (by omega) ha fun a q1 q2 => ?_
    by_cases e : a = (l + r) / 2
    ·rw [e]; exact hd
    ·exact Int.lt_trans hd (hu _ _ (by omega) q2)
   ·rw [if_neg (by simpa using hd)]
    refine xg h hkn hu f _ _ (by omega) (by omega) (by omega) (fun a q1 => ?_) hb
    by_cases e : a = (l + r) / 2
    ·rw [e]; omega
    ·have := hu a ((l + r) / 2) (by omega) (by omega)
     omega
theorem Jw (hk : ∀ i j, i < n -> j < n -> key i = key j -> i = j) : ∀ f {p : Array Nat} k, Prm n p -> k + f = n -> Up key p k -> Kok (fun i j => decide (key i < key j)) n (fun p' => Prm n p' /\ Up key p' n) (kas_bin f p k)
 | 0, p, k, h, e, hu => ⟨h, by rwa [<- e]⟩
 | f + 1, p, k, h, e, hu => by
  refine Kok.bind (xg h (by omega) hu k 0 k (by omega) (by omega) (by omega) (fun a q => absurd q (by omega)) (fun a q1 q2 => absurd q2 (by omega))) fun l hl => ?_
  obtain ⟨l1, l2, l3⟩ := hl
  have hs := h.size
  refine Jw hk f (k + 1) (h.bub _ _) (by omega) fun a b hab hb => ?_
  have hlt : ∀ x, x < l -> key (p.getD x 0) < key (p.getD k 0) := fun x hx => by
   have := l2 x hx
   have := h.unlike hk (show x < n by omega) (show k < n by omega) (by omega)
   omega
  rw [CZ (by omega) l1, CZ (by omega) l1]
  by_cases c1 : a = l
  ·rw [if_pos c1, if_neg (by omega), if_pos (by omega)]
   exact l3 _ (by omega) (by omega)
  ·rw [if_neg c1]
   by_cases c2 : b = l
   ·rw [if_neg (by omega), if_pos c2]
    exact hlt _ (by omega)
   ·rw [if_neg c2]
    by_cases c3 : l < a
    ·rw [if_pos (by omega), if_pos (by omega)]
     exact hu _ _ (by omega) (by omega)
    ·rw [if_neg (by omega)]
     by_cases c4 : l < b
     ·rw [if_pos (by omega)]
      by_cases c5 : b - 1 = a
      ·omega
      ·exact hu _ _ (by omega) (by omega)
     ·rw [if_neg (by omega)]
      exact hu _ _ hab (by omega)
theorem KN (hk : ∀ i j, i < n -> j < n -> key i = key j -> i = j) (hn : 1 <= n) : Kok (fun i j => decide (key i < key j)) n (fun p => Prm n p /\ Up key p n) (kas_sort n) :=
 Kok.bind (Hu hk (p := (List.range n).toArray) (by unfold Prm; simp) hn) fun a ha => by
  obtain ⟨a1, a2, a3, a4⟩ := ha
  by_cases h1 : a.1 < n
  ·rw [if_pos h1, show max a.1 1 = a.1 by omega]
   exact Jw hk _ _ a1 (by omega) a4
  ·rw [if_neg h1]
   have e : a.1 = n := by omega
   exact ⟨a1, by rwa [e] at a4⟩
end
section
variable {n : Nat} {lt : Nat -> Nat -> Bool}
theorem xT {p q : Nat -> Bool} : ∀ {l : List Nat} {i : Nat}, i ∈ l -> (∀ x ∈ l, p x = true -> q x = true) -> p i = false -> q i = true -> l.countP p < l.countP q
 | [], _, h, _, _, _ => by cases h
 | a :: l, i, h, hpq, hp, hq => by
  rw [List.countP_cons, List.countP_cons]
  have hm : l.countP p <= l.countP q := List.countP_mono_left fun x hx => hpq x (List.mem_cons_of_mem _ hx)
  rcases List.mem_cons.mp h with rfl | h
  ·rw [hp, hq]
   simp
   omega
  ·have ih := xT h (fun x hx => hpq x (List.mem_cons_of_mem _ hx)) hp hq
   have := hpq a List.mem_cons_self
   cases hpa : p a with
   | true => rw [this hpa]; simp; exact ih
   | false => simp; split <;> omega
theorem Kok.congr {α : Type} {lt' : Nat -> Nat -> Bool} {R : α -> Prop} (h : ∀ i j, i < n -> j < n -> lt i j = lt' i j) : ∀ {t : KasT α}, Kok lt n R t -> Kok lt' n R t
 | .ret a, q => q
 | .ask i j k, q => ⟨q.1, q.2.1, h i j q.1 q.2.1 ▸ Kok.congr h q.2.2⟩
theorem HY (irr : ∀ i, i < n -> lt i i = false) (tr : ∀ i j k, i < n -> j < n -> k < n -> lt i j = true -> lt j k = true -> lt i k = true) (tot : ∀ i j, i < n -> j < n -> i ≠ j -> lt i j = true \/ lt j i = true) (hn : 1 <= n) :
  Kok lt n (fun p => Prm n p /\ ∀ a b, a < b -> b < n -> lt (p.getD a 0) (p.getD b 0) = true) (kas_sort n) := by
 obtain ⟨key, hkey⟩ : ∃ key : Nat -> Int, ∀ i, key i = (((List.range n).countP fun x => lt x i : Nat) : Int) := ⟨_, fun _ => rfl⟩
 have up : ∀ i j, i < n -> j < n -> lt i j = true -> key i < key j := fun i j hi hj h => by
  rw [hkey, hkey]
  have := xT (p := fun x => lt x i) (q := fun x => lt x j) (l := List.range n) (i := i) (List.mem_range.mpr hi) (fun x hx hxi => tr x i j (List.mem_range.mp hx) hi hj hxi h) (irr i hi) h
  omega
 have eq : ∀ i j, i < n -> j < n -> lt i j = decide (key i < key j) := fun i j hi hj => by
  cases h : lt i j with
  | true => exact (decide_eq_true (up i j hi hj h)).symm
  | false =>
   refine (decide_eq_false fun z => ?_).symm
   by_cases e : i = j
   ·rw [e] at z; omega
   ·rcases tot i j hi hj e with t | t
    ·rw [h] at t; cases t
    ·have := up j i hj hi t
     omega
 have hk : ∀ i j, i < n -> j < n -> key i = key j -> i = j := fun i j hi hj e => by
  by_cases h : i = j
  ·exact h
  ·rcases tot i j hi hj h with t | t
   ·have := up i j hi hj t; omega
   ·have := up j i hj hi t; omega
 refine Kok.congr (lt := fun i j => decide (key i < key j)) (fun i j hi hj => (eq i j hi hj).symm) (Kok.mono (fun p hp => ⟨hp.1, fun a b hab hb => ?_⟩) (KN hk hn))
 rw [eq _ _ (hp.1.ltn (by omega) _) (hp.1.ltn (by omega) _)]
 exact decide_eq_true (hp.2 a b hab hb)
end
def ig : List Int -> List Int -> Bool -> Bool
 | x :: xs, y :: ys, f => if x = y then ig xs ys f else decide (x < y)
 | [], _, f => f
 | _ :: _, [], f => f
theorem zX : ∀ a : List Int, ig a a false = false
 | [] => rfl
 | x :: a => by rw [ig, if_pos rfl, zX a]
theorem Hi : ∀ {a b c : List Int}, a.length = b.length -> b.length = c.length -> ig a b false = true -> ig b c false = true -> ig a c false = true
 | [], _, _, _, _, h, _ => by simp [ig] at h
 | x :: a, [], _, h, _, _, _ => by simp at h
 | x :: a, y :: b, [], _, h, _, _ => by simp at h
 | x :: a, y :: b, z :: c, h1, h2, h, h' => by
  rw [ig] at h h' ⊢
  by_cases e1 : x = y
  ·subst e1
   rw [if_pos rfl] at h
   by_cases e2 : x = z
   ·subst e2
    rw [if_pos rfl] at h' ⊢
    exact Hi (by simpa using h1) (by simpa using h2) h h'
   ·rw [if_neg e2] at h' ⊢
    exact h'
  ·rw [if_neg e1] at h
   have h := of_decide_eq_true h
   by_cases e2 : y = z
   ·subst e2
    rw [if_neg e1]
    exact decide_eq_true h
   ·rw [if_neg e2] at h'
    have h' := of_decide_eq_true h'
    rw [if_neg (by omega)]
    exact decide_eq_true (by omega)
theorem CN : ∀ {a b : List Int}, a.length = b.length -> a ≠ b -> ig a b false = true \/ ig b a false = true
 | [], [], _, h => (h rfl).elim
 | [], y :: b, h, _ => by simp at h
 | x :: a, [], h, _ => by simp at h
 | x :: a, y :: b, h, hne => by
  rw [ig, ig]
  by_cases e : x = y
  ·subst e
   rw [if_pos rfl, if_pos rfl]
   exact CN (by simpa using h) fun z => hne (by rw [z])
  ·rw [if_neg e, if_neg (Ne.symm e)]
   rcases Int.lt_or_gt_of_ne e with q | q
   ·exact .inl (decide_eq_true q)
   ·exact .inr (decide_eq_true q)
section
variable {P : Program} {w : World} {A : Around} {E : Value -> Shared -> Prop} {s : Shared}
theorem rO {b f : Bool} {Q : Bool -> Shared -> Prop} : ∀ {ms ns : List Int} {xs ys : List Value}, Vals (ms.map V.int) xs -> Vals (ns.map V.int) ys -> ∀ i, Q (ig ms ns f) s -> KatLex P w A b f Q (xs.zip ys) i s
 | [], _, _, _, r, _, i, h => by
  cases r
  exact h
 | m :: ms, [], _, _, r, r', i, h => by
  cases r'
  rw [List.zip_nil_right]
  exact h
 | m :: ms, n :: ns, _, _, r, r', i, h => by
  rw [List.map_cons] at r r'
  cases r with
  | cons a1 a2 =>
  cases r' with
  | cons b1 b2 =>
  obtain ⟨t, rfl⟩ := a1
  obtain ⟨t', rfl⟩ := b1
  rw [List.zip_cons_cons]
  refine kat_cons (wpAny_eqBool_int ?_)
  by_cases e : m = n
  ·rw [show (m == n) = true by simp [e]]
   refine kat_yes (rO a2 b2 (i + 1) ?_)
   rwa [ig, if_pos e] at h
  ·rw [show (m == n) = false by simp [e]]
   refine kat_no ?_
   rw [ig, if_neg e] at h
   cases hf : (b && i == 0) with
   | true => exact oneLt_int h
   | false => exact kat_one _ _ (lt_int h)
theorem wJ {h : Heap} : ∀ {us : List Value}, (∀ v ∈ us, ∃ b o xs m i t, v = .ref b /\ h.get? b = some o /\ o.cls = .type "tuple" /\ o.data = .seq xs m /\ xs[0]? = some (Value.int i t)) ->
  ∃ fs, KatTups h us fs /\ fs.length = us.length /\ ∀ f ∈ fs, ∃ i t, f = Value.int i t
 | [], _ => ⟨[], trivial, rfl, fun _ h => by cases h⟩
 | v :: us, hv => by
  obtain ⟨b, o, xs, m, i, t, rfl, h1, h2, h3, h4⟩ := hv v (.head _)
  obtain ⟨fs, k1, k2, k3⟩ := wJ (us := us) fun v hm => hv v (.tail _ hm)
  exact ⟨_ :: fs, KatTups.cons h1 h2 h3 h4 k1, by rw [List.length_cons, List.length_cons, k2], fun f hf => (List.mem_cons.mp hf).elim (fun e => ⟨i, t, e⟩) (k3 f)⟩
theorem Cr {G : Array Nat -> Prop} {a : Addr} {us : List Value} {n : Nat} {R : PySem.Fin -> Shared -> Prop} (fs : Nat -> List Int) (hob : s.heap.get? a = some (seqObj "list" us.toArray n)) (hlen : us.length < 64)
  (hT : ∀ i, i < us.length -> fs i ≠ [] /\ ∃ b o xs m, us.getD i Value.none = .ref b /\ b ≠ a /\ s.heap.get? b = some o /\ o.cls = .type "tuple" /\ o.data = .seq xs m /\ Vals ((fs i).map V.int) xs.toList)
  (hG : 0 < us.length -> Kok (fun i j => ig (fs i) (fs j) (decide ((fs i).length < (fs j).length))) us.length G (kas_sort us.length)) (hG0 : us.length < 2 -> G (List.range us.length).toArray) (hGP : ∀ p, G p -> Prm us.length p)
  (fin : ∀ p : Array Nat, G p -> R (.done (.ret .none)) { s with heap := sortedHeap s.heap a us (List.toArray (p.toList.map fun i => us.getD i Value.none)) }) :
  wpAny (model P w) A (Builtin.«list.sort» ⟨[.ref a], []⟩) R E s := by
 have hal : a < s.heap.objs.size := Heap.lt_size hob
 have hus : us.toArray.size = us.length := by simp
 rw [list_sort_plain]
 refine wpAny_bind (listItems_at hob rfl ?_); refine wpAny_bind (listUpdate_at hob rfl ?_ (by rw [hus, sizeLine_eq]; omega) (Nat.zero_le _))
 obtain ⟨e1, hob1⟩ : ∃ e1, (s.heap.update a (Obj.mapSeq fun _ => #[])).get? a = some (seqObj "list" #[] e1) := ⟨_, get?_update_seq hob (fun _ => #[])⟩
 refine wpAny_bind (seqEpoch_at hob1 rfl ?_); refine wpAny_bind (wpAny_newTuple ?_ (by show us.length <= _; rw [sizeLine_eq]; omega)); refine wpAny_bind (wpAny_newList ?_ (Nat.zero_le _)); refine wpAny_holding ?_
 have keep : ∀ b o, b ≠ a -> s.heap.get? b = some o -> (((s.heap.update a (Obj.mapSeq fun _ => #[])).push (seqObj "tuple" us.toArray 0)).push (seqObj "list" #[] 0)).get? b = some o := fun b o hb e =>
  Heap.get?_push_of_some _ (Heap.get?_push_of_some _ ((Heap.get?_update_ne _ _ _ _ hb).trans e))
 have hob6 : (((s.heap.update a (Obj.mapSeq fun _ => #[])).push (seqObj "tuple" us.toArray 0)).push (seqObj "list" #[] 0)).get? a = some (seqObj "list" #[] e1) := Heap.get?_push_of_some _ (Heap.get?_push_of_some _ hob1)
 show wpAny (model P w) A _ R E { s with heap := ((s.heap.update a (Obj.mapSeq fun _ => #[])).push (seqObj "tuple" us.toArray 0)).push (seqObj "list" #[] 0) }
 dsimp only
 by_cases h2 : us.toArray.size < 2
 ·rw [if_pos h2, if_pos h2]
  refine wpAny_bind (wpAny_pure ?_); rw [StateT.run_pure]; refine wpAny_bind (wpAny_pure ?_); dsimp only
  have har := kat_snds (ks := us) (vs := us) rfl (st := SortSt.mk' general' (us.toArray.zip us.toArray) #[] 7 none) (p := (List.range us.length).toArray) (by
   have e := kas_range (us.toArray.zip us.toArray)
   rw [show (us.toArray.zip us.toArray).size = us.length by simp] at e
   exact e.symm)
  rw [har]
  refine wpAny_bind (seqEpoch_at hob6 rfl ?_); refine wpAny_bind (listUpdate_at hob6 rfl ?_ (Nat.zero_le _) (by rw [sizeLine_eq]; simp; omega))
  simp only [bne_self_eq_false, Bool.false_eq_true, if_false]
  exact wpAny_pure (fin _ (hG0 (by rw [<- hus]; exact h2)))
 ·rw [if_neg h2, if_neg h2]
  have hn : 0 < us.length := by omega
  obtain ⟨ff, k1, k2, k3⟩ := wJ (h := ((s.heap.update a (Obj.mapSeq fun _ => #[])).push (seqObj "tuple" us.toArray 0)).push (seqObj "list" #[] 0)) (us := us) (by
   intro v hv
   obtain ⟨i, hi, e⟩ := List.getElem_of_mem hv
   obtain ⟨g0, b, o, xs, m, g1, g2, g3, g4, g5, g6⟩ := hT i hi
   have e2 : us.getD i Value.none = v := by rw [<- e]; simp [hi]
   cases hq : fs i with
   | nil => exact (g0 hq).elim
   | cons z zs =>
    rw [hq, List.map_cons] at g6
    cases hx : xs.toList with
    | nil => rw [hx] at g6; cases g6
    | cons u ur =>
     rw [hx] at g6
     cases g6 with
     | cons r1 r2 =>
     obtain ⟨t, rfl⟩ := r1
     refine ⟨b, o, xs, m, z, t, e2.symm.trans g1, keep _ _ g2 g3, g4, g5, ?_⟩
     rw [<- Array.getElem?_toList, hx]; rfl)
  refine wpAny_bind (kat_kind k1 (by omega) (fun v hv => ?_) (T := .type "int") rfl ?_)
  ·obtain ⟨i, t, rfl⟩ := k3 v hv
   exact Looks.of_pure rfl
  refine wpAny_bind (wpAny_mono (kat_run (ks := us) (vs := us) (Q := fun st' s' => ∃ p : Array Nat, arrOf st' = p.map (kas_item (us.toArray.zip us.toArray)) /\ failedOf st' = none /\ G p /\ s' = { s with heap := ((s.heap.update a (Obj.mapSeq fun _ => #[])).push (seqObj "tuple" us.toArray 0)).push (seqObj "list" #[] 0) })
   (G := fun p s' => G p /\ s' = { s with heap := ((s.heap.update a (Obj.mapSeq fun _ => #[])).push (seqObj "tuple" us.toArray 0)).push (seqObj "list" #[] 0) }) rfl (by omega) hlen (fun p st' s' a1 a2 a3 a4 => ⟨p, a2, a3, a4.1, a4.2⟩)
   (Kok.wp (lt := fun i j => ig (fs i) (fs j) (decide ((fs i).length < (fs j).length))) (fun i j C hi hj hC => ?_) (hG hn) fun p hp => ⟨hp, rfl⟩)) ?_ fun _ _ e => e)
  ·obtain ⟨_, b, o, xs, m, g1, g2, g3, g4, g5, g6⟩ := hT i hi
   obtain ⟨_, b', o', xs', m', g1', g2', g3', g4', g5', g6'⟩ := hT j hj
   show wpAny _ _ (keyLt' _ (us.getD i Value.none) (us.getD j Value.none)) _ _ _
   rw [g1, g1']
   refine kat_lt (keep _ _ g2 g3) g5 (keep _ _ g2' g3') g5' (rO g6 g6' 0 ?_)
   have z1 : (fs i).length = xs.size := by simpa using g6.length
   have z2 : (fs j).length = xs'.size := by simpa using g6'.length
   rw [<- z1, <- z2]
   exact hC
  ·rintro ⟨⟨⟩, st'⟩ s' ⟨p, har, hf, hp, rfl⟩
   dsimp only
   rw [kat_snds (ks := us) (vs := us) rfl har]
   have hpl : p.toList.length = us.length := by rw [(hGP p hp).length_eq]; simp
   refine wpAny_bind (seqEpoch_at hob6 rfl ?_); refine wpAny_bind (listUpdate_at hob6 rfl ?_ (Nat.zero_le _) (by rw [sizeLine_eq]; simp at hpl ⊢; omega))
   rw [hf]
   simp only [bne_self_eq_false, Bool.false_eq_true, if_false]
   exact wpAny_pure (fin p hp)
end
section
variable {X : Cx}
def xZ (K : Fg_) : List V -> Hp -> VK -> Prop := fun xs H Q => ∃ (a : Addr) (ys : List V) (ts : V -> List Int), xs = [.ref a] /\ SqL K H a ys /\ ys.length < 64 /\ (∀ y ∈ ys, ts y ≠ [] /\ ∃ b, y = .ref b /\ SqT K H b ((ts y).map V.int)) /\
 ∀ p zs, H p = none -> zs.Perm ys -> (∀ m, (∀ y ∈ ys, (ts y).length = m) -> (ys.map ts).Nodup -> zs.Pairwise fun y z => ig (ts y) (ts z) false = true) -> Q (.ref p) (upd H p (.lst zs))
theorem jA : ∀ {ys : List V} {us : List Value} {i : Nat}, Vals ys us -> i < ys.length -> RelV (ys.getD i .non) (us.getD i Value.none)
 | _, _, _, .nil, h => by simp at h
 | _, _, 0, .cons r _, _ => r
 | _, _, i + 1, .cons _ t, h => by
  simp only [List.getD_cons_succ]
  exact jA t (by simpa using h)
theorem oM {ys : List V} {us : List Value} (r : Vals ys us) : ∀ {l : List Nat}, (∀ i ∈ l, i < ys.length) -> Vals (l.map fun i => ys.getD i .non) (l.map fun i => us.getD i Value.none)
 | [], _ => .nil
 | i :: l, h => .cons (jA r (h i (.head _))) (oM r fun j hj => h j (.tail _ hj))
theorem nJ (ys : List V) : ((List.range ys.length).map fun i => ys.getD i V.non) = ys := by
 refine List.ext_getElem (by simp) fun i h1 h2 => ?_
 simp [h2]
def Bj (ys : List V) (ts : V -> List Int) (p : Array Nat) : Prop := ∀ m, (∀ y ∈ ys, (ts y).length = m) -> (ys.map ts).Nodup -> ∀ a b, a < b -> b < ys.length -> ig (ts (ys.getD (p.getD a 0) .non)) (ts (ys.getD (p.getD b 0) .non)) false = true
theorem DX {ys : List V} {ts : V -> List Int} (hn : 1 <= ys.length) : Kok (fun i j => ig (ts (ys.getD i .non)) (ts (ys.getD j .non)) (decide ((ts (ys.getD i .non)).length < (ts (ys.getD j .non)).length))) ys.length (fun p => Prm ys.length p /\ Bj ys ts p) (kas_sort ys.length) := by
 by_cases h : ∃ m, (∀ y ∈ ys, (ts y).length = m) /\ (ys.map ts).Nodup
 ·obtain ⟨m, h1, h2⟩ := h
  have hm : ∀ i, i < ys.length -> (ts (ys.getD i .non)).length = m := fun i hi => h1 _ (by simp [hi])
  have hf : ∀ i j, i < ys.length -> j < ys.length -> decide ((ts (ys.getD i .non)).length < (ts (ys.getD j .non)).length) = false := fun i j hi hj => by
   rw [hm i hi, hm j hj]; simp
  refine Kok.mono (fun p hp => ⟨hp.1, fun _ _ _ a b hab hb => ?_⟩) (HY (n := ys.length) (lt := fun i j => ig (ts (ys.getD i .non)) (ts (ys.getD j .non)) (decide ((ts (ys.getD i .non)).length < (ts (ys.getD j .non)).length))) (fun i hi => ?_) (fun i j k hi hj hk h h' => ?_) (fun i j hi hj hne => ?_) hn)
  ·rw [hf i i hi hi]; exact zX _
  ·rw [hf i j hi hj] at h
   rw [hf j k hj hk] at h'
   rw [hf i k hi hk]
   exact Hi ((hm i hi).trans (hm j hj).symm) ((hm j hj).trans (hm k hk).symm) h h'
  ·rw [hf i j hi hj, hf j i hj hi]
   refine CN ((hm i hi).trans (hm j hj).symm) fun e => hne ?_
   refine (List.getElem?_inj (by rw [List.length_map]; exact hi) h2).mp ?_
   rw [List.getElem?_map, List.getElem?_map, List.getElem?_eq_getElem hi, List.getElem?_eq_getElem hj]
   have q1 : ys.getD i .non = ys[i] := by simp [hi]
   have q2 : ys.getD j .non = ys[j] := by simp [hj]
   rw [q1, q2] at e
   exact congrArg some e
  ·have := hp.2 a b hab hb
   rwa [hf _ _ (hp.1.ltn (by omega) _) (hp.1.ltn (by omega) _)] at this
 ·exact Kok.mono (fun p hp => ⟨hp, fun m h1 h2 => absurd ⟨m, h1, h2⟩ h⟩) (Ga hn)
theorem zb : dM X (.builtin "sorted") (xZ X.K) := by
 intro pins s σ H xs us Q I r h
 obtain ⟨a, ys, ts, rfl, hq, hlen, hT, q⟩ := h
 obtain ⟨u, rfl, rx⟩ := vals1 r
 cases rx
 obtain ⟨its, rv, pl, hz⟩ := I.list hq
 have hil : ys.length = its.length := rv.length
 have hl := pl.isList
 refine Calls.call_function_entry kind_sorted plain_sorted entry_sorted (args_sorted1 _) ?_
 unfold Builtin.«sorted»; refine wpAny_bind (m := checkCount "sorted" 1 1 _) (wpAny_pure ?_); refine wpAny_bind (collect_list hl ?_ (by omega)); refine wpAny_bind (wpAny_newList ?_ (by omega))
 have hsz : ((s.heap.push (seqObj "list" #[] 0)).update s.heap.objs.size (Obj.mapSeq (· ++ its.toArray))).objs.size = s.heap.objs.size + 1 := by rw [Heap.size_update, size_push']
 have hob : (((s.heap.push (seqObj "list" #[] 0)).update s.heap.objs.size (Obj.mapSeq (· ++ its.toArray))).push (seqObj "list" its.toArray 0)).get? (s.heap.objs.size + 1) = some (seqObj "list" its.toArray 0) := by rw [<- hsz]; exact Heap.get?_push_size _ rfl
 have keep : ∀ b o, s.heap.get? b = some o -> (((s.heap.push (seqObj "list" #[] 0)).update s.heap.objs.size (Obj.mapSeq (· ++ its.toArray))).push (seqObj "list" its.toArray 0)).get? b = some o := fun b o e =>
  Heap.get?_push_of_some _ ((Heap.get?_update_ne _ _ _ _ (Nat.ne_of_lt (Heap.lt_size e))).trans (Heap.get?_push_of_some _ e))
 show wpAny _ _ _ _ _ { s with heap := ((s.heap.push (seqObj "list" #[] 0)).update s.heap.objs.size (Obj.mapSeq (· ++ its.toArray))).push (seqObj "list" its.toArray 0) }
 rw [hsz]
 refine wpAny_bind (wpAny_holding (wpAny_call_entry slot_list_sort ⟨_, hob, rfl⟩ entry_list_sort (Cr (G := fun p => Prm its.length p /\ Bj ys ts p) (fun i => ts (ys.getD i .non)) hob (by omega) (fun i hi => ?_) (fun hn => hil ▸ DX (by omega)) (fun h2 => ⟨List.Perm.refl _, fun m _ _ a b hab hb => absurd hab (by omega)⟩) (fun p hp => hp.1) fun p hp2 => ⟨_, rfl, wpAny_pure ⟨_, rfl, ?_⟩⟩) (args_list_sort _)))
 ·have hm : ys.getD i .non ∈ ys := by
   have : i < ys.length := by omega
   simp [this]
  obtain ⟨g0, b, e, hb⟩ := hT _ hm
  obtain ⟨tv, rt, it, hz'⟩ := I.tuple hb
  obtain ⟨o, ho, hc, m, hd⟩ := it
  refine ⟨g0, b, o, tv.toArray, m, ?_, ?_, keep _ _ ho, hc, hd, rt⟩
  ·have := jA rv (i := i) (by omega)
   rw [e] at this
   exact this
  ·exact Nat.ne_of_lt (Nat.lt_succ_of_lt (Heap.lt_size ho))
 ·obtain ⟨hp, hord⟩ := hp2
  have hin : ∀ i ∈ p.toList, i < ys.length := fun i hi => by
   have := List.mem_range.mp (hp.mem_iff.mp hi)
   omega
  have hpl : p.toList.length = its.length := by rw [hp.length_eq]; simp
  have hzs : (p.toList.map fun i => ys.getD i V.non).Perm ys := by
   have := hp.map fun i => ys.getD i V.non
   rw [<- hil, nJ] at this
   exact this
  have kp : ∀ b o, s.heap.get? b = some o -> (sortedAll s.heap its (List.toArray (p.toList.map fun i => its.getD i Value.none))).get? b = some o := fun b o e => by
   have hb : b ≠ s.heap.objs.size + 1 := Nat.ne_of_lt (Nat.lt_succ_of_lt (Heap.lt_size e))
   exact (Heap.get?_update_ne _ _ _ _ hb).trans (Heap.get?_push_of_some _ (Heap.get?_push_of_some _ ((Heap.get?_update_ne _ _ _ _ hb).trans (keep b o e))))
  obtain ⟨c, hc⟩ : ∃ c, (sortedAll s.heap its (List.toArray (p.toList.map fun i => its.getD i Value.none))).get? (s.heap.objs.size + 1) = some (seqObj "list" (List.toArray (p.toList.map fun i => its.getD i Value.none)) c) :=
   ⟨_, get?_update_seq (Heap.get?_push_of_some _ (Heap.get?_push_of_some _ (get?_update_seq hob (fun _ => #[])))) _⟩
  refine ⟨.ref (s.heap.objs.size + 1), _, I.laid (t' := s.toks) kp (Nat.le_succ _) (show ObjOk X.prog X.w _ _ _ (.lst (p.toList.map fun i => ys.getD i V.non)) from ⟨?_, _, c, oM rv hin, hc⟩), rfl, q _ _ (I.hok.fresh (Nat.le_succ _)) hzs fun m h1 h2 => ?_⟩
  rotate_left
  ·refine List.pairwise_iff_getElem.mpr fun i j hi hj hij => ?_
   rw [List.length_map, hpl, <- hil] at hj
   have h3 := hord m h1 h2 i j hij hj
   have hs : p.size = ys.length := by rw [<- Array.length_toList, hpl, hil]
   have e1 : p.getD i 0 = p.toList[i]'(by rw [Array.length_toList]; omega) := by simp [Array.getD, show i < p.size by omega]
   have e2 : p.getD j 0 = p.toList[j]'(by rw [Array.length_toList]; omega) := by simp [Array.getD, show j < p.size by omega]
   rw [e1, e2] at h3
   rw [List.getElem_map, List.getElem_map]
   exact h3
  rw [List.length_map, hpl, sizeLine_eq]
  omega
theorem pO {K : Fg_} (hK : X.K = K := by rfl) : dM X (.builtin "sorted") (xZ K) := hK ▸ zb
theorem ap_rSortT {K : Fg_} {a : Addr} {H : Hp} {Q : VK} : xZ K [.ref a] H Q = ∃ (ys : List V) (ts : V -> List Int), SqL K H a ys /\ ys.length < 64 /\ (∀ y ∈ ys, ts y ≠ [] /\ ∃ b, y = .ref b /\ SqT K H b ((ts y).map V.int)) /\
  ∀ p zs, H p = none -> zs.Perm ys -> (∀ m, (∀ y ∈ ys, (ts y).length = m) -> (ys.map ts).Nodup -> zs.Pairwise fun y z => ig (ts y) (ts z) false = true) -> Q (.ref p) (upd H p (.lst zs)) := by simp [xZ]
end
def But (D : Addr) (H H' : Hp) : Prop := ∀ b u, b ≠ D -> H b = some u -> H' b = some u
section
variable {K : Fg_} {a : Addr} {xs : List V} {g : TG} {te : TE} {σ : St} {H : Hp} {Q : VK} {cap : List (Option Nat)}
theorem CompP.listE (Sσ : St -> Prop) (F : Nat -> V -> Hp -> Prop) (hS : SqL K H a xs) (h0 : Sσ (iH σ cap)) (hz : xs.length <= sizeLine)
  (hs : ∀ D i x, xs[i]? = some x -> ∀ (σ : St) (H5 : Hp) (R : St -> VK), Sσ σ -> Same H H5 -> H D = Option.none -> (∃ acc, H5 D = some (.lst acc)) -> (∀ v σ4 H6, Sσ σ4 -> Same H5 H6 -> (∀ H', But D H6 H' -> F i v H') -> R σ4 v H6) ->
   g x σ H5 fun σ4 H4 => te σ4 H4 (R σ4))
  (k : ∀ D H' acc, H D = Option.none -> Same H H' -> H' D = some (.lst acc) -> acc.length = xs.length -> (∀ i v, acc[i]? = some v -> F i v H') -> Q (.ref D) H') : CompP cap (Itl K a) g zH te σ H Q := by
 intro D hD
 refine ⟨fun i m acc σ H2 => m = xs.length - i /\ i <= xs.length /\ Sσ σ /\ Same H H2 /\ acc.length = i /\ ∀ j v, acc[j]? = some v -> ∀ H', But D H2 H' -> F j v H', ⟨xs.length, rfl, Nat.zero_le _, h0, Same.new hD, rfl, fun j v e => by simp at e⟩, ?_⟩
 rintro i m acc σ1 H2 ⟨rfl, hi, hσ, sm, hal, hF⟩ hA
 by_cases hlt : i < xs.length
 ·have hx : xs[i]? = some xs[i] := by simp [hlt]
  refine .inr ⟨⟨xs, xs[i], sm.seq hS, hx⟩, fun y H3 hy => ?_⟩
  obtain rfl : H3 = H2 := hy.1
  obtain rfl : y = xs[i] := Option.some.inj ((hy.2 xs (sm.seq hS)).symm.trans hx)
  simp only [ap_noIf, if_true]
  refine hs D i _ hx σ1 H3 _ hσ sm hD ⟨_, hA⟩ fun v σ4 H6 hσ4 s6 hF6 => ?_
  have hA6 := s6 _ _ hA
  refine ⟨acc, hA6, by omega, xs.length - (i + 1), by omega, rfl, hlt, hσ4, (sm.trans s6).upd hD, by rw [List.length_append, hal]; rfl, fun j u hj H' hb => ?_⟩
  have hb6 : But D H6 H' := fun b o hne e => hb b o hne ((aF hne).trans e)
  by_cases hjl : j < acc.length
  ·rw [List.getElem?_append_left hjl] at hj
   exact hF j u hj H' fun b o hne e => hb6 b o hne (s6 _ _ e)
  ·rw [List.getElem?_append_right (by omega)] at hj
   have hj0 : j - acc.length = 0 := by
    have := (List.getElem?_eq_some_iff.mp hj).1
    simp at this
    omega
   rw [hj0] at hj
   cases hj
   obtain rfl : j = i := by omega
   exact hF6 H' hb6
 ·obtain rfl : i = xs.length := by omega
  exact .inl ⟨⟨xs, sm.seq hS, Nat.le_refl _⟩, k D H2 acc hD sm hA hal fun j v e => hF j v e H2 fun b o _ e => e⟩
end
end L2
namespace L2
open PySem PySem.Spec PyProof.Rows
structure Mk0 (K : Fg_) (C : Addr) : Prop where
 makes : PySem.W.makesIn K C = true
 init : PySem.W.findIn K (.ref C) "__init__" = some (some (.builtin "object.__init__"))
 kp : PySem.W.keepIn K (.ref C) = true
def KZ (C : Addr) : TE := fun _ H Q => ∀ x dx, H x = none -> H dx = none -> dx ≠ x -> Q (.ref x) (upd (upd H dx (.own x)) x (.ins C dx []))
theorem ap_new0 {C : Addr} {σ : St} {H : Hp} {Q : VK} : KZ C σ H Q = ∀ x dx, H x = none -> H dx = none -> dx ≠ x -> Q (.ref x) (upd (upd H dx (.own x)) x (.ins C dx [])) := rfl
theorem Jq {X : Cx} {C : Addr} {x : Str} {p pos : Pos} (M : Mk0 X.K C) (hg : Gl X x) (hm : X.mg x = some (.ref C)) (hdb : (x == ("__debug__" : Str)) = false := by decide) : PE X (.Call (.Name x p) [] [] pos) (KZ C) := by
 intro pins s σ H Q I h
 refine wpAny_Call_Name_kw (qb I hg hm ?_ hdb)
 have q := h (s.heap.objs.size + 1) s.heap.objs.size (I.hok.fresh (Nat.le_succ _)) (I.hok.fresh (Nat.le_refl _)) (Nat.ne_of_lt (Nat.lt_succ_self _))
 have I2 := Inv.made (C := C) I
 have Y := PySem.W.makes_of (M := model X.prog X.w) I.kIn M.makes
 refine PySem.W.callWith_K0 I.kIn M.kp (wpAny_call (Cj I.kIn M.makes M.init (fun self => PySem.W.Looks.of_pure (PySem.W.oi_bind self)) ?_))
 have g1 : ((s.heap.push PySem.W.emptyDict).push (PySem.W.instObj C s.heap.objs.size)).get? (s.heap.objs.size + 1) = some (PySem.W.instObj C s.heap.objs.size) := by
  have e := Heap.get?_push_size (s.heap.push PySem.W.emptyDict) (o := PySem.W.instObj C s.heap.objs.size) rfl
  rw [size_push'] at e
  exact e
 have t1 : PySem.W.Looks (model X.prog X.w) ((s.heap.push PySem.W.emptyDict).push (PySem.W.instObj C s.heap.objs.size)) (typeOf (.ref (s.heap.objs.size + 1))) (.ref C) := (PySem.W.Looks.ld g1).andThen .now
 have t2 : PySem.W.Looks (model X.prog X.w) ((s.heap.push PySem.W.emptyDict).push (PySem.W.instObj C s.heap.objs.size)) (isInstance (.ref (s.heap.objs.size + 1)) (.type "object")) true := t1.andThen (Y.top.keeps fun b o e => Heap.get?_push_of_some _ (Heap.get?_push_of_some _ e))
 refine codeAny_call_builtin PySem.W.oi_plain PySem.W.entry_oi (@PySem.W.check_slot (model X.prog X.w) _ _ _ "object.__init__" "object" "__init__" (.ref (s.heap.objs.size + 1)) [] [] _ PySem.W.oi_kind PySem.W.oi_split t2 (PySem.W.oi_args _) ?_)
 rw [PySem.W.oi_run]
 exact wpAny_pure ⟨rfl, .ref (s.heap.objs.size + 1), _, I2, rfl, q⟩
section
variable {K : Fg_} {a b : Addr} {xs ys : List V} {g : TG} {te : TE} {σ : St} {H : Hp} {Q : VK} {cap : List (Option Nat)}
theorem CompP.zipE (Sσ : St -> Prop) (F : Nat -> V -> Hp -> Prop) (hS : SqL K H a xs) (hS' : SqL K H b ys) (hlen : xs.length = ys.length) (h0 : Sσ (iH σ cap)) (hz : xs.length <= sizeLine)
  (hs : ∀ D i x y, xs[i]? = some x -> ys[i]? = some y -> ∀ (σ : St) (H5 : Hp) (p : Addr) (R : St -> VK), Sσ σ -> Same H H5 -> H D = Option.none -> (∃ acc, H5 D = some (.lst acc)) -> H5 p = Option.none ->
   (∀ v σ4 H6, Sσ σ4 -> Same (upd H5 p (.tup [x, y])) H6 -> (∀ H', But D H6 H' -> F i v H') -> R σ4 v H6) -> g (.ref p) σ (upd H5 p (.tup [x, y])) fun σ4 H4 => te σ4 H4 (R σ4))
  (k : ∀ D H' acc, H D = Option.none -> Same H H' -> H' D = some (.lst acc) -> acc.length = xs.length -> (∀ i v, acc[i]? = some v -> F i v H') -> Q (.ref D) H') : CompP cap (Itz K a b) g zH te σ H Q := by
 intro D hD
 refine ⟨fun i m acc σ H2 => m = xs.length - i /\ i <= xs.length /\ Sσ σ /\ Same H H2 /\ acc.length = i /\ ∀ j v, acc[j]? = some v -> ∀ H', But D H2 H' -> F j v H', ⟨xs.length, rfl, Nat.zero_le _, h0, Same.new hD, rfl, fun j v e => by simp at e⟩, ?_⟩
 rintro i m acc σ1 H2 ⟨rfl, hi, hσ, sm, hal, hF⟩ hA
 by_cases hlt : i < xs.length
 ·have hx : xs[i]? = some xs[i] := by simp [hlt]
  have hy : ys[i]? = some (ys[i]'(hlen ▸ hlt)) := by simp [hlen ▸ hlt]
  refine .inr ⟨⟨xs, ys, _, _, sm.seq hS, sm.seq hS', hx, hy⟩, fun v H3 hv => ?_⟩
  obtain ⟨p, x, y, hp, rfl, rfl, e1, e2⟩ := hv
  have e1 := e1 xs (sm.seq hS)
  have e2 := e2 ys (sm.seq hS')
  simp only [ap_noIf, if_true]
  refine hs D i x y e1 e2 σ1 H2 p _ hσ sm hD ⟨_, hA⟩ hp fun v σ4 H6 hσ4 s6 hF6 => ?_
  have s26 := (Same.new (o := .tup [x, y]) hp).trans s6
  have hA6 := s26 _ _ hA
  refine ⟨acc, hA6, by omega, xs.length - (i + 1), by omega, rfl, hlt, hσ4, (sm.trans s26).upd hD, by rw [List.length_append, hal]; rfl, fun j u hj H' hb => ?_⟩
  have hb6 : But D H6 H' := fun b o hne e => hb b o hne ((aF hne).trans e)
  by_cases hjl : j < acc.length
  ·rw [List.getElem?_append_left hjl] at hj
   exact hF j u hj H' fun b o hne e => hb6 b o hne (s26 _ _ e)
  ·rw [List.getElem?_append_right (by omega)] at hj
   have hj0 : j - acc.length = 0 := by
    have := (List.getElem?_eq_some_iff.mp hj).1
    simp at this
    omega
   rw [hj0] at hj
   cases hj
   obtain rfl : j = i := by omega
   exact hF6 H' hb6
 ·obtain rfl : i = xs.length := by omega
  exact .inl ⟨⟨xs, ys, sm.seq hS, sm.seq hS', .inl (Nat.le_refl _)⟩, k D H2 acc hD sm hA hal fun j v e => hF j v e H2 fun b o _ e => e⟩
end
end L2
namespace PySem
open PySem.Spec PyProof.Rows
theorem uw : typeLookup (.type "list") "keys" = pure none := by rw [typeLookup_type, builtinLookup_eq_fast]; kernel_rfl
section
variable {prog : Program} {w : World} {A : Around} {E : Value -> Shared -> Prop} {a : Addr} {xs : Array Value} {k : Nat} {s : Shared}
theorem Hq {Q : Option Value -> Shared -> Prop} {sl : Array (Option Value)} (hx : s.heap.get? a = some { cls := .type "list", dict := none, data := .seq xs k, slots := sl }) (hA : A.handled = none)
  (hq : ∀ h' tk, (∀ b u, s.heap.get? b = some u -> h'.get? b = some u) -> Q none { s with heap := h', toks := tk }) : wpAny (model prog w) A (getAttr? (.ref a) "keys") Q E s := by
 obtain ⟨hp, g, d, tk, os⟩ := s
 have hT : ∀ tk', (⟨hp, g, d, tk', os⟩ : Shared).TypeIs (.ref a) "list" := fun _ => ⟨_, hx, rfl⟩
 have f1 := sub_AttributeError
 have f3 := F.slot_list_getattribute.lookup
 have f4 := F.slot_list_getattribute.bind (.ref a)
 have f5 := am_list_getattr_none
 unfold getAttr? getAttrBy? getAttrBy
 repeat (any_goals (first | assumption | exact hT _ | ((with_reducible show wpAny _ _ (call (Value.builtin "list.__getattribute__") _ _) _ _ _); refine call_meets F.slot_list_getattribute (hT _) am_entry_list_getattribute (F.args_list_getattribute_2 _ _) (meets_getattribute_miss_list a xs k sl "keys" _ uw (by decide +kernel) (by rw [sizeLine_eq]; decide +kernel)) ⟨hx, hA, fun h' tk' e hx' => ?_⟩) | wp_step))
 obtain ⟨t1, u1, hE⟩ := hx'.there
 show wpAny _ _ (getattributeRaised _ _ _ _ _ _ _) _ _ _; unfold getattributeRaised
 repeat (any_goals (first | assumption | wp_step))
 exact hq _ _ hx'.keeps
end
end PySem
namespace L2
open PySem PySem.Spec PyProof.Rows
theorem tO : entryFor table "dict.update.loop" = some Builtin.«dict.update.loop» := entryFor_of_tree (by kernel_rfl)
section
variable {P : Program} {w : World} {A : Around} {E : Value -> Shared -> Prop}
abbrev HX (ps : List (Key × Value × Value)) : List (Key × Value) := ps.foldl (fun a p => stored a p.1 p.2.2) []
theorem zj (kvs : List (Key × Value)) (k : Key) (v : Value) : (stored kvs k v).length <= kvs.length + 1 := by
 unfold stored
 split
 ·simp
 ·simp
theorem xX (ps : List (Key × Value × Value)) : (HX ps).length <= ps.length := by
 have : ∀ (ps : List (Key × Value × Value)) (a : List (Key × Value)), (ps.foldl (fun a p => stored a p.1 p.2.2) a).length <= a.length + ps.length := by
  intro ps
  induction ps with
  | nil => intro a; exact Nat.le_refl _
  | cons p ps ih =>
   intro a
   have h1 := ih (stored a p.1 p.2.2)
   have h2 := zj a p.1 p.2.2
   rw [List.foldl_cons, List.length_cons]
   omega
 simpa using this ps []
theorem zB {d it l : Addr} {its : List Value} {ps : List (Key × Value × Value)} {R : Result -> Shared -> Prop} {s₀ : Shared} (hA : A.handled = none) (hlen : ps.length = its.length) (hz : its.length <= 1000) (hdi : d ≠ it) (hdl : d ≠ l) (hil : it ≠ l)
  (hl : s₀.heap.IsList l its.toArray) (hp : ∀ (i : Nat) p, ps[i]? = some p -> ∃ b, its[i]? = some (.ref b) /\ b ≠ d /\ b ≠ it /\ IsTup s₀.heap b #[p.2.1, p.2.2] /\ (bh P w).is p.1 p.2.1 = true)
  (hR : ∀ h' tk, (∀ b u, b ≠ d -> b ≠ it -> s₀.heap.get? b = some u -> h'.get? b = some u) -> h'.DictOf (bh P w) d (HX ps) -> R (.ok (.ret .none)) { s₀ with heap := h', toks := tk }) :
  ∀ (m j : Nat) (h : Heap) (tk : Nat) (t : Tok), j + m = its.length -> (∀ b u, b ≠ d -> b ≠ it -> s₀.heap.get? b = some u -> h.get? b = some u) -> h.IsListIter it l j -> h.DictOf (bh P w) d (HX (ps.take j)) ->
   codeAny (model P w) A (.builtin "dict.update.loop" ⟨[.ref d, .ref it, .int j t, .none], []⟩) R { s₀ with heap := h, toks := tk } := by
 intro m
 induction m with
 | zero =>
  intro j h tk t hj hk hi hd
  refine codeAny_builtin tO ?_
  unfold Builtin.«dict.update.loop»
  dsimp only
  have hlj : h.IsList l its.toArray := by
   obtain ⟨ol, e1, e2⟩ := hl
   exact ⟨ol, hk l ol hdl.symm hil.symm e1, e2⟩
  refine wpAny_bind (wpAny_pyNext_list_end (by exact hA) hi hlj (by simp; omega) fun h' eb => ?_)
  refine wpAny_bind (m := Builtin.Dict.addKeywords d []) ?_
  unfold Builtin.Dict.addKeywords
  refine wpAny_pure (wpAny_pure (hR h' tk (fun b u n1 n2 e => eb b u n2 (hk b u n1 n2 e)) ?_))
  obtain ⟨od, es, ep, h1, h2⟩ := hd
  rw [List.take_of_length_le (by omega)] at h2
  exact ⟨od, es, ep, eb d od hdi h1, h2⟩
 | succ m ih =>
  intro j h tk t hj hk hi hd
  refine codeAny_builtin tO ?_
  unfold Builtin.«dict.update.loop»
  dsimp only
  have hlj : h.IsList l its.toArray := by
   obtain ⟨ol, e1, e2⟩ := hl
   exact ⟨ol, hk l ol hdl.symm hil.symm e1, e2⟩
  have hjp : ps[j]? = some (ps[j]'(by omega)) := by simp
  obtain ⟨b, e1, n1, n2, ht, hkey⟩ := hp j _ hjp
  generalize ps[j]'(by omega) = p at hjp ht hkey
  refine wpAny_bind (wpAny_pyNext_list_item hi hlj (x := .ref b) (by simpa using e1) fun h' hi' sb => ?_)
  obtain ⟨ot, t1, t2, t3, t4⟩ := ht
  have ht' : h'.get? b = some ot := (sb.2 b n2).trans (hk b ot n1 n2 t1)
  have hT : ({ s₀ with heap := h', toks := tk } : Shared).TypeIs (.ref b) "tuple" := ⟨_, ht', t2⟩
  dsimp only
  refine wpAny_bind (wpAny_holding (wpAny_bind (wpAny_tryCatch ?_)))
  unfold Builtin.Dict.pairItems
  refine wpAny_bind (wpAny_typeOf hT ?_)
  rw [if_pos (by decide)]
  unfold seqItems?
  refine wpAny_bind (wpAny_bind (wpAny_load ht' ?_))
  rw [t4]
  refine wpAny_pure (wpAny_pure ?_)
  dsimp only [Option.getD_some]
  refine wpAny_holding (wpAny_dictSet_pairs (kvs := HX (ps.take j)) hkey ?_ (fun h2 hd2 sb2 => ?_) ?_)
  ·obtain ⟨od, es, ep, q1, q2⟩ := hd
   exact ⟨od, es, ep, (sb.2 d hdi).trans q1, q2⟩
  ·refine wpAny_pure ⟨Code.quiet_builtin _ (by decide +kernel), ?_⟩
   refine ih (j + 1) h2 (tk + 1) 0 (by omega) (fun b u m1 m2 e => (sb2.2 b m1).trans ((sb.2 b m2).trans (hk b u m1 m2 e))) ?_ ?_
   ·obtain ⟨oi, q1, q2⟩ := hi'
    exact ⟨oi, (sb2.2 it hdi.symm).trans q1, q2⟩
   ·have e : ps.take (j + 1) = ps.take j ++ [p] := by rw [List.take_add_one, hjp]; rfl
    rw [HX, e, List.foldl_append]
    exact hd2
  ·have := xX (ps.take j)
   rw [List.length_take] at this
   rw [sizeLine_eq]; omega
end
section
variable {X : Cx}
theorem tE {α β : Type} {Pr : α -> β -> Prop} : ∀ {ys : List α}, (∀ y ∈ ys, ∃ p, Pr y p) -> ∃ ps, Paired Pr ys ps
 | [], _ => ⟨[], .nil⟩
 | y :: ys, h => by
  obtain ⟨p, hp⟩ := h y List.mem_cons_self
  obtain ⟨ps, hps⟩ := tE (ys := ys) fun z hz => h z (List.mem_cons_of_mem _ hz)
  exact ⟨p :: ps, .cons hp hps⟩
theorem iU {α β : Type} {Pr : α -> β -> Prop} : ∀ {ys : List α} {ps : List β} {i : Nat} {p : β}, Paired Pr ys ps -> ps[i]? = some p -> ∃ y, ys[i]? = some y /\ Pr y p
 | _, _, _, _, .nil, h => by simp at h
 | _, _, 0, _, .cons r _, h => by cases h; exact ⟨_, rfl, r⟩
 | _, _, i + 1, _, .cons _ t, h => iU (i := i) t h
def rN (kf : V -> Key) (vf : V -> V) (ys : List V) : List (Key × V) := ys.foldl (fun a y => putK a (kf y) (vf y)) []
theorem CP {kf : V -> Key} {vf : V -> V} {Pr : V -> Key × Value × Value -> Prop} (hP : ∀ y p, Pr y p -> p.1 = kf y /\ RelV (vf y) p.2.2) : ∀ {ys : List V} {ps : List (Key × Value × Value)} {a : List (Key × V)} {b : List (Key × Value)}, Paired Pr ys ps -> KV a b ->
  KV (ys.foldl (fun a y => putK a (kf y) (vf y)) a) (ps.foldl (fun a p => stored a p.1 p.2.2) b)
 | _, _, _, _, .nil, h => h
 | y :: ys, p :: ps, a, b, .cons r t, h => by
  obtain ⟨e1, e2⟩ := hP y p r
  rw [List.foldl_cons, List.foldl_cons, e1]
  exact CP hP t (h.put (kf y) e2)
def iK (K : Fg_) : List V -> Hp -> VK -> Prop := fun xs H Q => ∃ (a : Addr) (ys : List V) (kf : V -> Key) (vf : V -> V), xs = [.ref a] /\ SqL K H a ys /\ ys.length <= 1000 /\ (∀ y ∈ ys, ∃ b, y = .ref b /\ SqT K H b [kV (kf y), vf y]) /\
 ∀ p, H p = none -> Q (.ref p) (upd H p (.dK (rN kf vf ys)))
theorem qg (hc : X.calm = true) : dM X (.type "dict") (iK X.K) := by
 intro pins s σ H xs us Q I r h
 obtain ⟨l, ys, kf, vf, rfl, hq, hlen, hP, q⟩ := h
 obtain ⟨u, rfl, rx⟩ := vals1 r
 cases rx
 obtain ⟨its, rv, pl, hz⟩ := I.list hq
 have hil : ys.length = its.length := rv.length
 have hl := pl.isList
 obtain ⟨ps, hps⟩ := tE (Pr := fun (y : V) (p : Key × Value × Value) => p.1 = kf y /\ RelV (vf y) p.2.2 /\ ∃ b, y = .ref b /\ IsTup s.heap b #[p.2.1, p.2.2] /\ (bh X.prog X.w).is p.1 p.2.1 = true) (ys := ys) fun y hy => by
  obtain ⟨b, rfl, hb⟩ := hP y hy
  obtain ⟨tv, rt, it, hz'⟩ := I.tuple hb
  cases rt with
  | cons r1 rt => cases rt with
   | cons r2 rt =>
    cases rt
    exact ⟨(kf (.ref b), _, _), rfl, r2, b, rfl, it, xr r1⟩
 have hpl : ps.length = its.length := by rw [<- hil]; exact (Paired.length hps).symm
 obtain ⟨⟨oc, od, oo, osl⟩, nl, g1, g2, g3, g4⟩ := id pl
 simp only at g2 g3 g4
 subst g2 g3 g4
 have hll : l < s.heap.objs.size := Heap.lt_size g1
 refine callType_codes (Q₁ := fun ob s1 => ob = .ref s.heap.objs.size /\ s1 = { s with heap := s.heap.push { cls := .type "dict", data := .dict #[] } }) F.kt_called_dict (F.kt_typeCall_dict_1 _) F.entry_dict_init (kt_code_dict_new _ ⟨rfl, rfl⟩) ?_
 rintro ob s1 ⟨rfl, rfl⟩
 have hd0 : (s.heap.push { cls := .type "dict", data := .dict #[] }).DictOf (bh X.prog X.w) s.heap.objs.size [] := Heap.DictOf.new s.heap
 refine ⟨hd0.typeIs, F.args_dict_init_2 _ _, ?_⟩
 unfold Builtin.«dict.__init__» Builtin.Dict.selfAndRest; refine wpAny_bind (wpAny_bind (wpAny_notOrdered_dict hd0.typeIs ?_))
 show wpAny _ _ (pure (s.heap.objs.size, [Value.ref l])) _ _ _; refine wpAny_pure ?_
 show wpAny _ _ (Builtin.Dict.updateFrom "dict.__init__" s.heap.objs.size (.ref l) [] .none) _ _ _
 have kp0 : ∀ b o, s.heap.get? b = some o -> (s.heap.push { cls := .type "dict", data := .dict #[] }).get? b = some o := fun b o e => Heap.get?_push_of_some _ e
 have hT : ({ s with heap := s.heap.push { cls := .type "dict", data := .dict #[] } } : Shared).TypeIs (.ref l) "list" := ⟨_, kp0 _ _ g1, rfl⟩
 unfold Builtin.Dict.updateFrom; refine wpAny_bind (wpAny_typeOf hT ?_)
 rw [if_pos (by decide)]
 refine wpAny_bind (Hq (kp0 _ _ g1) (by exact I.ok.hd hc) fun h1 tk1 kp1 => ?_)
 have kp01 : ∀ b o, s.heap.get? b = some o -> h1.get? b = some o := fun b o e => kp1 b o (kp0 b o e)
 have hl1 : h1.IsList l its.toArray := ⟨_, kp01 _ _ g1, rfl, _, rfl⟩
 obtain ⟨o0, es0, ep0, q1, q2⟩ := hd0
 have q1' := kp1 _ _ q1
 have hd1 : s.heap.objs.size < h1.objs.size := Heap.lt_size q1'
 rw [if_pos (show (none : Option Value).isNone = true from rfl)]
 refine wpAny_bind (wpAny_rule (wpAny_bind (wpAny_pyIter_list hl1 (wpAny_pure ⟨Code.quiet_builtin _ (by decide +kernel), ?_⟩))))
 have kp2 : ∀ b o, h1.get? b = some o -> (h1.push { cls := .type "list_iterator", data := .fields #[.ref l, .int 0 0] }).get? b = some o := fun b o e => Heap.get?_push_of_some _ e
 refine zB (A := X.A.in1) (s₀ := { s with heap := h1.push { cls := .type "list_iterator", data := .fields #[.ref l, .int 0 0] }, toks := tk1 }) (its := its) (ps := ps) (d := s.heap.objs.size) (it := h1.objs.size) (l := l) (by exact I.ok.hd hc) hpl (by omega) (Nat.ne_of_lt hd1) (Nat.ne_of_gt hll) (Nat.ne_of_gt (Nat.lt_trans hll hd1))
  ⟨_, kp2 _ _ (kp01 _ _ g1), rfl, _, rfl⟩ (fun i p hi => ?_) (fun h' tk kp hD => ⟨rfl, ?_⟩) its.length 0 _ tk1 0 (by omega) (fun b o _ _ e => e) ⟨_, Heap.get?_push_size _ rfl, rfl, rfl⟩ ⟨o0, es0, ep0, kp2 _ _ q1', q2⟩
 ·obtain ⟨y, hy, e1, e2, b, rfl, ht, hk⟩ := iU hps hi
  obtain ⟨ot, t1, t2⟩ := ht
  obtain ⟨v, hv, rr⟩ := rv.get hy
  cases rr
  have hb : b < s.heap.objs.size := Heap.lt_size t1
  exact ⟨b, hv, Nat.ne_of_lt hb, Nat.ne_of_lt (Nat.lt_trans hb hd1), ⟨ot, kp2 _ _ (kp01 _ _ t1), t2⟩, hk⟩
 ·have hkv : KV (rN kf vf ys) (HX ps) := CP (fun y p h => ⟨h.1, h.2.1⟩) hps .nil
  have hkl : (rN kf vf ys).length <= sizeLine := by
   have e1 : (rN kf vf ys).length = (HX ps).length := Paired.length hkv
   have e2 := xX ps
   rw [e1, sizeLine_eq]; omega
  exact ⟨.ref s.heap.objs.size, _, I.laid (a := s.heap.objs.size) (o := .dK (rN kf vf ys)) (t' := tk) (fun b o e => kp b o (Nat.ne_of_lt (Heap.lt_size e)) (Nat.ne_of_lt (Nat.lt_trans (Heap.lt_size e) hd1)) (kp2 _ _ (kp01 b o e))) (Nat.le_refl _) (yE hkl (beq_eq_false_iff_ne.mpr (Ne.symm (Nat.ne_of_lt I.big))) hkv hD), rfl, q _ (I.hok.fresh (Nat.le_refl _))⟩
end
end L2
namespace L2
open PySem PySem.Spec PyProof.Rows
def jm (v a : Addr) : HO := .ext fun h => h.IsValuesView v a
def Itv (a : Addr) (o : Obj) (kvs : List (Key × V)) : It := ⟨fun i H => H a = some (.frz o (.dK kvs)) /\ i < kvs.length, fun i H x H' => H' = H /\ (kvs.map (·.2))[i]? = some x, fun i H => H a = some (.frz o (.dK kvs)) /\ kvs.length <= i⟩
theorem Fo : entryFor table "dict_valueiterator.__iter__" = some Builtin.«dict_keyiterator.__iter__» := entryFor_alias (id' := "dict_keyiterator.__iter__") (by kernel_rfl) (by decide +kernel) (by decide +kernel) (by kernel_rfl)
theorem Dy {P : Program} {w : World} {A : Around} {E : Value -> Shared -> Prop} {s : Shared} {it d : Addr} {i n ep : Nat} {Q : Value -> Shared -> Prop} (hit : s.heap.IsValIter it d i n ep) (h : Q (.ref it) s) : wpAny (model P w) A (pyIter (.ref it)) Q E s := by
 refine wpAny_pyIter_slot hit.typeIs F.slot_dict_valueiterator_iter (wpAny_call_entry F.slot_dict_valueiterator_iter hit.typeIs Fo ?_ (F.args_dict_valueiterator_iter_1 _))
 show wpAny _ _ (ret (.ref it)) _ _ s; exact wpAny_pure ⟨_, rfl, "dict_valueiterator", _, hit.typeIs, F.slot_dict_valueiterator_next.lookup, h⟩
theorem xN {X : Cx} {pins : List (Addr × Obj)} {σ : St} {H : Hp} {s : Shared} {a : Addr} {o : Obj} {kvs : List (Key × V)} {es : Array DictEntry} {ep : Nat} (I : Inv X pins σ H s) (e : H a = some (.frz o (.dK kvs))) (hdat : o.data = .dict es ep) :
  ∃ vs, KV kvs vs /\ s.heap.DictAt (bh X.prog X.w) a vs ep := by
 obtain ⟨h0, _, _, vs, rel, o', es', ep', q1, q2, q3, q4⟩ := (show ObjOk X.prog X.w H s.heap a (.frz o (.dK kvs)) from I.hok a _ e)
 rw [h0] at q1
 cases q1
 rw [hdat] at q3
 cases q3
 exact ⟨vs, rel, o, es, h0, q2, hdat, q4⟩
theorem CJ {P : Program} {w : World} {K : Fg_} {tg : Expr} {a it : Addr} {o : Obj} {kvs : List (Key × V)} {es : Array DictEntry} {ep : Nat} (hdat : o.data = .dict es ep) : Turn P w K tg (Itv a o kvs) [it] it (fun i h => h.IsValIter it a i kvs.length ep) where
 mem := by simp
 obj := fun i h st b hb => by
  obtain rfl : b = it := by simpa using hb
  obtain ⟨oi, e, c, dd⟩ := st
  exact ⟨oi, e, fun v z => by rw [dd] at z; cases z⟩
 keep := fun i h h' st k => let ⟨oi, e, r⟩ := st; ⟨oi, k it (by simp) oi e, r⟩
 item := by
  intro X hP hw hK hc i pins s σ H E I hf st hg
  subst hP hw hK
  obtain ⟨hg1, hg2⟩ := hg
  obtain ⟨vs, rel, hat⟩ := xN I hg1 hdat
  have hvl : kvs.length = vs.length := Paired.length rel
  obtain ⟨f0, f1, f2, f3, f4, f5⟩ := hf it (by simp)
  have hx : vs[i]? = some (vs[i]'(by omega)) := by simp
  obtain ⟨p, hp, e1, e2⟩ := iU rel hx
  rw [hvl] at st
  refine wpAny_pyNext_values_item st hat (k := (vs[i]'(by omega)).1) (v := (vs[i]'(by omega)).2) hx fun h' st' sb => ?_
  have I1 : Inv X pins σ H { s with heap := h' } := I.turned (t' := s.toks) (fun b o hb e => (sb.2 b hb).trans e) f0 f1 f3 f4 f5
  obtain ⟨oi, e, c, dd⟩ := id st'
  rw [<- hvl] at st'
  exact ⟨_, rfl, BR (s := { s with heap := h' }) e c dd (by decide) ⟨p.2, H, I1, e2, ⟨rfl, by rw [List.getElem?_map, hp]; rfl⟩, st', fun b hb => (hf b hb).1⟩⟩
 done := by
  intro X hP hw hK hc i pins s σ H E I hf st hg
  subst hP hw hK
  obtain ⟨hg1, hg2⟩ := hg
  obtain ⟨vs, rel, hat⟩ := xN I hg1 hdat
  have hvl : kvs.length = vs.length := Paired.length rel
  obtain ⟨f0, f1, f2, f3, f4, f5⟩ := hf it (by simp)
  rw [hvl] at st
  exact wpAny_pyNext_values_end (I.ok.hd hc) st hat (by simp; omega) fun h' eb => ⟨rfl, I.turned (t' := s.toks) (fun b o hb e => eb b o hb e) f0 f1 f3 f4 f5⟩
 self := fun _ _ _ _ _ st h => Dy st h
section
variable {X : Cx} {tg : Expr}
def La (tl : TE) : TI := fun σ H R => tl σ H fun x H1 => ∃ v a kvs, x = .ref v /\ H1 v = some (jm v a) /\ H1 a = some (.dK kvs) /\ ∀ o, R (Itv a o kvs) (upd H1 a (.frz o (.dK kvs)))
theorem Jm {l : Expr} {tl : TE} (hl : PE X l tl) : PI X tg l (La tl) := by
 intro pins s σ H R I h
 refine thn (hl pins s σ H _ I h) fun u s1 ⟨x, H1, I1, r1, v, a, kvs, ex, hv, ha, q⟩ => ?_
 subst ex
 cases r1
 obtain ⟨hview, _, _⟩ := (show ObjOk X.prog X.w H1 s1.heap v (jm v a) from I1.hok v _ hv)
 obtain ⟨z, hsys, vs, rel, o, es, ep, q1, q2, q3, q4⟩ := (show ObjOk X.prog X.w H1 s1.heap a (.dK kvs) from I1.hok a _ ha)
 have hvl : kvs.length = vs.length := Paired.length rel
 have hat : s1.heap.DictAt (bh X.prog X.w) a vs ep := ⟨o, es, q1, q2, q3, q4⟩
 refine wpAny_pyIter_values hview hat ?_
 have I2 : Inv X pins σ (upd H1 a (.frz o (.dK kvs))) s1 := I1.write (t' := s1.toks) (h' := s1.heap) (by rw [ha]; exact True.intro) (.inl rfl) (fun b u _ e => e) ⟨o, q1⟩ (show ObjOk X.prog X.w _ s1.heap a (.frz o (.dK kvs)) from ⟨q1, z, hsys, vs, rel, o, es, ep, q1, q2, q3, q4⟩)
 refine ⟨s1.heap.objs.size, [s1.heap.objs.size], _, _, _, rfl, I2.kept (t' := s1.toks) fun b o e => Heap.get?_push_of_some _ e, CJ q3, ⟨_, Heap.get?_push_size _ rfl, rfl, by rw [hvl]; rfl⟩, fun b hb => ?_, q o⟩
 obtain rfl : b = s1.heap.objs.size := by simpa using hb
 exact I2.fpOk (Nat.le_refl _) (I2.hok.fresh (Nat.le_refl _))
def Jf : V -> List V -> Hp -> VK -> Prop := fun x vs H Q => ∃ a kvs, x = .ref a /\ vs = [] /\ H a = some (.dK kvs) /\ ∀ v, H v = none -> Q (.ref v) (upd H v (jm v a))
theorem Bp : MtR X "dict.values" Jf := by
 intro pins s σ H x vs v us Q I rx rv h
 obtain ⟨a, kvs, rfl, rfl, ha, q⟩ := h
 cases rx
 have hus := rv.zero
 subst hus
 obtain ⟨z, hsys, ws, rel, dd⟩ := DQ I.hok ha
 refine call_meetsIn PySem.F.slot_dict_values dd.typeIs PySem.F.entry_dict_values (PySem.F.args_dict_values_1 _) (meets_dict_values (bh X.prog X.w) a hsys) ⟨⟨ws, dd⟩, ?_⟩
 have hg : (s.heap.push { cls := .type "dict_values", data := .fields #[.ref a] }).IsValuesView s.heap.objs.size a := ⟨_, Heap.get?_push_size _ rfl, rfl, rfl⟩
 exact ⟨.ref s.heap.objs.size, _, I.laid (a := s.heap.objs.size) (o := jm s.heap.objs.size a) (t' := s.toks) (fun b o e => Heap.get?_push_of_some _ e) (Nat.le_refl _) ⟨hg, ⟨_, Heap.get?_push_size _ rfl⟩, fun h1 h2 ⟨ov, e1, e2⟩ k => ⟨ov, k ov e1, e2⟩⟩, rfl, q _ (I.hok.fresh (Nat.le_refl _))⟩
end
end L2
namespace L2
open PySem PySem.Spec PyProof.Rows
section
variable {X : Cx} {K : Fg_} {σ : St} {H : Hp} {Q : VK} {R : It -> Hp -> Prop} {tl td ty : TE} {g : TG} {tt : TT} {te : TE} {cap : List (Option Nat)} {a : Addr} {o : Obj} {kvs : List (Key × V)}
theorem fQ (hc : X.calm = true) (hK : X.K = K := by rfl) : dM X (.type "dict") (iK K) := hK ▸ qg hc
theorem ap_dictPairs : iK K [.ref a] H Q = ∃ (ys : List V) (kf : V -> Key) (vf : V -> V), SqL K H a ys /\ ys.length <= 1000 /\ (∀ y ∈ ys, ∃ b, y = .ref b /\ SqT K H b [kV (kf y), vf y]) /\ ∀ p, H p = none -> Q (.ref p) (upd H p (.dK (rN kf vf ys))) := by simp [iK]
theorem ap_iVals : La tl σ H R = tl σ H fun x H1 => ∃ v a kvs, x = .ref v /\ H1 v = some (jm v a) /\ H1 a = some (.dK kvs) /\ ∀ o, R (Itv a o kvs) (upd H1 a (.frz o (.dK kvs))) := rfl
theorem ap_rVals : Jf (.ref a) [] H Q = ∃ kvs, H a = some (.dK kvs) /\ ∀ v, H v = none -> Q (.ref v) (upd H v (jm v a)) := by simp [Jf]
theorem ap_dget1 : Gv td ty σ H Q = td σ H fun x H1 => ∃ a, x = .ref a /\ IsD H1 a /\ ty σ H1 fun y H2 => ∃ o, DGet H2 a y o /\ Q (o.getD .non) H2 := rfl
theorem CompP.vals (Sσ : St -> Prop) (p : V -> Bool) (F : V -> V) (hH : H a = some (.frz o (.dK kvs))) (h0 : Sσ (iH σ cap)) (hz : kvs.length <= sizeLine)
  (hs : ∀ x ∈ kvs.map (·.2), ∀ (σ : St) (H5 : Hp) (R1 : St -> VK) (R2 : St -> Hp -> Prop), Sσ σ -> Same H H5 -> (p x = true -> ∀ σ4 H6, Sσ σ4 -> Same H5 H6 -> R1 σ4 (F x) H6) -> (p x = false -> ∀ σ4 H6, Sσ σ4 -> Same H5 H6 -> R2 σ4 H6) ->
   g x σ H5 fun σ4 H4 => tt σ4 H4 fun b H5 => if b = true then te σ4 H5 (R1 σ4) else R2 σ4 H5)
  (k : ∀ D H', H D = Option.none -> Same H H' -> H' D = some (.lst (((kvs.map (·.2)).filter p).map F)) -> Q (.ref D) H') : CompP cap (Itv a o kvs) g tt te σ H Q :=
 fun D hD => jo (xs := kvs.map (·.2)) (Itv a o kvs) Sσ p F hD h0 (by rw [List.length_map]; exact hz) (fun i x H5 hx sm => ⟨⟨sm _ _ hH, by simpa using (List.getElem?_eq_some_iff.mp hx).1⟩, fun y H' hy => ⟨Option.some.inj (hy.2.symm.trans hx), hy.1⟩⟩) (fun H5 sm => ⟨sm _ _ hH, by simp⟩) hs fun H' s e => k D H' hD s e
end
end L2
namespace L2
open PySem PySem.W PySem.Spec PyProof.Rows
section
variable {X : Cx} {pins : List (Addr × Obj)} {σ : St} {H : Hp} {s : Shared} {h' : Heap}
theorem Inv.adopt {t' c : Nat} {D : Addr} {zs : List V} {its : List Value} (I : Inv X pins σ H s) (hf : yo X pins H D) (k : ∀ b o, b ≠ D -> s.heap.get? b = some o -> h'.get? b = some o)
  (hD : h'.get? D = some { cls := .type "list", data := .seq its.toArray c }) (hv : Vals zs its) (hz : zs.length <= sizeLine) : Inv X pins σ (upd H D (.lst zs)) { s with heap := h', toks := t' } := by
 obtain ⟨hn, hL, hfs, h1, h2, h3⟩ := hf
 have nit : ∀ b u, H b = some u -> b ≠ D := fun b u e z => by rw [z, hn] at e; cases e
 refine I.step (g' := s.gens) (d' := s.drawn) (ch := [D]) (fun b hb => ?_) (fun b o _ _ hc e _ => k b o (fun z => hc (by simp [z])) e) (fun b o _ _ hc e _ => ⟨o.slots, k b o (fun z => hc (by simp [z])) e⟩) (fun b o hc e n => (aF fun z => hc (by simp [z])).trans n)
  (fun b o hc e => ⟨o, k b o (fun z => hc (by simp [z])) e⟩) (fun b xs e => (aF (nit b _ e)).trans e) (fun b o u e => (aF (nit b _ e)).trans e) (fun b ps e => ⟨#[], by rw [aF (nit b _ e), e]; simp⟩) (fun m hm => ?_) (fun b u e => ?_) I.bare
 ·have e : b = D := by simpa using hb
  subst e
  exact ⟨h1, hL, h2, h3⟩
 ·obtain ⟨o, es, ep, ho, r⟩ := hm
  exact ⟨o, es, ep, k _ o (Ne.symm hL) ho, r⟩
 ·by_cases z : b = D
  ·subst z
   rw [au] at e
   cases e
   exact ⟨hz, its, c, hv, hD⟩
  ·rw [aF z] at e
   refine (I.hok b u e).stay (fun c v hc q => k c v ?_ q) (fun c q => ?_) fun c v q => ?_
   ·rcases hc with y | y
    ·rw [y]; exact nit b u e
    ·exact nit c _ y
   ·exact (aF (nit c _ q)).trans q
   ·exact (aF (nit c _ q)).trans q
end
section
variable {X : Cx} {pins : List (Addr × Obj)} {σ : St} {H : Hp} {s : Shared} {k : Nat} {f : Addr} {fd : FuncData} {ps : List Str} {sp : Sp}
theorem Jb {Q : VK} {v : V} {u : Value} (F : FnOk X.prog X.w X.K X.mg X.base CX0 k f fd ps sp) (hr : Room (k + 2) X.A) (hb : Binds X.K fd ps []) (I : Inv X pins σ H s) (r : RelV v u) (h : sp [v] H Q E0) :
  wpAny (model X.prog X.w) X.A.in1.in1 (call (.ref f) [u]) (EP X pins σ Q) (fun _ _ => False) s := by
 have r2 : Vals [v] [u] := .cons r .nil
 have hl : ([u] ++ ([] : List Value)).length = ps.length := by
  have := F.len _ _ _ _ h
  rw [<- this]; rfl
 refine wpAny_call (codeAny_mono (F.run X.A.in1.in1 X.stack s H ⟨[u], []⟩ [u] [v] Q E0 hr.in1.in1 I.env0.in1.in1 (hb s [u] I.kIn hl) r2 h) fun r s' hq => ?_)
 cases r with
 | error e => exact hq.elim
 | ok fl =>
  cases fl with
  | ret u => exact I.after hq
  | next => exact False.elim hq
  | brk => exact False.elim hq
  | cont => exact False.elim hq
theorem Paired.imp {α β : Type} {P P' : α -> β -> Prop} (h : ∀ a b, P a b -> P' a b) : ∀ {xs : List α} {ys : List β}, Paired P xs ys -> Paired P' xs ys
 | _, _, .nil => .nil
 | _, _, .cons a t => .cons (h _ _ a) (Paired.imp h t)
def KeyAt (kf : V -> List Int) (H : Hp) (y v : V) : Prop := ∃ t, v = .ref t /\ H t = some (.tup ((kf y).map V.int))
theorem KeyAt.same {kf : V -> List Int} {H H' : Hp} {y v : V} (h : KeyAt kf H y v) (e : ∀ t xs, H t = some (.tup xs) -> H' t = some (.tup xs)) : KeyAt kf H' y v := let ⟨t, a, b⟩ := h; ⟨t, a, e _ _ b⟩
def Je (sp : Sp) (kf : V -> List Int) (H : Hp) (y : V) : Prop := ∀ H1, Same H H1 -> ∀ R : VK, (∀ t H2, Same H1 H2 -> H2 t = some (.tup ((kf y).map V.int)) -> R (.ref t) H2) -> sp [y] H1 R E0
theorem yc {E : Value -> Shared -> Prop} {kf : V -> List Int} {H0 : Hp} {kS : Addr} {Q' : Shared -> Prop} {body : Value -> PUnit -> Sem (ForInStep PUnit)} (F : FnOk X.prog X.w X.K X.mg X.base CX0 k f fd ps sp) (hr : Room (k + 2) X.A) (hb : Binds X.K fd ps [])
  (hbody : ∀ x s (D' : Shared -> Prop), wpAny (model X.prog X.w) X.A.in1.in1 (call (.ref f) [x]) (fun k s' => ∃ its n, s'.heap.get? kS = some { cls := .type "list", data := .seq its n } /\ its.size < 64 /\ D' { s' with heap := s'.heap.update kS (Obj.mapSeq (·.push k)) }) (fun _ _ => False) s ->
   wpAny (model X.prog X.w) X.A.in1.in1 (body x ⟨⟩) (fun r s' => r = .yield ⟨⟩ /\ D' s') E s) (hS0 : H0 kS = none) :
  ∀ (ys : List V) (us : List Value) (ys0 kvs : List V) (H1 : Hp) (s1 : Shared), Vals ys us -> ys0.length + ys.length < 64 -> Inv X pins σ H1 s1 -> H1 kS = some (.lst kvs) -> Same H0 H1 -> (∀ y ∈ ys, Je sp kf H0 y) -> Paired (KeyAt kf H1) ys0 kvs ->
   (∀ kvs2 H2 s2, Inv X pins σ H2 s2 -> H2 kS = some (.lst kvs2) -> Same H0 H2 -> Paired (KeyAt kf H2) (ys0 ++ ys) kvs2 -> Q' s2) -> wpAny (model X.prog X.w) X.A.in1.in1 (forIn us PUnit.unit body) (fun _ s2 => Q' s2) E s1
 | _, _, ys0, kvs, H1, s1, .nil, hl, I, hH, sm, hk, hp, fin => by
  rw [List.forIn_nil]
  rw [List.append_nil] at fin
  exact wpAny_pure (fin kvs H1 s1 I hH sm hp)
 | y :: ys, u :: us, ys0, kvs, H1, s1, .cons ru rus, hl, I, hH, sm, hk, hp, fin => by
  rw [List.forIn_cons]
  rw [List.length_cons] at hl
  have hkl : ys0.length = kvs.length := Paired.length hp
  have h1 := Jb F hr hb I ru (hk y List.mem_cons_self H1 sm (fun v H2 => ∃ t, v = .ref t /\ Same H1 H2 /\ H2 t = some (.tup ((kf y).map V.int))) fun t H2 s2 ht => ⟨t, rfl, s2, ht⟩)
  refine wpAny_bind (wpAny_mono (hbody u s1 (fun s2 => ∃ kvs' H3, Inv X pins σ H3 s2 /\ H3 kS = some (.lst kvs') /\ Same H0 H3 /\ Paired (KeyAt kf H3) (ys0 ++ [y]) kvs') (wpAny_mono h1 (fun kv s2 hq => ?_) fun _ _ x => x)) (fun r s2 hq => ?_) fun _ _ x => x)
  ·obtain ⟨v, H2, I2, rv, t, rfl, s12, ht⟩ := hq
   have hH2 := s12 _ _ hH
   obtain ⟨z, its, n, r, hl2, e⟩ := I2.lstM hH2
   refine ⟨its.toArray, n, e, by rw [List.size_toArray]; omega, kvs ++ [.ref t], _, I2.lset (t' := s2.toks) (its' := its ++ [kv]) hH2 e (by simp) (r.append (.cons rv .nil)) (by rw [List.length_append, List.length_singleton, sizeLine_eq]; omega), au, ?_, ?_⟩
   ·exact (sm.trans s12).upd hS0
   ·have up : ∀ b xs, H2 b = some (.tup xs) -> (upd H2 kS (.lst (kvs ++ [V.ref t]))) b = some (.tup xs) := fun b xs q => (aF fun z => by rw [z, hH2] at q; cases q).trans q
    exact Paired.snoc (Paired.imp (fun a b q => q.same fun t xs h => up _ _ (s12 _ _ h)) hp) ⟨t, rfl, up _ _ ht⟩
  ·obtain ⟨rfl, kvs', H3, I3, hH3, sm3, hp3⟩ := hq
   refine yc F hr hb hbody hS0 ys us (ys0 ++ [y]) kvs' H3 s2 rus (by rw [List.length_append, List.length_singleton]; omega) I3 hH3 sm3 (fun z hz => hk z (List.mem_cons_of_mem _ hz)) hp3 fun kvs2 H4 s4 I4 hH4 sm4 hp4 => fin kvs2 H4 s4 I4 hH4 sm4 ?_
   rwa [List.append_assoc] at hp4
end
section
variable {P : Program} {w : World} {A : Around} {E : Value -> Shared -> Prop} {s : Shared}
theorem Ci {G : Array Nat -> Prop} {ks us : List Value} {a kS : Addr} {e1 nk : Nat} {R : PySem.Fin -> Shared -> Prop} (fs : Nat -> List Int) (hkl : ks.length = us.length) (hlen : us.length < 64) (hk : s.heap.get? kS = some (seqObj "list" ks.toArray nk)) (ho : s.heap.get? a = some (seqObj "list" #[] e1)) (hak : a ≠ kS)
  (hT : ∀ i, i < us.length -> fs i ≠ [] /\ ∃ b o xs m, ks.getD i Value.none = .ref b /\ s.heap.get? b = some o /\ o.cls = .type "tuple" /\ o.data = .seq xs m /\ Vals ((fs i).map V.int) xs.toList)
  (hG : 0 < us.length -> Kok (fun i j => ig (fs i) (fs j) (decide ((fs i).length < (fs j).length))) us.length G (kas_sort us.length)) (hG0 : us.length < 2 -> G (List.range us.length).toArray) (hGP : ∀ p, G p -> Prm us.length p)
  (fin : ∀ p : Array Nat, G p -> R (.done (.ret .none)) { s with heap := (s.heap.update kS (Obj.mapSeq fun _ => #[])).update a (Obj.mapSeq fun _ => List.toArray (p.toList.map fun i => us.getD i Value.none)) }) :
  wpAny (model P w) A (ksk_end a false us.toArray e1 (.ref kS) ks.toArray) R E s := by
 have hus : us.toArray.size = us.length := by simp
 have tail : ∀ st' (p : Array Nat), arrOf st' = p.map (kas_item (ks.toArray.zip us.toArray)) -> failedOf st' = none -> G p -> wpAny (model P w) A (ksk_tail a false e1 (.ref kS) st') R E s := fun st' p har hf hp => by
  have hpl : (p.toList.map fun i => us.getD i Value.none).length = us.length := by rw [List.length_map, (hGP p hp).length_eq]; simp
  have ho2 : (s.heap.update kS (Obj.mapSeq fun _ => #[])).get? a = some (seqObj "list" #[] e1) := (Heap.get?_update_ne _ _ _ _ hak).trans ho
  unfold ksk_tail
  try dsimp only
  rw [kat_snds hkl har]
  refine wpAny_bind (listUpdate_at hk rfl ?_ (by rw [List.size_toArray, sizeLine_eq]; omega) (Nat.zero_le _))
  refine wpAny_bind (wpAny_letGo ?_)
  refine wpAny_bind (seqEpoch_at ho2 rfl ?_)
  refine wpAny_bind (listUpdate_at ho2 rfl ?_ (Nat.zero_le _) (by simp only [Bool.false_eq_true, if_false]; rw [List.size_toArray, hpl, sizeLine_eq]; omega))
  rw [hf]
  simp only [bne_self_eq_false, Bool.false_eq_true, if_false]
  exact wpAny_pure (fin p hp)
 unfold ksk_end
 try dsimp only
 rw [if_neg (by decide)]
 by_cases h2 : us.toArray.size < 2
 ·rw [if_pos h2, if_pos h2]
  refine wpAny_bind (wpAny_pure ?_); rw [StateT.run_pure]; refine wpAny_bind (wpAny_pure ?_); dsimp only
  refine tail _ (List.range us.length).toArray ?_ rfl (hG0 (by rw [<- hus]; exact h2))
  have e := kas_range (ks.toArray.zip us.toArray)
  rw [show (ks.toArray.zip us.toArray).size = us.length by simp [hkl]] at e
  exact e.symm
 ·rw [if_neg h2, if_neg h2]
  have hn : 0 < us.length := by omega
  obtain ⟨ff, k1, k2, k3⟩ := wJ (h := s.heap) (us := ks) (by
   intro v hv
   obtain ⟨i, hi, e⟩ := List.getElem_of_mem hv
   obtain ⟨g0, b, o, xs, m, g1, g3, g4, g5, g6⟩ := hT i (by omega)
   have e2 : ks.getD i Value.none = v := by rw [<- e]; simp [hi]
   cases hq : fs i with
   | nil => exact (g0 hq).elim
   | cons z zs =>
    rw [hq, List.map_cons] at g6
    cases hx : xs.toList with
    | nil => rw [hx] at g6; cases g6
    | cons u ur =>
     rw [hx] at g6
     cases g6 with
     | cons r1 r2 =>
     obtain ⟨t, rfl⟩ := r1
     refine ⟨b, o, xs, m, z, t, e2.symm.trans g1, g3, g4, g5, ?_⟩
     rw [<- Array.getElem?_toList, hx]; rfl)
  refine wpAny_bind (kat_kind k1 (by omega) (fun v hv => ?_) (T := .type "int") rfl ?_)
  ·obtain ⟨i, t, rfl⟩ := k3 v hv
   exact Looks.of_pure rfl
  refine wpAny_bind (wpAny_mono (kat_run (ks := ks) (vs := us) (Q := fun st' s' => ∃ p : Array Nat, arrOf st' = p.map (kas_item (ks.toArray.zip us.toArray)) /\ failedOf st' = none /\ G p /\ s' = s)
   (G := fun p s' => G p /\ s' = s) hkl (by omega) hlen (fun p st' s' a1 a2 a3 a4 => ⟨p, a2, a3, a4.1, a4.2⟩)
   (Kok.wp (lt := fun i j => ig (fs i) (fs j) (decide ((fs i).length < (fs j).length))) (fun i j C hi hj hC => ?_) (hG hn) fun p hp => ⟨hp, rfl⟩)) ?_ fun _ _ e => e)
  ·obtain ⟨_, b, o, xs, m, g1, g3, g4, g5, g6⟩ := hT i hi
   obtain ⟨_, b', o', xs', m', g1', g3', g4', g5', g6'⟩ := hT j hj
   show wpAny _ _ (keyLt' _ (ks.getD i Value.none) (ks.getD j Value.none)) _ _ _
   rw [g1, g1']
   refine kat_lt g3 g5 g3' g5' (rO g6 g6' 0 ?_)
   have z1 : (fs i).length = xs.size := by simpa using g6.length
   have z2 : (fs j).length = xs'.size := by simpa using g6'.length
   rw [<- z1, <- z2]
   exact hC
  ·rintro ⟨⟨⟩, st'⟩ s' ⟨p, har, hf, hp, rfl⟩
   dsimp only
   exact tail st' p har hf hp
end
theorem Jo (a v : Value) : argsOk "list.sort" ⟨[a], [(Str.ofString "key", v)]⟩ := by unfold argsOk; kernel_rfl
section
variable {X : Cx} {pins : List (Addr × Obj)} {σ : St} {H : Hp} {s : Shared} {k : Nat} {f : Addr} {fd : FuncData} {ps : List Str} {sp : Sp}
def vJ (K : Fg_) (sp : Sp) : V -> Hp -> VK -> Prop := fun x H Q => ∃ (a : Addr) (ys : List V) (kf : V -> List Int), x = .ref a /\ SqL K H a ys /\ ys.length < 64 /\ (∀ y ∈ ys, kf y ≠ [] /\ Je sp kf H y) /\
 ∀ p zs H', Same H H' -> H p = none -> H' p = some (.lst zs) -> zs.Perm ys -> (∀ m, (∀ y ∈ ys, (kf y).length = m) -> (ys.map kf).Nodup -> zs.Pairwise fun y z => ig (kf y) (kf z) false = true) -> Q (.ref p) H'
theorem nD {α β : Type} {Pr : α -> β -> Prop} {d1 : α} {d2 : β} : ∀ {xs : List α} {ys : List β} {i : Nat}, Paired Pr xs ys -> i < xs.length -> Pr (xs.getD i d1) (ys.getD i d2)
 | _, _, _, .nil, h => by simp at h
 | _, _, 0, .cons r _, _ => r
 | _, _, i + 1, .cons _ t, h => by
  simp only [List.getD_cons_succ]
  exact nD t (by simpa using h)
theorem yZ {Q : VK} {x : V} {u : Value} (F : FnOk X.prog X.w X.K X.mg X.base CX0 k f fd ps sp) (hr : Room (k + 2) X.A) (hb : Binds X.K fd ps []) (I : Inv X pins σ H s) (rx : RelV x u) (h : vJ X.K sp x H Q) :
  wpAny (model X.prog X.w) X.A (call (.builtin "sorted") [u] [(Str.ofString "key", .ref f)]) (EP X pins σ Q) X.xe s := by
 obtain ⟨a, ys, kf, rfl, hq, hlen, hK, q⟩ := h
 cases rx
 obtain ⟨its, rv, pl, hz⟩ := I.list hq
 have hil : ys.length = its.length := rv.length
 have hl := pl.isList
 refine call_function_entry_kw kind_sorted plain_sorted entry_sorted (ksk_s1 _ _) ?_
 unfold Builtin.«sorted»; refine wpAny_bind (m := checkCount "sorted" 1 1 _) (wpAny_pure ?_); refine wpAny_bind (collect_list hl ?_ (by omega)); refine wpAny_bind (wpAny_newList ?_ (by omega))
 have hsz : ((s.heap.push (seqObj "list" #[] 0)).update s.heap.objs.size (Obj.mapSeq (· ++ its.toArray))).objs.size = s.heap.objs.size + 1 := by rw [Heap.size_update, size_push']
 have hob : (((s.heap.push (seqObj "list" #[] 0)).update s.heap.objs.size (Obj.mapSeq (· ++ its.toArray))).push (seqObj "list" its.toArray 0)).get? (s.heap.objs.size + 1) = some (seqObj "list" its.toArray 0) := by rw [<- hsz]; exact Heap.get?_push_size _ rfl
 have keep : ∀ b o, s.heap.get? b = some o -> (((s.heap.push (seqObj "list" #[] 0)).update s.heap.objs.size (Obj.mapSeq (· ++ its.toArray))).push (seqObj "list" its.toArray 0)).get? b = some o := fun b o e =>
  Heap.get?_push_of_some _ ((Heap.get?_update_ne _ _ _ _ (Nat.ne_of_lt (Heap.lt_size e))).trans (Heap.get?_push_of_some _ e))
 have hsz2 : (((s.heap.push (seqObj "list" #[] 0)).update s.heap.objs.size (Obj.mapSeq (· ++ its.toArray))).push (seqObj "list" its.toArray 0)).objs.size = s.heap.objs.size + 2 := by rw [size_push', hsz]
 show wpAny _ _ _ _ _ { s with heap := ((s.heap.push (seqObj "list" #[] 0)).update s.heap.objs.size (Obj.mapSeq (· ++ its.toArray))).push (seqObj "list" its.toArray 0) }
 rw [hsz]
 generalize ((s.heap.push (seqObj "list" #[] 0)).update s.heap.objs.size (Obj.mapSeq (· ++ its.toArray))).push (seqObj "list" its.toArray 0) = h2 at hob keep hsz2
 obtain ⟨D, hDe⟩ : ∃ D : Nat, s.heap.objs.size + 1 = D := ⟨_, rfl⟩
 rw [hDe] at hob ⊢
 refine wpAny_bind (wpAny_holding (wpAny_call_entry_kw slot_list_sort ⟨_, hob, rfl⟩ entry_list_sort ?body (Jo _ _)))
 case body =>
  show wpAny (model X.prog X.w) X.A.in1.in1 (Builtin.«list.sort» ⟨[.ref D], [(Str.ofString "key", .ref f)]⟩) _ _ _
  rw [ksk_t1]
  unfold ksk_tree
  refine wpAny_bind (listItems_at hob rfl ?_)
  refine wpAny_bind (listUpdate_at hob rfl ?_ (by rw [List.size_toArray, sizeLine_eq]; omega) (Nat.zero_le _))
  obtain ⟨e1, hob1⟩ : ∃ e1, (h2.update D (Obj.mapSeq fun _ => #[])).get? D = some (seqObj "list" #[] e1) := ⟨_, get?_update_seq hob (fun _ => #[])⟩
  refine wpAny_bind (seqEpoch_at hob1 rfl ?_); refine wpAny_bind (wpAny_newTuple ?_ (by show its.length <= _; rw [sizeLine_eq]; omega)); refine wpAny_bind (wpAny_newList ?_ (Nat.zero_le _)); refine wpAny_holding ?_
  have hkS : ((h2.update D (Obj.mapSeq fun _ => #[])).push (seqObj "tuple" its.toArray 0)).objs.size = s.heap.objs.size + 3 := by rw [size_push', Heap.size_update, hsz2]
  have keep4 : ∀ b o, s.heap.get? b = some o -> (((h2.update D (Obj.mapSeq fun _ => #[])).push (seqObj "tuple" its.toArray 0)).push (seqObj "list" #[] 0)).get? b = some o := fun b o e => by
   have h9 : b < s.heap.objs.size := Heap.lt_size e
   have hb : b ≠ D := Nat.ne_of_lt (Nat.lt_trans h9 (by omega))
   exact Heap.get?_push_of_some _ (Heap.get?_push_of_some _ ((Heap.get?_update_ne _ _ _ _ hb).trans (keep b o e)))
  have hD4 : (((h2.update D (Obj.mapSeq fun _ => #[])).push (seqObj "tuple" its.toArray 0)).push (seqObj "list" #[] 0)).get? D = some (seqObj "list" #[] e1) := Heap.get?_push_of_some _ (Heap.get?_push_of_some _ hob1)
  have hk4 : (((h2.update D (Obj.mapSeq fun _ => #[])).push (seqObj "tuple" its.toArray 0)).push (seqObj "list" #[] 0)).get? (s.heap.objs.size + 3) = some (seqObj "list" #[] 0) := by rw [<- hkS]; exact Heap.get?_push_size _ rfl
  show wpAny _ _ _ _ _ { s with heap := ((h2.update D (Obj.mapSeq fun _ => #[])).push (seqObj "tuple" its.toArray 0)).push (seqObj "list" #[] 0) }
  dsimp only
  rw [hkS]
  generalize ((h2.update D (Obj.mapSeq fun _ => #[])).push (seqObj "tuple" its.toArray 0)).push (seqObj "list" #[] 0) = h4 at keep4 hD4 hk4
  obtain ⟨kS, hkSe⟩ : ∃ kS : Nat, s.heap.objs.size + 3 = kS := ⟨_, rfl⟩
  rw [hkSe] at hk4 ⊢
  have hDk : D ≠ kS := Nat.ne_of_lt (by omega)
  have hDn : H D = none := I.hok.fresh (by omega)
  have hkn : H kS = none := I.hok.fresh (by omega)
  have I4 : Inv X pins σ (upd H kS (.lst [])) { s with heap := h4, toks := s.toks } := I.laid (t' := s.toks) keep4 (by omega) ⟨Nat.zero_le _, [], 0, .nil, hk4⟩
  have hFp : yo X pins (upd H kS (.lst [])) D := I.fpOk (by omega) ((aF hDk).trans hDn)
  have I5 : Inv X (pins ++ [(D, seqObj "list" #[] e1)]) σ (upd H kS (.lst [])) { s with heap := h4, toks := s.toks } := I4.pins_of fun p hp => by
   rcases List.mem_append.mp hp with hp | hp
   ·exact I4.pin p (List.mem_append_right _ hp)
   ·obtain rfl := List.mem_singleton.mp hp
    exact ⟨hD4, hFp.1, hFp.2.1, hFp.2.2.1, fun v z => by cases z⟩
  unfold ksk_rest
  refine wpAny_bind (wpAny_rule ?_)
  first | rw [List.forIn_toArray] | rw [<- Array.forIn_toList]
  refine wpAny_bind (yc (kf := kf) (H0 := H) (kS := kS) F hr hb (fun x s' D' hx => ?_) hkn ys its [] [] _ _ rv (by rw [List.length_nil]; omega) I5 au (Same.new hkn) (fun y hy => (hK y hy).2) .nil fun kvs H2 s2 I2 hH2 sm2 hp2 => ?_)
  ·refine wpAny_bind (wpAny_attempt (wpAny_mono hx (fun kv s'' hk => ?_) fun _ _ hF => hF.elim))
   obtain ⟨its', n', e', hs', hD'⟩ := hk
   try dsimp only
   refine wpAny_bind (listUpdate_at e' rfl ?_ (by rw [sizeLine_eq]; omega) (Nat.le_trans (Nat.le_of_eq (Array.size_push ..)) (by rw [sizeLine_eq]; omega)))
   exact wpAny_pure ⟨rfl, hD'⟩
  ·obtain ⟨z, ks, n, rk, hkl0, e⟩ := I2.lstM hH2
   have hkl : ys.length = kvs.length := Paired.length hp2
   try dsimp only
   refine wpAny_bind (listItems_at e rfl ?_)
   have hpD := I2.pin (D, seqObj "list" #[] e1) (List.mem_append_right _ (List.mem_append_right _ (List.mem_singleton.mpr rfl)))
   refine Ci (G := fun p => Prm its.length p /\ Bj ys kf p) (fun i => kf (ys.getD i .non)) (by omega) (by omega) e hpD.1 hDk (fun i hi => ?_) (fun hn => hil ▸ DX (by omega)) (fun h2 => ⟨List.Perm.refl _, fun m _ _ a b hab hb => absurd hab (by omega)⟩) (fun p hp => hp.1) fun p hp3 => ⟨_, rfl, wpAny_pure ⟨_, rfl, ?_⟩⟩
   ·have hm : ys.getD i .non ∈ ys := by
     have : i < ys.length := by omega
     simp [this]
    obtain ⟨t, e2, e3⟩ := nD (d1 := V.non) (d2 := V.non) hp2 (i := i) (by rw [List.nil_append]; omega)
    rw [List.nil_append] at e3
    obtain ⟨tv, rt, it, hz'⟩ := I2.tuple (SqT.of e3)
    obtain ⟨o, ho, hc, m, hd⟩ := it
    refine ⟨(hK _ hm).1, t, o, tv.toArray, m, ?_, ho, hc, hd, rt⟩
    have := jA rk (i := i) (by omega)
    rw [e2] at this
    exact this
   ·obtain ⟨hp, hord⟩ := hp3
    have hin : ∀ i ∈ p.toList, i < ys.length := fun i hi => by
     have := List.mem_range.mp (hp.mem_iff.mp hi)
     omega
    have hpl : p.toList.length = its.length := by rw [hp.length_eq]; simp
    have hzs : (p.toList.map fun i => ys.getD i V.non).Perm ys := by
     have := hp.map fun i => ys.getD i V.non
     rw [<- hil, nJ] at this
     exact this
    have I3 := (I2.lset (t' := s2.toks) (its' := []) (f := fun _ => #[]) hH2 e rfl .nil (Nat.zero_le _)).unpinned
    have hFp3 : yo X pins (upd H2 kS (.lst [])) D := ⟨(aF hDk).trans hpD.2.1, hFp.2⟩
    have hD3 : (s2.heap.update kS (Obj.mapSeq fun _ => #[])).get? D = some (seqObj "list" #[] e1) := (Heap.get?_update_ne _ _ _ _ hDk).trans hpD.1
    obtain ⟨c, hc⟩ : ∃ c, ((s2.heap.update kS (Obj.mapSeq fun _ => #[])).update D (Obj.mapSeq fun _ => List.toArray (p.toList.map fun i => its.getD i Value.none))).get? D = some (seqObj "list" (List.toArray (p.toList.map fun i => its.getD i Value.none)) c) := ⟨_, get?_update_seq hD3 _⟩
    refine ⟨.ref D, _, I3.adopt (t' := s2.toks) (zs := p.toList.map fun i => ys.getD i V.non) hFp3 (fun b o hb e => (Heap.get?_update_ne _ _ _ _ hb).trans e) hc (oM rv hin) (by rw [List.length_map, hpl, sizeLine_eq]; omega), rfl, q _ _ _ ?_ hDn au hzs fun m h1 h2 => ?_⟩
    ·exact ((sm2.upd hkn).upd hDn)
    ·refine List.pairwise_iff_getElem.mpr fun i j hi hj hij => ?_
     rw [List.length_map, hpl, <- hil] at hj
     have h3 := hord m h1 h2 i j hij hj
     have hs : p.size = ys.length := by rw [<- Array.length_toList, hpl, hil]
     have e1 : p.getD i 0 = p.toList[i]'(by rw [Array.length_toList]; omega) := by simp [Array.getD, show i < p.size by omega]
     have e2 : p.getD j 0 = p.toList[j]'(by rw [Array.length_toList]; omega) := by simp [Array.getD, show j < p.size by omega]
     rw [e1, e2] at h3
     rw [List.getElem_map, List.getElem_map]
     exact h3
def yw (K : Fg_) (sp : Sp) (t : TA) : TE := fun σ H Q => t σ H fun vs H1 => ∃ x, vs = [x] /\ vJ K sp x H1 Q
theorem qZ {e : Expr} {t : TA} {g : Str} {p kp kpos pos : Pos} (F : FnOk X.prog X.w X.K X.mg X.base CX0 k f fd ps sp) (hr : Room (k + 2) X.A) (hb : Binds X.K fd ps []) (hgs : Gl X "sorted") (hms : X.mg "sorted" = none) (hvs : bootBuiltins "sorted" = some (.builtin "sorted"))
  (hg : Gl X g) (hm : X.mg g = some (.ref f)) (ha : PA X [e] t) (hdb : (g == ("__debug__" : Str)) = false := by decide)
  (he : backTo pos (starEach [e] X.env) = (false, eval e X.env) :: backTo pos (starEach [] X.env) := by rfl) (hpl : (backTo pos (starEach [e] X.env)).any (·.1) = false := by rfl) :
  PE X (.Call (.Name "sorted" p) [e] [⟨some "key", .Name g kp, kpos⟩] pos) (yw X.K sp t) := by
 intro pins s σ H Q I h
 refine wpAny_Call_Name_kw (pH I hgs hms hvs ?_)
 refine callWith_kw (thn (ha pos pins s σ H _ I h) fun us s1 ⟨vs, H1, I1, r, x, ex, q⟩ => ?_) he hpl
 subst ex
 obtain ⟨u, rfl, rx⟩ := vals1 r
 have hk : PK X [⟨some "key", .Name g kp, kpos⟩] (Fx (tC (.ref f)) JN) := HS (fj hg hm rfl hdb) Ke
 refine thn (hk pos pins s1 σ H1 (fun zs H2 => zs = [.ref f] /\ H2 = H1) I1 ⟨rfl, rfl⟩) fun ws s2 ⟨zs, H2, I2, rz, e1, e2⟩ => ?_
 subst e1 e2
 obtain ⟨w1, rfl, rw1⟩ := vals1 rz
 cases rw1
 exact yZ F hr hb I2 rx q
theorem nU {K : Fg_} {e : Expr} {t : TA} {g : Str} {p kp kpos pos : Pos} (hK : X.K = K) (h : PE X (.Call (.Name "sorted" p) [e] [⟨some "key", .Name g kp, kpos⟩] pos) (yw X.K sp t)) : PE X (.Call (.Name "sorted" p) [e] [⟨some "key", .Name g kp, kpos⟩] pos) (yw K sp t) := hK ▸ h
theorem ap_tSortK {K : Fg_} {sp : Sp} {t : TA} {σ : St} {H : Hp} {Q : VK} : yw K sp t σ H Q = t σ H fun vs H1 => ∃ x, vs = [x] /\ vJ K sp x H1 Q := rfl
theorem ap_rSortK {K : Fg_} {sp : Sp} {a : Addr} {H : Hp} {Q : VK} : vJ K sp (.ref a) H Q = ∃ (ys : List V) (kf : V -> List Int), SqL K H a ys /\ ys.length < 64 /\ (∀ y ∈ ys, kf y ≠ [] /\ Je sp kf H y) /\
  ∀ p zs H', Same H H' -> H p = none -> H' p = some (.lst zs) -> zs.Perm ys -> (∀ m, (∀ y ∈ ys, (kf y).length = m) -> (ys.map kf).Nodup -> zs.Pairwise fun y z => ig (kf y) (kf z) false = true) -> Q (.ref p) H' := by simp [vJ]
end
end L2
namespace L2
open PySem PySem.W PySem.Spec PyProof.Rows
section
variable {X : Cx}
def Mr (K : Fg_) : R2 := fun x y H Q => ∃ (a b : Addr) (xs ys : List V), x = .ref a /\ y = .ref b /\ SqL K H a xs /\ SqL K H b ys /\ ((xs.length ≠ ys.length /\ Q (.bl false) H) \/ (xs = ys /\ (∀ v ∈ xs, ∃ c, v = .ref c) /\ Q (.bl true) H))
theorem uI {A : Around} {s : Shared} : ∀ {xs : List V} {us us2 : List Value}, (∀ v ∈ xs, ∃ c, v = .ref c) -> Vals xs us -> Vals xs us2 -> us = us2
 | _, _, _, _, .nil, .nil => rfl
 | _, _, _, h, .cons r1 t1, .cons r2 t2 => by
  obtain ⟨c, rfl⟩ := h _ List.mem_cons_self
  cases r1
  cases r2
  rw [uI (A := A) (s := s) (fun v hv => h v (List.mem_cons_of_mem _ hv)) t1 t2]
theorem LR {k : Nat} (hr : Room k X.A) : OpR X (compareOp .Eq) (Mr X.K) := by
 intro pins s σ H x y v u Q I rx ry h
 obtain ⟨a, b, xs, ys, rfl, rfl, h1, h2, h⟩ := h
 have hr' := hr.units
 have hu' : X.A.units < cLine := by omega
 cases rx
 cases ry
 obtain ⟨its, rv, p, _⟩ := I.list h1
 obtain ⟨its2, rv2, p2, _⟩ := I.list h2
 have l1 := rv.length
 have l2 := rv2.length
 rcases h with ⟨hn, q⟩ | ⟨rfl, hc, q⟩
 ·exact SeqAt.RcAt.lists_lengths p.isList p2.isList (by simp only [List.size_toArray, bne_iff_ne]; omega) hu' X.prog X.w X.xe _ ⟨.bl _, H, I, rfl, q⟩
 ·have e := uI (A := X.A) (s := s) hc rv rv2
  subst e
  have := SeqAt.RcAt.lists (A := X.A) (e := fun _ => true) p.isList p2.isList rfl hu' (fun j _ _ => SeqAt.EqAt.same _)
  rw [show ((List.range its.toArray.size).all fun _ => true) = true by simp] at this
  exact this X.prog X.w X.xe _ ⟨.bl _, H, I, rfl, q⟩
theorem HW {K : Fg_} {k : Nat} (hr : Room k X.A) (hK : X.K = K := by rfl) : OpR X (compareOp .Eq) (Mr K) := hK ▸ LR hr
theorem ap_eqR {K : Fg_} {a b : Addr} {H : Hp} {Q : VK} : Mr K (.ref a) (.ref b) H Q = ∃ (xs ys : List V), SqL K H a xs /\ SqL K H b ys /\ ((xs.length ≠ ys.length /\ Q (.bl false) H) \/ (xs = ys /\ (∀ v ∈ xs, ∃ c, v = .ref c) /\ Q (.bl true) H)) := by simp [Mr]
end
end L2
namespace L2
open PySem PySem.Spec PyProof.Rows
theorem Bv {α β : Type} {f : α -> Option β} {g : α -> β} : ∀ {l : List α}, (∀ k ∈ l, f k = some (g k)) -> l.filterMap f = l.map g
 | [], _ => rfl
 | x :: l, h => by
  rw [List.filterMap_cons, h x List.mem_cons_self, List.map_cons, Bv fun k hk => h k (List.mem_cons_of_mem _ hk)]
theorem Fj (items : Array Value) : (slicePick items none none (some (-1))).toList = items.toList.reverse := by
 unfold slicePick sliceBounds sliceRange
 simp only [Option.getD_some]
 rw [if_neg (by decide), if_neg (by decide)]
 by_cases h0 : items.size = 0
 ·have : items.toList = [] := List.length_eq_zero_iff.mp (by simpa using h0)
  rw [this]
  simp [h0]
 ·rw [if_neg (show ¬ (-1 : Int) > 0 by decide)]
  try rw [if_neg (show ¬ (-1 : Int) > 0 by decide)]
  rw [if_pos (by omega)]
  rw [show ((items.size : Int) - 1 - -1 - -1 - 1) / - -1 = items.size by rw [show (- -1 : Int) = 1 from rfl, Int.ediv_one]; omega, Int.toNat_natCast, List.toList_toArray, List.filterMap_map]
  refine List.ext_getElem? fun i => ?_
  by_cases hi : i < items.size
  ·have hm : List.filterMap ((fun x => items[x]?) ∘ fun k : Nat => ((items.size : Int) - 1 + -1 * (k : Int)).toNat) (List.range items.size) = (List.range items.size).map fun k => items.toList.getD (items.size - 1 - k) Value.none := by
    refine Bv fun k hk => ?_
    have hk := List.mem_range.mp hk
    have e : ((items.size : Int) - 1 + -1 * (k : Int)).toNat = items.size - 1 - k := by omega
    show items[((items.size : Int) - 1 + -1 * (k : Int)).toNat]? = some _
    rw [e]
    have : items.size - 1 - k < items.size := by omega
    simp [this]
   rw [hm, List.getElem?_map, List.getElem?_range hi, List.getElem?_reverse (by simpa using hi)]
   have h2 : items.toList.length - 1 - i < items.toList.length := by rw [Array.length_toList]; omega
   rw [List.getElem?_eq_getElem h2]
   simp [show items.size - 1 - i < items.size by omega]
  ·have h1 : (items.toList.reverse)[i]? = none := List.getElem?_eq_none (by simpa using hi)
   rw [h1]
   refine List.getElem?_eq_none ?_
   refine Nat.le_trans (List.length_filterMap_le _ _) ?_
   rw [List.length_range]
   omega
theorem FJ {xs : List V} {us : List Value} (h : Vals xs us) : Vals xs.reverse us.reverse := by
 induction h with
 | nil => exact .nil
 | cons r _ ih =>
  rw [List.reverse_cons, List.reverse_cons]
  exact ih.append (.cons r .nil)
section
variable {X : Cx}
def Dg (K : Fg_) (te ts : TE) : TE := fun σ H Q => te σ H fun x H1 => ts σ H1 fun y H2 => ∃ a xs, x = .ref a /\ y = .int (-1) /\ SqL K H2 a xs /\ ∀ p, H2 p = none -> Q (.ref p) (upd H2 p (.lst xs.reverse))
theorem wg {e st : Expr} {te ts : TE} {p2 pos : Pos} (he : PE X e te) (hs : PE X st ts) (hgo : ∀ o r, letTemporaryGo e o r = pure ()) : PE X (.Subscript e (.Slice none none (some st) p2) pos) (Dg X.K te ts) := by
 intro pins s σ H Q I h
 refine wpAny_Subscript_Slice_step (T := "list") slot_list_getitem.lookup (thn (he pins s σ H _ I h) fun v s1 ⟨x, H1, I1, r1, q1⟩ => ?_) hgo
 refine wpAny_Slice ?_
 rw [evalPart_none]
 refine wpAny_pure (wpAny_pure ?_)
 show wpAny _ _ (eval st X.env) _ _ _
 refine thn (hs pins s1 σ H1 _ I1 q1) fun u s2 ⟨y, H2, I2, r2, a, xs, ex, ey, hx, q⟩ => ?_
 subst ex ey
 cases r1
 obtain ⟨t, rfl⟩ := r2
 have I4 : Inv X pins σ H2 { s2 with heap := s2.heap.push { cls := .type "slice", data := .fields #[.none, .none, .int (-1) t] } } := I2.kept (t' := s2.toks) fun b ob q => Heap.get?_push_of_some _ q
 obtain ⟨its, r, ht, hz⟩ := I4.list hx
 have hlen := r.length
 refine ⟨ht.isList.typeIs, wpAny_getItem_list_slice ht.isList (Heap.IsSliceOf.new ..) .none .none (.int _ _) (by decide) ?_ (by rw [List.size_toArray] <;> omega)⟩
 refine ⟨.ref _, _, I4.laid (t' := s2.toks) (o := .lst xs.reverse) (fun b ob q => Heap.get?_push_of_some _ q) (Nat.le_refl _) ?_, rfl, q _ (I4.hok.fresh (Nat.le_refl _))⟩
 refine ⟨by rw [List.length_reverse]; exact hz, its.reverse, 0, FJ r, ?_⟩
 rw [Heap.get?_push_size _ rfl]
 have e := Fj its.toArray
 rw [List.toList_toArray] at e
 rw [<- e, Array.toArray_toList]
theorem ap_slRev {K : Fg_} {te ts : TE} {σ : St} {H : Hp} {Q : VK} : Dg K te ts σ H Q = te σ H fun x H1 => ts σ H1 fun y H2 => ∃ a xs, x = .ref a /\ y = .int (-1) /\ SqL K H2 a xs /\ ∀ p, H2 p = none -> Q (.ref p) (upd H2 p (.lst xs.reverse)) := rfl
theorem tU {K : Fg_} {e st : Expr} {te ts : TE} {p2 pos : Pos} (he : PE X e te) (hs : PE X st ts) (hgo : ∀ o r, letTemporaryGo e o r = pure () := by intros; rfl) (hK : X.K = K := by rfl) : PE X (.Subscript e (.Slice none none (some st) p2) pos) (Dg K te ts) := hK ▸ wg he hs hgo
end
end L2
namespace L2
open PySem PySem.W PySem.Spec PySem.Calls PyProof.Rows
def SameX (Pt : Addr) (H H' : Hp) : Prop := ∀ b o, b ≠ Pt -> H b = some o -> H' b = some o
theorem SameX.trans {Pt : Addr} {H H1 H2 : Hp} (h : SameX Pt H H1) (k : SameX Pt H1 H2) : SameX Pt H H2 := fun b o n e => k b o n (h b o n e)
end L2
namespace L2
open PySem PySem.W PySem.Spec PySem.Calls PyProof.Rows
structure Apart3 (z TI TO i1 i2 i3 l1 l2 l3 : Addr) : Prop where
 zz : TI ≠ z /\ TO ≠ z /\ i1 ≠ z /\ i2 ≠ z /\ i3 ≠ z /\ l1 ≠ z /\ l2 ≠ z /\ l3 ≠ z
 to : TI ≠ TO /\ i1 ≠ TO /\ i2 ≠ TO /\ i3 ≠ TO /\ l1 ≠ TO /\ l2 ≠ TO /\ l3 ≠ TO
 ii : i1 ≠ i2 /\ i1 ≠ i3 /\ i2 ≠ i3
 j1 : TI ≠ i1 /\ l1 ≠ i1 /\ l2 ≠ i1 /\ l3 ≠ i1
 j2 : TI ≠ i2 /\ l1 ≠ i2 /\ l2 ≠ i2 /\ l3 ≠ i2
 j3 : TI ≠ i3 /\ l1 ≠ i3 /\ l2 ≠ i3 /\ l3 ≠ i3
end L2
namespace L2
open PySem PySem.W PySem.Spec PyProof.Rows
theorem ap_break {D : Ends} {σ : St} {H : Hp} : GK D σ H = D.bk σ H := rfl
end L2
namespace L2
open PySem PySem.W PySem.Spec PySem.Calls PyProof.Rows
section
variable {X : Cx}
def yq (K : Fg_) : List V -> Hp -> VK -> Prop := fun xs H Q => ∃ (a : Addr) (ns : List Int), xs = [.ref a] /\ SqL K H a (ns.map V.int) /\ ns.length < 64 /\
 ∀ p (ms : List Int), H p = none -> ms.Perm ns -> (ms.Pairwise fun x y => x <= y) -> Q (.ref p) (upd H p (.lst (ms.map V.int)))
theorem yU : dM X (.builtin "sorted") (yq X.K) := by
 intro pins s σ H xs us Q I r h
 obtain ⟨a, ns, rfl, hq, hlen, q⟩ := h
 obtain ⟨u, rfl, rx⟩ := vals1 r
 cases rx
 obtain ⟨its, rv, pl, hz⟩ := I.list hq
 have hi : IntsAre its ns := intsAre_of rv
 have hil : its.length = ns.length := by rw [<- rv.length, List.length_map]
 refine sorted_ints pl.isList hi (by omega) fun out ms h1 h2 h3 => ?_
 obtain ⟨c, hc⟩ := sortedAll_at s.heap its out
 refine ⟨.ref (s.heap.objs.size + 1), _, I.laid (t' := s.toks) (o := .lst (ms.map V.int)) (fun b o e => sortedAll_old e) (Nat.le_succ _) ?_, rfl, q _ _ (I.hok.fresh (Nat.le_succ _)) h2 h3⟩
 refine ⟨by rw [List.length_map, h2.length_eq, sizeLine_eq]; omega, out.toList, c, pP h1, ?_⟩
 rw [hc, Array.toArray_toList]
theorem wk {K : Fg_} (hK : X.K = K := by rfl) : dM X (.builtin "sorted") (yq K) := hK ▸ yU
theorem ap_rSortI {K : Fg_} {a : Addr} {H : Hp} {Q : VK} : yq K [.ref a] H Q = ∃ (ns : List Int), SqL K H a (ns.map V.int) /\ ns.length < 64 /\
 ∀ p (ms : List Int), H p = none -> ms.Perm ns -> (ms.Pairwise fun x y => x <= y) -> Q (.ref p) (upd H p (.lst (ms.map V.int))) := by simp [yq]
end
end L2
namespace L2
open PySem PySem.W PySem.Spec PySem.Calls PyProof.Rows
def mF (v a : Addr) : HO := .ext fun h => h.IsItemsView v a
def Iti (a : Addr) (o : Obj) (kvs : List (Key × V)) : It := ⟨fun i H => H a = some (.frz o (.dK kvs)) /\ i < kvs.length, fun i H x H' => ∃ p k v, H p = none /\ x = .ref p /\ H' = upd H p (.tup [kV k, v]) /\ kvs[i]? = some (k, v), fun i H => H a = some (.frz o (.dK kvs)) /\ kvs.length <= i⟩
theorem Gh : entryFor table "dict_itemiterator.__iter__" = some Builtin.«dict_keyiterator.__iter__» := entryFor_alias (id' := "dict_keyiterator.__iter__") (by kernel_rfl) (by decide +kernel) (by decide +kernel) (by kernel_rfl)
theorem xG {P : Program} {w : World} {A : Around} {E : Value -> Shared -> Prop} {s : Shared} {it d : Addr} {i n ep : Nat} {ok ov : Value} {Q : Value -> Shared -> Prop} (hit : IsItemIter s.heap it d i n ep ok ov) (h : Q (.ref it) s) : wpAny (model P w) A (pyIter (.ref it)) Q E s := by
 have hT : s.TypeIs (.ref it) "dict_itemiterator" := ⟨_, hit, rfl⟩
 refine wpAny_pyIter_slot hT F.slot_dict_itemiterator_iter (wpAny_call_entry F.slot_dict_itemiterator_iter hT Gh ?_ (F.args_dict_itemiterator_iter_1 _))
 show wpAny _ _ (ret (.ref it)) _ _ s; exact wpAny_pure ⟨_, rfl, "dict_itemiterator", _, hT, F.slot_dict_itemiterator_next.lookup, h⟩
theorem Hj {P : Program} {w : World} {k : Key} {u : Value} (h : (bh P w).is k u = true) : RelV (kV k) u := by
 rcases bY h with ⟨i, t, rfl, rfl⟩ | ⟨x, t, rfl, rfl⟩
 ·exact ⟨t, rfl⟩
 ·exact ⟨t, rfl⟩
theorem zf {P : Program} {w : World} {K : Fg_} {elts : List Expr} {x1 : Nat} {pos : Pos} {a it : Addr} {o : Obj} {kvs : List (Key × V)} {es : Array DictEntry} {ep : Nat} (hdat : o.data = .dict es ep) : Turn P w K (.Tuple elts x1 pos) (Iti a o kvs) [it] it (fun i h => ∃ ok ov, IsItemIter h it a i kvs.length ep ok ov) where
 mem := by simp
 obj := fun i h st b hb => by
  obtain rfl : b = it := by simpa using hb
  obtain ⟨ok, ov, e⟩ := st
  exact ⟨_, e, fun v z => by cases z⟩
 keep := fun i h h' st k => let ⟨ok, ov, e⟩ := st; ⟨ok, ov, k it (by simp) _ e⟩
 item := by
  intro X hP hw hK hc i pins s σ H E I hf st hg
  subst hP hw hK
  obtain ⟨hg1, hg2⟩ := hg
  obtain ⟨vs, rel, hat⟩ := xN I hg1 hdat
  have hvl : kvs.length = vs.length := Paired.length rel
  obtain ⟨⟨k0, v0⟩, hx⟩ : ∃ q, vs[i]? = some q := ⟨_, List.getElem?_eq_getElem (by omega)⟩
  obtain ⟨p, hp, e1, e2⟩ := iU rel hx
  obtain ⟨ok, ov, hit⟩ := st
  rw [hvl] at hit
  refine wpAny_pyNext_items_item hit hat (k := k0) (v := v0) hx fun key h' hkey hout htup hsz hkeep => ?_
  refine ⟨_, rfl, wpAny_letOwnedTupleGo_items (s := { s with heap := h' }) hout fun h'' hit'' sb => ?_⟩
  have nit : s.heap.objs.size ≠ it := Nat.ne_of_gt (Heap.lt_size hit)
  have k : ∀ c o, c ∉ [it] -> s.heap.get? c = some o -> h''.get? c = some o := fun c o hc e => by
   have hc' : c ≠ it := by simpa using hc
   exact (sb.2 c hc').trans (hkeep c o hc' e)
  have hTup : h''.get? s.heap.objs.size = some { cls := .type "tuple", data := .seq #[key, v0] } := (sb.2 _ nit).trans htup
  rw [<- hvl] at hit''
  refine ⟨.ref s.heap.objs.size, upd H s.heap.objs.size (.tup [kV p.1, p.2]), I.turnedT (t' := s.toks) hf (Nat.le_refl _) k ⟨by rw [sizeLine_eq]; simp, [key, v0], .cons (Hj (by rw [show p.1 = k0 from e1]; exact hkey)) (.cons e2 .nil), _, hTup, rfl, _, rfl⟩, rfl,
   ⟨_, p.1, p.2, I.hok.fresh (Nat.le_refl _), rfl, rfl, hp⟩, ⟨_, _, hit''⟩, fun c hb => ?_⟩
  obtain rfl : c = it := by simpa using hb
  rw [aF (Nat.ne_of_lt (Heap.lt_size hit))]
  exact (hf c hb).1
 done := by
  intro X hP hw hK hc i pins s σ H E I hf st hg
  subst hP hw hK
  obtain ⟨hg1, hg2⟩ := hg
  obtain ⟨vs, rel, hat⟩ := xN I hg1 hdat
  have hvl : kvs.length = vs.length := Paired.length rel
  obtain ⟨ok, ov, hit⟩ := st
  rw [hvl] at hit
  obtain ⟨f0, f1, f2, f3, f4, f5⟩ := hf it (by simp)
  exact wpAny_pyNext_items_end (I.ok.hd hc) hit hat (by simp; omega) fun h' eb => ⟨rfl, I.turned (t' := s.toks) (fun b o hb e => eb b o hb e) f0 f1 f3 f4 f5⟩
 self := fun _ _ _ _ _ ⟨_, _, st⟩ h => xG st h
section
variable {X : Cx} {elts : List Expr} {x1 : Nat} {tpos : Pos}
def Hl (tl : TE) : TI := fun σ H R => tl σ H fun x H1 => ∃ v a kvs, x = .ref v /\ H1 v = some (mF v a) /\ H1 a = some (.dK kvs) /\ ∀ o, R (Iti a o kvs) (upd H1 a (.frz o (.dK kvs)))
theorem yd {l : Expr} {tl : TE} (hl : PE X l tl) : PI X (.Tuple elts x1 tpos) l (Hl tl) := by
 intro pins s σ H R I h
 refine thn (hl pins s σ H _ I h) fun u s1 ⟨x, H1, I1, r1, v, a, kvs, ex, hv, ha, q⟩ => ?_
 subst ex
 cases r1
 obtain ⟨hview, _, _⟩ := (show ObjOk X.prog X.w H1 s1.heap v (mF v a) from I1.hok v _ hv)
 obtain ⟨z, hsys, vs, rel, o, es, ep, q1, q2, q3, q4⟩ := (show ObjOk X.prog X.w H1 s1.heap a (.dK kvs) from I1.hok a _ ha)
 have hvl : kvs.length = vs.length := Paired.length rel
 have hat : s1.heap.DictAt (bh X.prog X.w) a vs ep := ⟨o, es, q1, q2, q3, q4⟩
 refine wpAny_pyIter_items hview hat ?_
 have I2 : Inv X pins σ (upd H1 a (.frz o (.dK kvs))) s1 := I1.write (t' := s1.toks) (h' := s1.heap) (by rw [ha]; exact True.intro) (.inl rfl) (fun b u _ e => e) ⟨o, q1⟩ (show ObjOk X.prog X.w _ s1.heap a (.frz o (.dK kvs)) from ⟨q1, z, hsys, vs, rel, o, es, ep, q1, q2, q3, q4⟩)
 refine ⟨s1.heap.objs.size, [s1.heap.objs.size], _, _, _, rfl, I2.kept (t' := s1.toks) fun b o e => Heap.get?_push_of_some _ e, zf q3, ⟨.none, .none, by rw [hvl]; exact Heap.get?_push_size _ rfl⟩, fun b hb => ?_, q o⟩
 obtain rfl : b = s1.heap.objs.size := by simpa using hb
 exact I2.fpOk (Nat.le_refl _) (I2.hok.fresh (Nat.le_refl _))
def Ea : V -> List V -> Hp -> VK -> Prop := fun x vs H Q => ∃ a kvs, x = .ref a /\ vs = [] /\ H a = some (.dK kvs) /\ ∀ v, H v = none -> Q (.ref v) (upd H v (mF v a))
theorem xR : MtR X "dict.items" Ea := by
 intro pins s σ H x vs v us Q I rx rv h
 obtain ⟨a, kvs, rfl, rfl, ha, q⟩ := h
 cases rx
 have hus := rv.zero
 subst hus
 obtain ⟨z, hsys, ws, rel, dd⟩ := DQ I.hok ha
 refine call_meetsIn PySem.F.slot_dict_items dd.typeIs PySem.F.entry_dict_items (PySem.F.args_dict_items_1 _) (meets_dict_items (bh X.prog X.w) a hsys) ⟨⟨ws, dd⟩, ?_⟩
 have hg : (s.heap.push { cls := .type "dict_items", data := .fields #[.ref a] }).IsItemsView s.heap.objs.size a := ⟨_, Heap.get?_push_size _ rfl, rfl, rfl⟩
 exact ⟨.ref s.heap.objs.size, _, I.laid (a := s.heap.objs.size) (o := mF s.heap.objs.size a) (t' := s.toks) (fun b o e => Heap.get?_push_of_some _ e) (Nat.le_refl _) ⟨hg, ⟨_, Heap.get?_push_size _ rfl⟩, fun h1 h2 ⟨ov, e1, e2⟩ k => ⟨ov, k ov e1, e2⟩⟩, rfl, q _ (I.hok.fresh (Nat.le_refl _))⟩
end
section
variable {K : Fg_} {σ : St} {H : Hp} {Q : VK} {R : It -> Hp -> Prop} {tl : TE} {g : TG} {tt : TT} {te : TE} {cap : List (Option Nat)} {a : Addr} {o : Obj} {kvs : List (Key × V)}
theorem ap_iItems : Hl tl σ H R = tl σ H fun x H1 => ∃ v a kvs, x = .ref v /\ H1 v = some (mF v a) /\ H1 a = some (.dK kvs) /\ ∀ o, R (Iti a o kvs) (upd H1 a (.frz o (.dK kvs))) := rfl
theorem ap_rItems : Ea (.ref a) [] H Q = ∃ kvs, H a = some (.dK kvs) /\ ∀ v, H v = none -> Q (.ref v) (upd H v (mF v a)) := by simp [Ea]
theorem CompP.itemsF (Sσ : St -> Prop) (fil : Key × V -> Bool) (F : Key × V -> V -> Hp -> Prop) (hH : H a = some (.frz o (.dK kvs))) (h0 : Sσ (iH σ cap)) (hz : kvs.length <= sizeLine)
  (hs : ∀ (D : Addr) (i : Nat) (kv : Key × V), kvs[i]? = some kv -> ∀ (σ : St) (H5 : Hp) (p : Addr) (R1 : St -> VK) (R2 : St -> Hp -> Prop), Sσ σ -> Same H H5 -> H D = Option.none -> (∃ acc, H5 D = some (.lst acc)) -> H5 p = Option.none ->
   (fil kv = true -> ∀ v σ4 H6, Sσ σ4 -> Same (upd H5 p (.tup [kV kv.1, kv.2])) H6 -> (∀ H', But D H6 H' -> F kv v H') -> R1 σ4 v H6) -> (fil kv = false -> ∀ σ4 H6, Sσ σ4 -> Same (upd H5 p (.tup [kV kv.1, kv.2])) H6 -> R2 σ4 H6) ->
   g (.ref p) σ (upd H5 p (.tup [kV kv.1, kv.2])) fun σ4 H4 => tt σ4 H4 fun b H5 => if b = true then te σ4 H5 (R1 σ4) else R2 σ4 H5)
  (k : ∀ D H' acc, H D = Option.none -> Same H H' -> H' D = some (.lst acc) -> acc.length = (kvs.filter fil).length -> (∀ (i : Nat) v, acc[i]? = some v -> ∃ kv, (kvs.filter fil)[i]? = some kv /\ F kv v H') -> Q (.ref D) H') : CompP cap (Iti a o kvs) g tt te σ H Q := by
 intro D hD
 refine ⟨fun i m acc σ H2 => m = kvs.length - i /\ i <= kvs.length /\ Sσ σ /\ Same H H2 /\ acc.length = ((kvs.take i).filter fil).length /\ ∀ (j : Nat) v, acc[j]? = some v -> ∃ kv, ((kvs.take i).filter fil)[j]? = some kv /\ ∀ H', But D H2 H' -> F kv v H', ⟨kvs.length, rfl, Nat.zero_le _, h0, Same.new hD, rfl, fun j v e => by simp at e⟩, ?_⟩
 rintro i m acc σ1 H2 ⟨rfl, hi, hσ, sm, hal, hF⟩ hA
 by_cases hlt : i < kvs.length
 ·refine .inr ⟨⟨sm _ _ hH, hlt⟩, fun y H3 hy => ?_⟩
  obtain ⟨p, k0, v0, hp, rfl, rfl, hkv⟩ := hy
  have htk : kvs.take (i + 1) = kvs.take i ++ [(k0, v0)] := by rw [List.take_add_one, hkv]; rfl
  have hle : ((kvs.take i).filter fil).length <= i := Nat.le_trans (List.length_filter_le _ _) (by rw [List.length_take]; omega)
  have sn := Same.new (o := .tup [kV k0, v0]) hp
  refine hs D i (k0, v0) hkv σ1 H2 p _ _ hσ sm hD ⟨_, hA⟩ hp (fun hf v σ4 H6 hσ4 s6 hF6 => ?_) fun hf σ4 H6 hσ4 s6 => ?_
  ·have s26 := sn.trans s6
   have hA6 := s26 _ _ hA
   have hfl : (kvs.take (i + 1)).filter fil = (kvs.take i).filter fil ++ [(k0, v0)] := by rw [htk, List.filter_append, List.filter_cons_of_pos hf]; rfl
   refine ⟨acc, hA6, by omega, kvs.length - (i + 1), by omega, rfl, hlt, hσ4, (sm.trans s26).upd hD, by rw [List.length_append, hal, hfl, List.length_append]; rfl, fun j u hj => ?_⟩
   rw [hfl]
   by_cases hjl : j < acc.length
   ·rw [List.getElem?_append_left hjl] at hj
    obtain ⟨kv, h1, h2⟩ := hF j u hj
    refine ⟨kv, ?_, fun H' hb => h2 H' fun b o hne e => hb b o hne ((aF hne).trans (s26 _ _ e))⟩
    rw [List.getElem?_append_left (by omega)]
    exact h1
   ·rw [List.getElem?_append_right (by omega)] at hj
    have hj0 : j - acc.length = 0 := by
     have := (List.getElem?_eq_some_iff.mp hj).1
     simp at this
     omega
    rw [hj0] at hj
    cases hj
    refine ⟨(k0, v0), ?_, fun H' hb => hF6 H' fun b o hne e => hb b o hne ((aF hne).trans e)⟩
    rw [List.getElem?_append_right (by omega), show j - ((kvs.take i).filter fil).length = 0 by omega]
    rfl
  ·have s26 := sn.trans s6
   have hfl : (kvs.take (i + 1)).filter fil = (kvs.take i).filter fil := by rw [htk, List.filter_append, List.filter_cons_of_neg (by rw [hf]; decide)]; simp
   refine ⟨kvs.length - (i + 1), by omega, acc, s26 _ _ hA, rfl, hlt, hσ4, sm.trans s26, by rw [hfl, hal], fun j u hj => ?_⟩
   rw [hfl]
   obtain ⟨kv, h1, h2⟩ := hF j u hj
   exact ⟨kv, h1, fun H' hb => h2 H' fun b o hne e => hb b o hne (s26 _ _ e)⟩
 ·obtain rfl : i = kvs.length := by omega
  rw [List.take_length] at hal hF
  refine .inl ⟨⟨sm _ _ hH, Nat.le_refl _⟩, k D H2 acc hD sm hA hal fun j v e => ?_⟩
  obtain ⟨kv, h1, h2⟩ := hF j v e
  exact ⟨kv, h1, h2 H2 fun b o _ e => e⟩
end
end L2
namespace L2
open PySem PySem.W PySem.Spec PySem.Calls PyProof.Rows
section
variable {X : Cx}
theorem Inv.thaw {pins : List (Addr × Obj)} {σ : St} {H : Hp} {s : Shared} {a : Addr} {o : Obj} {kvs : List (Key × V)} (I : Inv X pins σ H s) (hH : H a = some (.frz o (.dK kvs))) (hn : ∀ o u, X.H₀ a ≠ some (.frz o u)) : Inv X pins σ (upd H a (.dK kvs)) s := by
 have ne : ∀ b, H b = none -> b ≠ a := fun b n z => by rw [z, hH] at n; cases n
 have nt : ∀ b xs, H b = some (.tup xs) -> b ≠ a := fun b xs n z => by rw [z, hH] at n; cases n
 have nw : ∀ b y, H b = some (.own y) -> b ≠ a := fun b y n z => by rw [z, hH] at n; cases n
 have ntb : ∀ b ps, H b = some (.tbl ps) -> b ≠ a := fun b y n z => by rw [z, hH] at n; cases n
 refine ⟨I.ok, I.os, I.bare, ⟨I.base.keep, I.base.slot, fun b ob q n hx => ?_, I.base.there, fun b xs q => ?_, fun b ob u q => ?_, fun b ps q => ?_⟩, I.loc, I.cell, ?_, fun x c e => ?_, fun p hp => ?_, fun b u e => ?_, I.len⟩
 ·have h := I.base.free b ob q n hx; rw [aF (ne b h)]; exact h
 ·have h := I.base.tups b xs q; rw [aF (nt b xs h)]; exact h
 ·have h := I.base.frzs b ob u q; rw [aF (fun z : b = a => hn ob u (by rw [<- z]; exact q))]; exact h
 ·obtain ⟨m, h⟩ := I.base.tbls b ps q; exact ⟨m, by rw [aF (ntb b _ h)]; exact h⟩
 ·rw [aF (ne _ I.free)]; exact I.free
 ·rw [aF (ne _ (I.freeC x c e))]; exact I.freeC x c e
 ·obtain ⟨p1, p2, p3⟩ := I.pin p hp; exact ⟨p1, by rw [aF (ne _ p2)]; exact p2, p3⟩
 ·by_cases hb : b = a
  ·subst hb
   rw [au] at e; cases e
   obtain ⟨_, q⟩ := (show ObjOk X.prog X.w H s.heap b (.frz o (.dK kvs)) from I.hok b _ hH)
   exact ObjOk.stay q (fun _ _ _ q => q) (fun c q => by rw [aF (nw c _ q)]; exact q) fun c xs q => by rw [aF (nt c xs q)]; exact q
  ·rw [aF hb] at e
   exact (I.hok b u e).stay (fun _ _ _ q => q) (fun c q => by rw [aF (nw c _ q)]; exact q) fun c xs q => by rw [aF (nt c xs q)]; exact q
end
end L2
namespace L2
open PySem PySem.Spec PyProof.Rows
section
variable {prog : Program} {w : World} {A : Around} {E : Value -> Shared -> Prop} {h : Heap} {g : Array GenState} {d : Drawn} {t : Nat} {os : OsState} {a : Addr} {o : Obj}
 {nm q : Str} {C N : Addr} {bs bm bmB : List Value} {hdct : Bool} {sn : List Str} {sub : List Value} {ab : Bool} {col : Option Bool} {dd : Option Addr} {k0 k1 k2 k3 k5 : Option Value} {B newId initId : String} {K : Fg_}
end
end L2
namespace L2
open PySem PySem.Spec PyProof.Rows
structure XClsI (K : Fg_) (C fI : Addr) : Prop where
 ex : ∃ (nm qn : Str) (N : Addr) (bs bm : List Value) (sn : List Str) (sub : List Value) (ab : Bool) (col : Option Bool) (dd : Option Addr) (k0 k1 k2 k3 k5 : Option Value), K.lookup C = some (excClassObj nm qn C N bs bm true sn sub ab col dd k0 k1 k2 k3 k5 "ValueError.__new__") /\ PySem.W.tailIn K [.type "ValueError", .type "Exception", .type "BaseException", .type "object"] bm = true
 ini : PySem.W.findIn K (.ref C) "__init__" = some (some (.ref fI))
 fn : PySem.W.isFn K (.ref fI) = true
 sa : PySem.W.findIn K (.ref C) "__setattr__" = some (some (.builtin "object.__setattr__"))
 kp : PySem.W.keepIn K (.ref C) = true
section
variable {X : Cx} {CX : CXT} {k : Nat} {f C : Addr} {fd : FuncData} {ps ks : List Str} {sp : Sp} {dvs : List V} {ds : List Value} {E : XK} {x m fn : Str} {p np cpos pos apos : Pos} {e o : Expr} {es : List Expr} {ta tv : TE} {t tk : TA}
structure XIni (K : Fg_) (B : Addr) : Prop where
 ga : PySem.W.specialIn K (.ref B) "__getattribute__" = some (some (.builtin "type.__getattribute__"))
 rd : PySem.W.readsIn K B (.type "type") = true
 fi : PySem.W.findCls K (.ref B) (.type "type") "__init__" = some (.val (.builtin "ValueError.__init__"))
theorem uh {i : Int} (h : i.natAbs < 2 ^ 300) : (Str.ofString (toString i)).length <= 400 := by
 have hn : i.natAbs.repr.length <= 300 := nat_repr_length_le (by decide) h
 have hl : ∀ s : String, (Str.ofString s).length = s.length := fun s => PySem.ofString_length s
 rw [hl]
 cases i with
 | ofNat n =>
  have : (toString (Int.ofNat n)) = n.repr := rfl
  rw [this]
  have hn : n.repr.length <= 300 := hn
  omega
 | negSucc n =>
  have : (toString (Int.negSucc n)) = "-" ++ (n + 1).repr := rfl
  rw [this, String.length_append]
  have hn : (n + 1).repr.length <= 300 := hn
  have : "-".length = 1 := rfl
  omega
end
end L2
namespace L2
open PySem PySem.W PySem.Spec PyProof.Rows
section
variable {prog : Program} {w : World} {A : Around} {E : Value -> Shared -> Prop} {s : Shared} {T : String} {r d : Addr} {n : Nat} {P : Nat -> Value -> Prop} {OK : Heap -> Prop}
theorem Fv {R : List Value -> Shared -> Prop} (S : KdlSrc prog w T r d n P OK) (hh : A.handled = none) (hok : OK s.heap) (hn : n <= sizeLine)
  (h : ∀ (h' : Heap) (tk : Nat) (acc : Array Value), (∀ b o, s.heap.get? b = some o -> h'.get? b = some o) -> s.heap.objs.size < h'.objs.size -> ItemsOf P acc n -> R acc.toList { s with heap := h', toks := tk }) :
  wpAny (model prog w) A (collect (.ref r)) R E s := by
 obtain ⟨t1, t2⟩ := S.there _ hok
 have g0 : (s.heap.push { cls := .type "list", data := .seq ([] : List Value).toArray }).get? s.heap.objs.size = some { cls := .type "list", data := .seq #[] } := Heap.get?_push_size _ rfl
 have key : ∀ (q : Value -> Sem (List Value)), (∀ (s' : Shared), (∃ h' tk acc c, s' = { s with heap := h', toks := tk } /\ (∀ b o, s.heap.get? b = some o -> h'.get? b = some o) /\ h'.get? s.heap.objs.size = some { cls := .type "list", dict := none, data := .seq acc c, slots := #[] } /\ ItemsOf P acc n) -> wpAny (model prog w) A (q (.ref s.heap.objs.size)) R E s') ->
   wpAny (model prog w) A (runValue (.builtin "proto.collect" ⟨[.ref r], []⟩) >>= q) R E s := fun q hq => by
  refine wpAny_bind (wpAny_runValue (codeAny_builtin entry_proto_collect' ?_))
  rw [Around.under_plainId PySem.F.plain_proto_collect _]
  refine wpAny_bind (m := newList []) (wpAny_newObj_type (wpAny_pure ⟨plainId_quiet PySem.F.plain_list_iadd _, codeAny_builtin entry_list_iadd' ?_⟩))
  rw [Around.under_plainId PySem.F.plain_list_iadd _]
  refine wpAny_mono (kdl_extend (A := A) (s := { s with heap := s.heap.push { cls := .type "list", data := .seq ([] : List Value).toArray } })
   (R := fun (z : Result) (s' : Shared) => z = .ok (.ret (.ref s.heap.objs.size)) /\ ∃ h' tk acc c, s' = { s with heap := h', toks := tk } /\ (∀ b o, s.heap.get? b = some o -> h'.get? b = some o) /\ h'.get? s.heap.objs.size = some { cls := .type "list", dict := none, data := .seq acc c, slots := #[] } /\ ItemsOf P acc n)
   S hh (S.keep _ _ hok fun b _ o e => Heap.get?_push_of_some _ e) s.heap.objs.size (Nat.ne_of_gt t1) (Nat.ne_of_gt t2) (.ref s.heap.objs.size) 0 g0
   (fun h' tk acc c k1 k2 k3 => ⟨rfl, h', tk, acc, c, rfl, fun b o e => k1 b o (Nat.ne_of_lt (Heap.lt_size e)) (Heap.get?_push_of_some _ e), k2, k3⟩) hn) (fun fin s' x => ?_) fun e s' x => ?_
  ·cases fin with
   | done f =>
    obtain ⟨e, x⟩ := x
    cases e
    exact hq s' x
   | again c => exact ⟨x.1, codeAny_mono x.2 fun z s2 ⟨e, y⟩ => by subst e; exact hq s2 y⟩
  ·cases x.1
 unfold collect
 refine key _ fun s' ⟨h', tk, acc, c, e, k1, k2, k3⟩ => ?_
 subst e
 refine wpAny_bind (m := load s.heap.objs.size) (wpAny_load k2 (wpAny_pure (h h' tk acc k1 (Heap.lt_size k2) k3)))
end
section
variable {X : Cx}
def rH : List V -> Hp -> VK -> Prop := fun xs H Q => ∃ (a : Addr) (kvs : List (Str × V)), xs = [.ref a] /\ H a = some (.dK (kvs.map fun kv => (Sum.inr kv.1, kv.2))) /\ kvs.length < 60 /\
 ∀ p (ss : List Str), H p = none -> ss.Perm (kvs.map (·.1)) -> sortedS ss = true -> Q (.ref p) (upd H p (.lst (ss.map V.str)))
theorem vz : ∀ {us : List Value} {ss : List Str}, StrsAre us ss -> Vals (ss.map V.str) us
 | _, _, .nil => .nil
 | _, _, .cons x t r => .cons ⟨t, rfl⟩ (vz r)
theorem wQ (hc : X.calm = true) : dM X (.builtin "sorted") rH := by
 intro pins s σ H xs us Q I r h
 obtain ⟨a, kvs, rfl, hq, hlen, q⟩ := h
 obtain ⟨u, rfl, rx⟩ := vals1 r
 cases rx
 obtain ⟨z, hsys, vs, rel, o, es, ep, q1, q2, q3, q4⟩ := (show ObjOk X.prog X.w H s.heap a (.dK (kvs.map fun kv => (Sum.inr kv.1, kv.2))) from I.hok a _ hq)
 have hvl : kvs.length = vs.length := by have := Paired.length rel; rw [List.length_map] at this; exact this
 have hkeys : (kvs.map fun kv => (Sum.inr kv.1 : Key)) = vs.map (·.1) := by
  have := KV.keys rel
  rw [List.map_map] at this
  exact this
 have hat : s.heap.DictAt (bh X.prog X.w) a vs ep := ⟨o, es, q1, q2, q3, q4⟩
 refine Calls.call_function_entry kind_sorted plain_sorted entry_sorted (args_sorted1 _) ?_
 unfold Builtin.«sorted»
 refine wpAny_bind (m := checkCount "sorted" 1 1 _) (wpAny_pure ?_)
 refine wpAny_bind (Fv (A := X.A.in1) (kdl_dict (knd := bh X.prog X.w) (kvs := vs) (ep := ep) hsys) (I.ok.hd hc) hat (by rw [<- hvl, sizeLine_eq]; omega) fun h' tk acc hk hsz hacc => ?_)
 have hl : acc.toList.length = kvs.length := by rw [Array.length_toList, hacc.1, hvl]
 have hS : StrsAre acc.toList (kvs.map (·.1)) := by
  have main : ∀ (l : List Value) (ks : List Str), l.length = ks.length -> (∀ (i : Nat) v x, l[i]? = some v -> ks[i]? = some x -> ∃ t, v = .str x t) -> StrsAre l ks := by
   intro l
   induction l with
   | nil => intro ks h1 _; cases ks with
    | nil => exact .nil
    | cons _ _ => simp at h1
   | cons v l ih => intro ks h1 h2; cases ks with
    | nil => simp at h1
    | cons x ks =>
     obtain ⟨t, rfl⟩ := h2 0 v x rfl rfl
     exact .cons x t (ih ks (by simpa using h1) fun i v' x' e1 e2 => h2 (i + 1) v' x' e1 e2)
  refine main _ _ (by rw [hl, List.length_map]) fun i v x e1 e2 => ?_
  obtain ⟨k, y, g1, g2⟩ := hacc.2 i v (by rw [<- Array.getElem?_toList]; exact e1)
  have e3 : (vs.map (·.1))[i]? = some k := by rw [List.getElem?_map, g1]; rfl
  have e4 : (kvs.map fun kv => (Sum.inr kv.1 : Key))[i]? = some (Sum.inr x) := by
   rw [List.getElem?_map] at e2 ⊢
   cases e : kvs[i]? with
   | none => rw [e] at e2; cases e2
   | some q => rw [e] at e2; cases e2; rfl
  rw [hkeys, e3] at e4
  cases Option.some.inj e4
  have := Hj (k := (Sum.inr x : Key)) g2
  obtain ⟨t, e⟩ := (show RelV (.str x) v from this)
  exact ⟨t, e⟩
 refine wpAny_bind (wpAny_newList ?_ (by rw [hl, sizeLine_eq]; omega))
 have hoL : (h'.push (seqObj "list" acc.toList.toArray 0)).get? h'.objs.size = some (seqObj "list" acc.toList.toArray 0) := Heap.get?_push_size _ rfl
 refine wpAny_bind (wpAny_holding (wpAny_call_entry slot_list_sort ⟨_, hoL, rfl⟩ entry_list_sort (list_sort_treeK (n := 0) strKind_oneLt hoL hS.keysOf (fun v1 v2 rest e => keyKind_strs (by rw [<- e]; exact hS)) (by omega) fun st' hp hs => ⟨_, rfl, ?_⟩) (args_list_sort _)))
 obtain ⟨ss', h1, h2, h3⟩ := sorted_out_str hS hp hs
 obtain ⟨c, hc'⟩ := sortedHeap_at (out := (arrOf st').map (·.2)) hoL
 refine wpAny_pure ⟨_, rfl, .ref h'.objs.size, _, I.laid (t' := tk) (o := .lst (ss'.map V.str)) (fun b o' e => ?_) (Nat.le_of_lt hsz) ?_, rfl, q _ _ (I.hok.fresh (Nat.le_of_lt hsz)) h2 h3⟩
 ·have hlt := Heap.lt_size (hk b o' e)
  rw [sortedHeap_old (Nat.ne_of_lt hlt) (by rw [size_push']; exact Nat.lt_succ_of_lt hlt)]
  exact Heap.get?_push_of_some _ (hk b o' e)
 ·exact ⟨by rw [List.length_map, h2.length_eq, List.length_map, sizeLine_eq]; omega, _, c, vz h1, by rw [Array.toArray_toList]; exact hc'⟩
theorem ap_rSortDK {a : Addr} {H : Hp} {Q : VK} : rH [.ref a] H Q = ∃ (kvs : List (Str × V)), H a = some (.dK (kvs.map fun kv => (Sum.inr kv.1, kv.2))) /\ kvs.length < 60 /\
 ∀ p (ss : List Str), H p = none -> ss.Perm (kvs.map (·.1)) -> sortedS ss = true -> Q (.ref p) (upd H p (.lst (ss.map V.str))) := by simp [rH]
end
end L2
namespace L2
open PySem PySem.W PySem.Spec PySem.Calls PyProof.Rows
section
variable {X : Cx} {pos : Pos} {e f : Expr}
def fU (i : Int) : Str := Str.ofString (toString i)
theorem cJ {i : Int} (h : i.natAbs < 2 ^ 300) : (fU i).length <= 400 := uh h
theorem yp {i : Int} (hi : i.natAbs < 2 ^ 300) : i.natAbs.log2 < 1920 := by
 by_cases h0 : i.natAbs = 0
 ·rw [h0]; decide
 ·have := (Nat.log2_lt h0 (k := 300)).mpr hi
  omega
def MK : List V -> Hp -> VK -> Prop := fun xs H Q => (∃ i : Int, xs = [.int i] /\ i.natAbs < 2 ^ 300 /\ Q (.str (fU i)) H) \/ (∃ z, xs = [.str z] /\ Q (.str z) H)
theorem dY : dM X (.type "str") MK := by
 intro pins s σ H xs us Q I r h
 rcases h with ⟨i, rfl, hi, q⟩ | ⟨z, rfl, q⟩
 ·exact vG pins s σ H _ us Q I r ⟨i, rfl, yp hi, q⟩
 ·obtain ⟨u, rfl, rx⟩ := vals1 r
  obtain ⟨t, rfl⟩ := rx
  exact P.str_of_str ⟨.str z, H, I, ⟨_, rfl⟩, q⟩
theorem Bf : ∀ {xs : List Str} {its : List Value}, Vals (xs.map V.str) its -> ∃ l : List (Str × Tok), strValues l = its /\ l.map (·.1) = xs
 | [], _, .nil => ⟨[], rfl, rfl⟩
 | x :: xs, _, .cons r rs => by
  obtain ⟨t, rfl⟩ := r
  obtain ⟨l, e1, e2⟩ := Bf rs
  exact ⟨(x, t) :: l, by rw [<- e1]; rfl, by rw [List.map_cons, e2]⟩
theorem vy (z : Str) : ∀ (xs : List Str) (n : Nat), xs.foldl (fun a x => a + x.length + z.length) n = n + (xs.map (·.length)).sum + xs.length * z.length
 | [], n => by simp
 | x :: xs, n => by
  rw [List.foldl_cons, vy z xs, List.map_cons, List.sum_cons, List.length_cons, Nat.succ_mul]
  omega
def rJoin : V -> List V -> Hp -> VK -> Prop := fun v vs H Q => ∃ (z : Str) (a : Addr) (xs : List Str), v = .str z /\ vs = [.ref a] /\ H a = some (.lst (xs.map V.str)) /\ (xs.map (·.length)).sum + xs.length * z.length <= 1000000 /\ Q (.str (Txt.join z xs)) H
theorem BJ : MtM X "str.join" rJoin := by
 intro pins s σ H x vs v us Q I rx rv h
 obtain ⟨z, a, xs, rfl, rfl, hH, hb, q⟩ := h
 obtain ⟨t, rfl⟩ := rx
 obtain ⟨u, rfl, ru⟩ := rv.one
 cases ru
 obtain ⟨hz, its, n, r, hl, e⟩ := I.lstM hH
 obtain ⟨l, e1, e2⟩ := Bf r
 refine SC.join (D := a) (l := l) (texts := xs) ⟨_, e, rfl, n, by rw [e1]⟩ e2 ?_ fun t' k => ⟨.str _, H, I.tok _, ⟨_, rfl⟩, q⟩
 unfold JoinOk
 rw [List.foldl_toArray, vy]
 have : Builtin.Str.tooLong (0 + (xs.map (·.length)).sum + xs.length * z.length) = false := decide_eq_false (by rw [sizeLine_eq]; omega)
 rw [this]
 rfl
theorem ap_rStr {x : V} {H : Hp} {Q : VK} : MK [x] H Q = ((∃ i : Int, x = .int i /\ i.natAbs < 2 ^ 300 /\ Q (.str (fU i)) H) \/ (∃ z, x = .str z /\ Q (.str z) H)) := by simp [MK]
theorem ap_rJoin {z : Str} {a : Addr} {H : Hp} {Q : VK} : rJoin (.str z) [.ref a] H Q = ∃ (xs : List Str), H a = some (.lst (xs.map V.str)) /\ (xs.map (·.length)).sum + xs.length * z.length <= 1000000 /\ Q (.str (Txt.join z xs)) H := by simp [rJoin]
end
end L2
namespace L2
open PySem PySem.W PySem.Spec PyProof.Rows
section
variable {X : Cx} {K : Fg_} {a : Addr} {kvs : List (Key × V)} {pins : List (Addr × Obj)} {σ : St} {H : Hp} {s : Shared}
theorem zm {t : TS} {body suite : List Stmt} {x : Option Expr} {n : Option Str} {hpos pos : Pos} (h : PSs X.nox body t) : PS X.nox (.Try body [.ExceptHandler x n suite hpos] [] [] pos) t := by
 intro pins s σ H D I hw
 refine wpAny_Try_except (wpAny_mono (h pins s σ H D I hw) (fun f s1 q => ?_) fun ev s' hx => hx.elim)
 cases f with
 | next => exact wpAny_execs_nil q
 | brk => exact q
 | cont => exact q
 | ret u => exact q
variable {td ty : TE} {Q : VK} {w : World}
end
end L2
namespace HT
open PySem PyProof.Rows
def lexLe : List Int -> List Int -> Bool
 | [], _ => true
 | _ :: _, [] => false
 | x :: xs, y :: ys => if x = y then lexLe xs ys else decide (x <= y)
theorem Gq (A : Around) (s : Shared) (a : Int) (t : Tok) (c : Int) (u : Tok) (prog : Program) (w : World) (E : Value -> Shared -> Prop) (Q : Value -> Shared -> Prop) (h : Q (.bool (decide (a <= c))) s) :
  wpAny (model prog w) A (richCompare .LtE (.int a t) (.int c u)) Q E s :=
 (PyProof.Rows.le_int h : wpAny (model prog w) A (compareOp .LtE (.int a t) (.int c u)) Q E s)
section
open PySem.SeqAt
open PySem.AutoSeq1 (wpAny_loadPart')
open PySem.MeetsSeq PySem.MeetsSeq2 PySem.MeetsSeq3
theorem tD (l b : Addr) (xa xb : Array Value) (na nb : Nat) (da db : Option Addr) (sa sb : Array (Option Value)) (ns ms : List Int) (hi : IntsAre xa.toList ns) (hj : IntsAre xb.toList ms) :
  Meets (Builtin.«tuple.__le__» ⟨[.ref l, .ref b], []⟩)
   (fun _ R s => s.heap.get? l = some { cls := .type "tuple", dict := da, data := .seq xa na, slots := sa } /\ s.heap.get? b = some { cls := .type "tuple", dict := db, data := .seq xb nb, slots := sb } /\
    R (.ok (.ret (.bool (lexLe ns ms)))) s) :=
 .of_wp fun prog w A R s h => by
  obtain ⟨hp, g, d, tk, os⟩ := s; obtain ⟨hl, hb, h⟩ := h
  have f2 := AutoSeq1.sub_tuple_tuple
  have z1 : xa.size = ns.length := by rw [<- hi.length]; simp
  have z2 : xb.size = ms.length := by rw [<- hj.length]; simp
  wp_walk using wpAny_loadPart' hl, wpAny_loadPart' hb, wpAny_forIn_list _ (fun rest b s' => b.1 = none /\ s' = ⟨hp, g, d, tk, os⟩ /\ ∃ (vs ws : List Value) (np mp : List Int), rest = vs.zip ws /\
   IntsAre vs np /\ IntsAre ws mp /\ np.length + xb.size = mp.length + xa.size /\ R (.ok (.ret (.bool (lexLe np mp)))) ⟨hp, g, d, tk, os⟩) _
  case turn =>
   rintro ⟨y, x⟩ rest b s' ⟨hb', rfl, vs, ws, np, mp, hz, hvi, hwi, hlen, hR⟩
   cases hvi with
   | nil => rw [List.zip_nil_left] at hz; cases hz
   | cons a t hvi' => cases hwi with
    | nil => rw [List.zip_nil_right] at hz; cases hz
    | cons c u hwi' =>
     rw [List.zip_cons_cons] at hz
     injection hz with hyx hrest
     injection hyx with hy hx
     subst hy hx
     unfold lexLe at hR
     simp only [List.length_cons] at hlen
     obtain ⟨e, he, hiff⟩ := Ep A.in1 ⟨hp, g, d, tk, os⟩ a t c u
     refine wpAny_bind (he prog w _ _ ?_)
     cases e with
     | true =>
      rw [if_pos (hiff.mp rfl)] at hR
      wp_walk
      exact ⟨rfl, rfl, _, _, _, _, hrest, hvi', hwi', by omega, hR⟩
     | false =>
      rw [if_neg (fun q => absurd (hiff.mpr q) Bool.false_ne_true)] at hR
      have hri := Gq A.in1 ⟨hp, g, d, tk, os⟩ a t c u prog w
      wp_walk using hri
      exact ⟨_, rfl, by simpa using hR⟩
  case fin =>
   rintro ⟨b1, b2⟩ s' ⟨hb', rfl, vs, ws, np, mp, hz, hvi, hwi, hlen, hR⟩
   simp only at hb'
   subst hb'
   have hv : lexLe np mp = decide (xa.size <= xb.size) := by
    cases hvi with
    | nil =>
     simp only [List.length_nil] at hlen
     unfold lexLe
     exact (decide_eq_true (by omega)).symm
    | cons a t hv => cases hwi with
     | nil =>
      simp only [List.length_nil, List.length_cons] at hlen
      unfold lexLe
      exact (decide_eq_false (by omega)).symm
     | cons c u hw => rw [List.zip_cons_cons] at hz; cases hz
   rw [hv] at hR
   wp_walk
   exact ⟨_, rfl, by simpa [Builtin.Tuple.tupleCompareSizes] using hR⟩
  case h => exact ⟨rfl, rfl, xa.toList, xb.toList, ns, ms, rfl, hi, hj, by omega, h⟩
end
section
variable {prog : Program} {w : World} {A : Around} {E : Value -> Shared -> Prop} {s : Shared}
theorem le_tupInts {l b : Addr} {xa xb : Array Value} {ns ms : List Int} {Q : Value -> Shared -> Prop} (hl : IsTup s.heap l xa) (hb : IsTup s.heap b xb) (hi : IntsAre xa.toList ns) (hj : IntsAre xb.toList ms) (hu : A.units < cLine)
  (h : Q (.bool (lexLe ns ms)) s) : wpAny (model prog w) A (compareOp .LtE (.ref l) (.ref b)) Q E s := by
 obtain ⟨⟨cls, dd, data, sl⟩, ho, hc, n, hd⟩ := id hl
 obtain ⟨⟨cls2, dd2, data2, sl2⟩, ho2, hc2, n2, hd2⟩ := id hb
 simp only at hc hd hc2 hd2
 subst hc hd hc2 hd2
 exact richCompare_meets_room (op := .LtE) ⟨_, ho, rfl⟩ ⟨_, ho2, rfl⟩ PySem.F.slot_tuple_le PySem.F.entry_tuple_le (PySem.F.args_tuple_le_2 _ _) (tD l b xa xb n n2 dd dd2 sl sl2 ns ms hi hj)
  ⟨ho, ho2, show Value.bool (lexLe ns ms) ≠ Value.notImplemented /\ Q (.bool (lexLe ns ms)) s from ⟨(fun x => nomatch x), h⟩⟩ hu
end
end HT
namespace L2
open PySem PySem.W PySem.Spec PySem.Calls PyProof.Rows
section
variable {X : Cx}
def Ou (K : Fg_) : R2 := fun x y H Q => ∃ a b ns ms, x = .ref a /\ y = .ref b /\ SqT K H a (ns.map V.int) /\ SqT K H b (ms.map V.int) /\ Q (.bl (HT.lexLe ns ms)) H
theorem Iu {K : Fg_} {k : Nat} (hr : Room k X.A) (hK : X.K = K := by rfl) : OpR X (compareOp .LtE) (Ou K) := by
 subst hK
 intro pins s σ H x y v u Q I rx ry h
 obtain ⟨a, b, ns, ms, rfl, rfl, ha, hb, q⟩ := h
 cases rx
 cases ry
 obtain ⟨its, r1, p1, _⟩ := I.tuple ha
 obtain ⟨its2, r2, p2, _⟩ := I.tuple hb
 exact HT.le_tupInts p1 p2 (show IntsAre its.toArray.toList ns from intsAre_of r1) (show IntsAre its2.toArray.toList ms from intsAre_of r2) hr.units0 ⟨.bl (HT.lexLe ns ms), H, I, rfl, q⟩
def GZ (H0 : Hp) (t : TE) : TE := fun σ H Q => t σ H fun v H1 => ∃ a o kvs, H1 a = some (.frz o (.dK kvs)) /\ (∀ o u, H0 a ≠ some (.frz o u)) /\ Q v (upd H1 a (.dK kvs))
theorem HB {e : Expr} {t : TE} (h : PE X e t) : PE X e (GZ X.H₀ t) := by
 intro pins s σ H Q I q
 exact thn (h pins s σ H _ I q) fun v s1 ⟨x, H1, I1, r1, a, o, kvs, h1, h2, h3⟩ => ⟨x, _, I1.thaw h1 h2, r1, h3⟩
theorem ap_thawV {H0 : Hp} {t : TE} {σ : St} {H : Hp} {Q : VK} : GZ H0 t σ H Q = t σ H fun v H1 => ∃ a o kvs, H1 a = some (.frz o (.dK kvs)) /\ (∀ o u, H0 a ≠ some (.frz o u)) /\ Q v (upd H1 a (.dK kvs)) := rfl
end
end L2
namespace L2
open PySem PySem.W PySem.Spec PySem.Calls PyProof.Rows
section
variable {X : Cx} {e f g : Expr} {pos : Pos}
def Lp : List V -> Hp -> VK -> Prop := fun xs H Q => ∃ i j k : Int, xs = [.int i, .int j, .int k] /\ Q (.int (min (min i j) k)) H
theorem zq (hc : X.calm = true) : dM X (.builtin "min") Lp := by
 intro pins s σ H xs us Q I r h
 obtain ⟨i, j, k, rfl, q⟩ := h
 cases r with
 | cons r1 r => cases r with
  | cons r2 r => cases r with
   | cons r3 r => cases r with
    | nil =>
     obtain ⟨t, rfl⟩ := r1
     obtain ⟨u, rfl⟩ := r2
     obtain ⟨x, rfl⟩ := r3
     refine min_three_ints (I.ok.hd hc) fun h' tk hk => ⟨_, H, I.kept hk, ?_, q⟩
     split
     ·split
      ·exact ⟨x, by rw [show min (min i j) k = k by omega]⟩
      ·exact ⟨u, by rw [show min (min i j) k = j by omega]⟩
     ·split
      ·exact ⟨x, by rw [show min (min i j) k = k by omega]⟩
      ·exact ⟨t, by rw [show min (min i j) k = i by omega]⟩
theorem ap_rMin3 {i j k : Int} {H : Hp} {Q : VK} : Lp [.int i, .int j, .int k] H Q = Q (.int (min (min i j) k)) H := propext ⟨fun ⟨_, _, _, e, h⟩ => by cases e; exact h, fun h => ⟨i, j, k, rfl, h⟩⟩
def Jy (y z : Str) (te tf tg : TE) : TE := fun σ H Q => te σ H fun v H1 => ∃ i : Int, v = .int i /\ i.natAbs < 2 ^ 300 /\ tf σ H1 fun u H2 => ∃ j : Int, u = .int j /\ j.natAbs < 2 ^ 300 /\ tg σ H2 fun x H3 => ∃ k : Int, x = .int k /\ k.natAbs < 2 ^ 300 /\ Q (.str (fU i ++ y ++ fU j ++ z ++ fU k)) H3
theorem zL {y z : Str} {j1 j2 : Nat} {p1 p2 p3 p4 p5 : Pos} {te tf tg : TE} (he : PE X e te) (hf : PE X f tf) (hg : PE X g tg) (h1 : y.length <= 1000 := by decide +kernel) (h2 : z.length <= 1000 := by decide +kernel) :
  PE X (.JoinedStr [.FormattedValue e (-1) none p1, .Constant (.str y) j1 p2, .FormattedValue f (-1) none p3, .Constant (.str z) j2 p4, .FormattedValue g (-1) none p5] pos) (Jy y z te tf tg) := by
 intro pins s σ H Q I h
 have e0 : ∀ z : Str, (Str.empty ++ z) = z := fun z => by
  show Str.mk (#[] ++ z.cps) = z; rw [Array.empty_append]
 have la : ∀ y z : Str, (y ++ z).length = y.length + z.length := fun y z => by
  show (y.cps ++ z.cps).size = _; rw [Array.size_append]; rfl
 refine wpAny_JoinedStr (Joins_cons (wpAny_FormattedValue_plain ?_))
 refine thn (he pins _ σ H _ I h) fun v s1 ⟨w, H1, I1, r1, i, ei, hi, q⟩ => ?_
 subst ei
 obtain ⟨t1, rfl⟩ := r1
 have hl := cJ hi
 refine wpAny_formatField_int (yp hi) ⟨_, _, rfl, by rw [e0, sizeLine_eq]; show (fU i).length <= _; omega, Joins_cons (Calls.Constant_str ⟨y, _, rfl, by rw [la, e0, sizeLine_eq]; show (fU i).length + _ <= _; omega, Joins_cons (wpAny_FormattedValue_plain ?_)⟩)⟩
 rw [e0]
 refine thn (hf pins _ σ H1 _ ((I1.tok _).tok _) q) fun v s2 ⟨w, H2, I2, r2, j, ej, hj, q⟩ => ?_
 subst ej
 obtain ⟨t2, rfl⟩ := r2
 have hl2 := cJ hj
 refine wpAny_formatField_int (yp hj) ⟨_, _, rfl, by rw [la, la, sizeLine_eq]; show (fU i).length + y.length + (fU j).length <= _; omega, Joins_cons (Calls.Constant_str ⟨z, _, rfl, by rw [la, la, la, sizeLine_eq]; show (fU i).length + y.length + (fU j).length + _ <= _; omega, Joins_cons (wpAny_FormattedValue_plain ?_)⟩)⟩
 refine thn (hg pins _ σ H2 _ ((I2.tok _).tok _) q) fun v s3 ⟨w, H3, I3, r3, k, ek, hk, q⟩ => ?_
 subst ek
 obtain ⟨t3, rfl⟩ := r3
 have hl3 := cJ hk
 exact wpAny_formatField_int (yp hk) ⟨_, _, rfl, by rw [la, la, la, la, sizeLine_eq]; show (fU i).length + y.length + (fU j).length + z.length + (fU k).length <= _; omega, Joins_nil ⟨by rw [la, la, la, la, sizeLine_eq]; show (fU i).length + y.length + (fU j).length + z.length + (fU k).length <= _; omega, .str _, H3, I3.tok _, ⟨_, rfl⟩, q⟩⟩
theorem ap_FIII {y z : Str} {te tf tg : TE} {σ : St} {H : Hp} {Q : VK} : Jy y z te tf tg σ H Q = te σ H fun v H1 => ∃ i : Int, v = .int i /\ i.natAbs < 2 ^ 300 /\ tf σ H1 fun u H2 => ∃ j : Int, u = .int j /\ j.natAbs < 2 ^ 300 /\ tg σ H2 fun x H3 => ∃ k : Int, x = .int k /\ k.natAbs < 2 ^ 300 /\ Q (.str (fU i ++ y ++ fU j ++ z ++ fU k)) H3 := rfl
end
end L2
local macro_rules | `(tactic| walk_at "capok") => `(tactic| first | exact L2.CapOk.nil | (refine L2.CapOk.own ?_; walk_at "capok") | (refine L2.CapOk.take (by with_unfolding_all rfl) (by first | exact Or.inl (by with_unfolding_all rfl) | exact Or.inr (by with_unfolding_all rfl)) (by first | exact Or.inl (by with_unfolding_all rfl) | exact Or.inr (by with_unfolding_all rfl)) (by with_unfolding_all rfl) ?_; walk_at "capok"))
local macro_rules | `(tactic| walk_at "compok") => `(tactic| (refine ⟨?c1, ?c3, ?c0, ?c4, ?c5, ?c6, ?c7⟩; (case c1 => with_unfolding_all rfl); (case c3 => walk_at "capok"); (case c0 => rfl); (case c4 => decide +kernel); (case c5 => decide +kernel); (case c6 => with_unfolding_all rfl); (case c7 => (intro _; rfl))))
local macro_rules | `(tactic| walk_at "rd") => `(tactic| simp only [L2.ap_iStr, L2.ap_fldK, L2.ap_sFld, L2.ap_methD, L2.ap_make, L2.ap_dget2, L2.ap_dput, L2.ap_dnewK, L2.ap_dictOf, L2.ap_leS, L2.ap_rIsC, L2.ap_ixT, L2.ap_lenS, L2.ap_rSortT, L2.ap_new0, L2.ap_dictPairs, L2.ap_iVals, L2.ap_rVals, L2.ap_dget1, L2.ap_tSortK, L2.ap_rSortK, L2.ap_eqR, L2.ap_slRev, L2.ap_break, L2.ap_rSortI, L2.ap_iItems, L2.ap_rItems, L2.ap_rSortDK, L2.ap_rStr, L2.ap_rJoin, L2.ap_thawV, L2.ap_rMin3, L2.ap_FIII, L2.ap_iZip, L2.ap_iEnum, L2.ap_seq, L2.ap_next, L2.ap_asg, L2.ap_name, L2.ap_var, L2.ap_c, L2.ap_op, L2.ap_un, L2.ap_rI, L2.ap_rI0, L2.ap_rU, L2.ap_rEq, L2.ap_ret, L2.ap_retN, L2.ap_drop, L2.ap_test, L2.ap_tB, L2.ap_and, L2.ap_or, L2.ap_not, L2.ap_andV, L2.ap_notV, L2.ap_ifE, L2.ap_call, L2.ap_nil, L2.ap_cons, L2.ap_cb, L2.ap_lst, L2.ap_tup, L2.ap_chain, L2.ap_sl, L2.ap_noPart, L2.ap_part, L2.ap_gNil, L2.ap_gCons, L2.ap_gLst, L2.ap_gTup, L2.ap_bm, L2.ap_bm0, L2.ap_ixL, L2.ap_slL, L2.ap_rLen, L2.ap_rSum, L2.ap_rAny, L2.ap_rAll, L2.ap_rListOf, L2.ap_rIsT, L2.ap_append, L2.ap_rCat, L2.ap_for, L2.ap_iList, L2.ap_iRng1, L2.ap_comp, L2.ap_noIf, L2.ap_rMax, L2.ap_rMin, L2.scal_int, L2.scal_str, L2.scal_bl, L2.start_eq, List.map_cons, List.map_nil, List.length_cons, List.length_nil, List.cons_append, List.nil_append, List.append_nil, List.replicate_succ, List.replicate_zero, Nat.reduceAdd, Nat.reduceSub, Nat.sub_self, List.set_cons_zero, List.set_cons_succ, List.getElem?_cons_zero, List.getElem?_cons_succ, Option.some.injEq, L2.V.int.injEq, L2.V.bl.injEq, L2.V.str.injEq, L2.V.ref.injEq, L2.V.ty.injEq, List.cons.injEq, exists_eq_left', exists_eq_left, exists_and_left, exists_eq', exists_eq, true_and, and_true, and_assoc, exists_const, Bool.not_true, Bool.not_false, if_true, if_false, Bool.false_eq_true, decide_true, decide_false, reduceCtorEq, Bool.not_eq_true', decide_eq_true_eq, decide_eq_false_iff_not])
local macro_rules | `(tactic| walk_at "rdi") => `(tactic| simp only [L2.ap_iStr, L2.ap_fldK, L2.ap_sFld, L2.ap_methD, L2.ap_make, L2.ap_dget2, L2.ap_dput, L2.ap_dnewK, L2.ap_dictOf, L2.ap_leS, L2.ap_rIsC, L2.ap_ixT, L2.ap_lenS, L2.ap_rSortT, L2.ap_new0, L2.ap_dictPairs, L2.ap_iVals, L2.ap_rVals, L2.ap_dget1, L2.ap_tSortK, L2.ap_rSortK, L2.ap_eqR, L2.ap_slRev, L2.ap_break, L2.ap_rSortI, L2.ap_iItems, L2.ap_rItems, L2.ap_rSortDK, L2.ap_rStr, L2.ap_rJoin, L2.ap_thawV, L2.ap_rMin3, L2.ap_FIII, L2.ap_iZip, L2.ap_iEnum, L2.ap_next, L2.ap_asg, L2.ap_name, L2.ap_var, L2.ap_c, L2.ap_op, L2.ap_un, L2.ap_rI, L2.ap_rI0, L2.ap_rU, L2.ap_rEq, L2.ap_ret, L2.ap_retN, L2.ap_drop, L2.ap_if, L2.ap_test, L2.ap_tB, L2.ap_and, L2.ap_or, L2.ap_not, L2.ap_andV, L2.ap_notV, L2.ap_ifE, L2.ap_call, L2.ap_nil, L2.ap_cons, L2.ap_cb, L2.ap_lst, L2.ap_tup, L2.ap_chain, L2.ap_sl, L2.ap_noPart, L2.ap_part, L2.ap_gNil, L2.ap_gCons, L2.ap_gLst, L2.ap_gTup, L2.ap_bm, L2.ap_bm0, L2.ap_ixL, L2.ap_slL, L2.ap_rLen, L2.ap_rSum, L2.ap_rAny, L2.ap_rAll, L2.ap_rListOf, L2.ap_rIsT, L2.ap_append, L2.ap_rCat, L2.ap_comp, L2.ap_iList, L2.ap_iRng1, L2.ap_noIf, L2.ap_rMax, L2.ap_rMin, L2.scal_int, L2.scal_str, L2.scal_bl, L2.start_eq, List.map_cons, List.map_nil, List.length_cons, List.length_nil, List.cons_append, List.nil_append, List.append_nil, List.replicate_succ, List.replicate_zero, Nat.reduceAdd, Nat.reduceSub, Nat.sub_self, List.set_cons_zero, List.set_cons_succ, List.getElem?_cons_zero, List.getElem?_cons_succ, Option.some.injEq, L2.V.int.injEq, L2.V.bl.injEq, L2.V.str.injEq, L2.V.ref.injEq, L2.V.ty.injEq, List.cons.injEq, exists_eq_left', exists_eq_left, exists_and_left, exists_eq', exists_eq, true_and, and_true, and_assoc, exists_const, Bool.not_true, Bool.not_false, if_true, if_false, Bool.false_eq_true, decide_true, decide_false, reduceCtorEq, Bool.not_eq_true', decide_eq_true_eq, decide_eq_false_iff_not])
local macro_rules | `(tactic| walk_at "rda") => `(tactic| simp only [L2.ap_iStr, L2.ap_fldK, L2.ap_sFld, L2.ap_methD, L2.ap_make, L2.ap_dget2, L2.ap_dput, L2.ap_dnewK, L2.ap_dictOf, L2.ap_leS, L2.ap_rIsC, L2.ap_ixT, L2.ap_lenS, L2.ap_rSortT, L2.ap_new0, L2.ap_dictPairs, L2.ap_iVals, L2.ap_rVals, L2.ap_dget1, L2.ap_tSortK, L2.ap_rSortK, L2.ap_eqR, L2.ap_slRev, L2.ap_break, L2.ap_rSortI, L2.ap_iItems, L2.ap_rItems, L2.ap_rSortDK, L2.ap_rStr, L2.ap_rJoin, L2.ap_thawV, L2.ap_rMin3, L2.ap_FIII, L2.ap_iZip, L2.ap_iEnum, L2.ap_seq, L2.ap_next, L2.ap_asg, L2.ap_name, L2.ap_var, L2.ap_c, L2.ap_op, L2.ap_un, L2.ap_rI, L2.ap_rI0, L2.ap_rU, L2.ap_rEq, L2.ap_ret, L2.ap_retN, L2.ap_drop, L2.ap_if, L2.ap_test, L2.ap_tB, L2.ap_and, L2.ap_or, L2.ap_not, L2.ap_andV, L2.ap_notV, L2.ap_ifE, L2.ap_call, L2.ap_nil, L2.ap_cons, L2.ap_cb, L2.ap_lst, L2.ap_tup, L2.ap_chain, L2.ap_sl, L2.ap_noPart, L2.ap_part, L2.ap_gNil, L2.ap_gCons, L2.ap_gLst, L2.ap_gTup, L2.ap_bm, L2.ap_bm0, L2.ap_ixL, L2.ap_slL, L2.ap_rLen, L2.ap_rSum, L2.ap_rAny, L2.ap_rAll, L2.ap_rListOf, L2.ap_rIsT, L2.ap_append, L2.ap_rCat, L2.ap_for, L2.ap_iList, L2.ap_iRng1, L2.ap_comp, L2.ap_noIf, L2.ap_rMax, L2.ap_rMin, L2.scal_int, L2.scal_str, L2.scal_bl, L2.start_eq, List.map_cons, List.map_nil, List.length_cons, List.length_nil, List.cons_append, List.nil_append, List.append_nil, List.replicate_succ, List.replicate_zero, Nat.reduceAdd, Nat.reduceSub, Nat.sub_self, List.set_cons_zero, List.set_cons_succ, List.getElem?_cons_zero, List.getElem?_cons_succ, Option.some.injEq, L2.V.int.injEq, L2.V.bl.injEq, L2.V.str.injEq, L2.V.ref.injEq, L2.V.ty.injEq, List.cons.injEq, exists_eq_left', exists_eq_left, exists_and_left, exists_eq', exists_eq, true_and, and_true, and_assoc, exists_const, Bool.not_true, Bool.not_false, if_true, if_false, Bool.false_eq_true, decide_true, decide_false, reduceCtorEq, Bool.not_eq_true', decide_eq_true_eq, decide_eq_false_iff_not])
namespace My
open PySem L2 PyProof.Rows
def top (i : Nat) : Stmt := PySem.Challenge.pw_lotledger_k85_reports_by_hand.main.body.getD i (.Pass ⟨0, 0, 0, 0⟩)
abbrev dF : Stmt := top 78
abbrev bZ : Stmt := inClass (top 69) 0
abbrev cR : Stmt := top 72
abbrev dX : Stmt := inClass (top 70) 15
abbrev cA : Stmt := top 73
abbrev eU : Stmt := inClass (top 69) 1
abbrev cW : Stmt := inClass (top 69) 2
abbrev cI : Stmt := top 56
abbrev eX : Stmt := top 51
abbrev gD : Stmt := top 52
abbrev dH : Stmt := top 58
abbrev cH : Stmt := top 57
abbrev cT : Stmt := top 54
abbrev dG : Stmt := inClass (top 70) 14
abbrev eY : Stmt := inClass (top 70) 13
abbrev eN : Stmt := top 55
abbrev dW : Stmt := top 79
abbrev dO : Stmt := top 80
abbrev cV : Stmt := top 41
abbrev fJ : Stmt := top 40
abbrev fH : Stmt := top 39
abbrev cF : Stmt := inClass (top 70) 12
abbrev cU : Stmt := top 49
abbrev cL : Stmt := inClass (top 47) 0
abbrev cu : Stmt := inClass (top 47) 3
abbrev fG : Stmt := top 48
abbrev fK : Stmt := inClass (top 70) 10
abbrev dB : Stmt := inClass (top 70) 4
abbrev di : Stmt := inClass (top 70) 3
abbrev cP : Stmt := inClass (top 70) 5
abbrev bR : Stmt := top 45
abbrev gC : Stmt := top 43
abbrev kh : Stmt := top 44
abbrev gw : Stmt := top 71
abbrev cM : Stmt := inClass (top 64) 0
abbrev eQ : Stmt := inClass (top 47) 2
abbrev dD : Stmt := top 50
abbrev cC : Stmt := top 66
abbrev cQ : Stmt := inClass (top 65) 1
abbrev eF : Stmt := top 67
abbrev bT : Stmt := inClass (top 70) 11
abbrev cX : Stmt := inClass (top 70) 6
abbrev bN : Stmt := inClass (top 70) 2
abbrev eO : Stmt := top 35
abbrev bU : Stmt := top 36
abbrev bO : Stmt := inClass (top 21) 3
abbrev bG : Stmt := inClass (top 23) 3
abbrev bL : Stmt := top 37
abbrev bD : Stmt := inClass (top 22) 3
abbrev fZ : Stmt := inClass (top 70) 1
abbrev cG : Stmt := top 75
abbrev cD : Stmt := inClass (top 70) 0
abbrev gj : Stmt := top 74
abbrev bM : Stmt := top 27
abbrev cN : Stmt := top 28
abbrev gG : Stmt := top 30
abbrev dU : Stmt := top 29
abbrev bV : Stmt := inClass (top 20) 0
abbrev dm : Stmt := top 31
abbrev dh : Stmt := top 32
abbrev dR : Stmt := top 33
abbrev cg : Stmt := inClass (top 22) 0
abbrev eG : Stmt := top 81
abbrev cj : Stmt := inClass (top 23) 0
abbrev cO : Stmt := inClass (top 21) 0
abbrev eE : Stmt := top 82
abbrev sY : Stmt := top 83
structure Adr where
 _law_digits : Addr
 Sale___init__ : Addr
 copy_of_sale : Addr
 Book_sales : Addr
 cost_of_parts : Addr
 Sale_gain : Addr
 Sale_counted : Addr
 words_of_sale : Addr
 pieces_in : Addr
 cost_in : Addr
 word_of_lot : Addr
 words_of_held : Addr
 row_of_words : Addr
 Book_row_of : Addr
 Book_held : Addr
 report_of : Addr
 _law_mixed : Addr
 _law_cells : Addr
 refuse_twice : Addr
 place_of : Addr
 in_order : Addr
 Book_keep_row : Addr
 place_in_row : Addr
 Lot___init__ : Addr
 Lot_with_more : Addr
 row_with : Addr
 Book_put : Addr
 Book_lay_on : Addr
 Book_do_buy : Addr
 Book_do_gift : Addr
 sum_of_weights : Addr
 part_of : Addr
 dealt : Addr
 sale_of : Addr
 Way_levelled : Addr
 Lot_taken : Addr
 row_without : Addr
 picks_in_turn : Addr
 Eldest_picks : Addr
 gone_from : Addr
 Book_taken_for : Addr
 Book_do_sell : Addr
 Book_do_by_kind : Addr
 held_with : Addr
 held_with_more : Addr
 Buy_held_behind : Addr
 Gift_held_behind : Addr
 held_with_fewer : Addr
 Sell_held_behind : Addr
 Book_do : Addr
 with_all_done : Addr
 Book___init__ : Addr
 book_of : Addr
 is_whole_number : Addr
 check_number : Addr
 is_name : Addr
 check_name : Addr
 Entry___init__ : Addr
 check_trade : Addr
 check_named : Addr
 named_copy : Addr
 Sell___init__ : Addr
 _law_gone : Addr
 Gift___init__ : Addr
 Buy___init__ : Addr
 _law_left : Addr
 law : Addr
 C_Sale : Addr
 C_Book : Addr
 C_Lot : Addr
 C_Way : Addr
 C_Eldest : Addr
 C_NoLot : Addr
 C_Buy : Addr
 C_Gift : Addr
 C_Sell : Addr
 C_Entry : Addr
 t_MOST_LETTERS : Tok
 t_MOST_DAY : Tok
 t_MOST_NUMBER : Tok
 t_MOST_PIECES : Tok
 t_MOST_PRICE : Tok
 t_MOST_FEE : Tok
 t_MOST_GIFT_COST : Tok
structure Fds where
 _law_digits : FuncData
 Sale___init__ : FuncData
 copy_of_sale : FuncData
 Book_sales : FuncData
 cost_of_parts : FuncData
 Sale_gain : FuncData
 Sale_counted : FuncData
 words_of_sale : FuncData
 pieces_in : FuncData
 cost_in : FuncData
 word_of_lot : FuncData
 words_of_held : FuncData
 row_of_words : FuncData
 Book_row_of : FuncData
 Book_held : FuncData
 report_of : FuncData
 _law_mixed : FuncData
 _law_cells : FuncData
 refuse_twice : FuncData
 place_of : FuncData
 in_order : FuncData
 Book_keep_row : FuncData
 place_in_row : FuncData
 Lot___init__ : FuncData
 Lot_with_more : FuncData
 row_with : FuncData
 Book_put : FuncData
 Book_lay_on : FuncData
 Book_do_buy : FuncData
 Book_do_gift : FuncData
 sum_of_weights : FuncData
 part_of : FuncData
 dealt : FuncData
 sale_of : FuncData
 Way_levelled : FuncData
 Lot_taken : FuncData
 row_without : FuncData
 picks_in_turn : FuncData
 Eldest_picks : FuncData
 gone_from : FuncData
 Book_taken_for : FuncData
 Book_do_sell : FuncData
 Book_do_by_kind : FuncData
 held_with : FuncData
 held_with_more : FuncData
 Buy_held_behind : FuncData
 Gift_held_behind : FuncData
 held_with_fewer : FuncData
 Sell_held_behind : FuncData
 Book_do : FuncData
 with_all_done : FuncData
 Book___init__ : FuncData
 book_of : FuncData
 is_whole_number : FuncData
 check_number : FuncData
 is_name : FuncData
 check_name : FuncData
 Entry___init__ : FuncData
 check_trade : FuncData
 check_named : FuncData
 named_copy : FuncData
 Sell___init__ : FuncData
 _law_gone : FuncData
 Gift___init__ : FuncData
 Buy___init__ : FuncData
 _law_left : FuncData
 law : FuncData
structure Txt (K : Fg_) (mg : Str -> Option Value) (A : Adr) (D : Fds) : Prop where
 m__law_digits : mg "_law_digits" = some (.ref A._law_digits)
 k__law_digits : PySem.W.keepIn K (.ref A._law_digits) = true
 F__law_digits : Fun K "_law_digits" "_law_digits" dF A._law_digits D._law_digits
 F_Sale___init__ : Fun K "__init__" "Sale.__init__" bZ A.Sale___init__ D.Sale___init__
 m_copy_of_sale : mg "copy_of_sale" = some (.ref A.copy_of_sale)
 k_copy_of_sale : PySem.W.keepIn K (.ref A.copy_of_sale) = true
 F_copy_of_sale : Fun K "copy_of_sale" "copy_of_sale" cR A.copy_of_sale D.copy_of_sale
 F_Book_sales : Fun K "sales" "Book.sales" dX A.Book_sales D.Book_sales
 m_cost_of_parts : mg "cost_of_parts" = some (.ref A.cost_of_parts)
 k_cost_of_parts : PySem.W.keepIn K (.ref A.cost_of_parts) = true
 F_cost_of_parts : Fun K "cost_of_parts" "cost_of_parts" cA A.cost_of_parts D.cost_of_parts
 F_Sale_gain : Fun K "gain" "Sale.gain" eU A.Sale_gain D.Sale_gain
 F_Sale_counted : Fun K "counted" "Sale.counted" cW A.Sale_counted D.Sale_counted
 m_words_of_sale : mg "words_of_sale" = some (.ref A.words_of_sale)
 k_words_of_sale : PySem.W.keepIn K (.ref A.words_of_sale) = true
 F_words_of_sale : Fun K "words_of_sale" "words_of_sale" cI A.words_of_sale D.words_of_sale
 m_pieces_in : mg "pieces_in" = some (.ref A.pieces_in)
 k_pieces_in : PySem.W.keepIn K (.ref A.pieces_in) = true
 F_pieces_in : Fun K "pieces_in" "pieces_in" eX A.pieces_in D.pieces_in
 m_cost_in : mg "cost_in" = some (.ref A.cost_in)
 k_cost_in : PySem.W.keepIn K (.ref A.cost_in) = true
 F_cost_in : Fun K "cost_in" "cost_in" gD A.cost_in D.cost_in
 m_word_of_lot : mg "word_of_lot" = some (.ref A.word_of_lot)
 k_word_of_lot : PySem.W.keepIn K (.ref A.word_of_lot) = true
 F_word_of_lot : Fun K "word_of_lot" "word_of_lot" dH A.word_of_lot D.word_of_lot
 m_words_of_held : mg "words_of_held" = some (.ref A.words_of_held)
 k_words_of_held : PySem.W.keepIn K (.ref A.words_of_held) = true
 F_words_of_held : Fun K "words_of_held" "words_of_held" cH A.words_of_held D.words_of_held
 m_row_of_words : mg "row_of_words" = some (.ref A.row_of_words)
 k_row_of_words : PySem.W.keepIn K (.ref A.row_of_words) = true
 F_row_of_words : Fun K "row_of_words" "row_of_words" cT A.row_of_words D.row_of_words
 F_Book_row_of : Fun K "row_of" "Book.row_of" dG A.Book_row_of D.Book_row_of
 F_Book_held : Fun K "held" "Book.held" eY A.Book_held D.Book_held
 m_report_of : mg "report_of" = some (.ref A.report_of)
 k_report_of : PySem.W.keepIn K (.ref A.report_of) = true
 F_report_of : Fun K "report_of" "report_of" eN A.report_of D.report_of
 m__law_mixed : mg "_law_mixed" = some (.ref A._law_mixed)
 k__law_mixed : PySem.W.keepIn K (.ref A._law_mixed) = true
 F__law_mixed : Fun K "_law_mixed" "_law_mixed" dW A._law_mixed D._law_mixed
 m__law_cells : mg "_law_cells" = some (.ref A._law_cells)
 k__law_cells : PySem.W.keepIn K (.ref A._law_cells) = true
 F__law_cells : Fun K "_law_cells" "_law_cells" dO A._law_cells D._law_cells
 m_refuse_twice : mg "refuse_twice" = some (.ref A.refuse_twice)
 k_refuse_twice : PySem.W.keepIn K (.ref A.refuse_twice) = true
 F_refuse_twice : Fun K "refuse_twice" "refuse_twice" cV A.refuse_twice D.refuse_twice
 m_place_of : mg "place_of" = some (.ref A.place_of)
 k_place_of : PySem.W.keepIn K (.ref A.place_of) = true
 F_place_of : Fun K "place_of" "place_of" fJ A.place_of D.place_of
 m_in_order : mg "in_order" = some (.ref A.in_order)
 k_in_order : PySem.W.keepIn K (.ref A.in_order) = true
 F_in_order : Fun K "in_order" "in_order" fH A.in_order D.in_order
 F_Book_keep_row : Fun K "keep_row" "Book.keep_row" cF A.Book_keep_row D.Book_keep_row
 m_place_in_row : mg "place_in_row" = some (.ref A.place_in_row)
 k_place_in_row : PySem.W.keepIn K (.ref A.place_in_row) = true
 F_place_in_row : Fun K "place_in_row" "place_in_row" cU A.place_in_row D.place_in_row
 F_Lot___init__ : Fun K "__init__" "Lot.__init__" cL A.Lot___init__ D.Lot___init__
 F_Lot_with_more : Fun K "with_more" "Lot.with_more" cu A.Lot_with_more D.Lot_with_more
 m_row_with : mg "row_with" = some (.ref A.row_with)
 k_row_with : PySem.W.keepIn K (.ref A.row_with) = true
 F_row_with : Fun K "row_with" "row_with" fG A.row_with D.row_with
 F_Book_put : Fun K "put" "Book.put" fK A.Book_put D.Book_put
 F_Book_lay_on : Fun K "lay_on" "Book.lay_on" dB A.Book_lay_on D.Book_lay_on
 F_Book_do_buy : Fun K "do_buy" "Book.do_buy" di A.Book_do_buy D.Book_do_buy
 F_Book_do_gift : Fun K "do_gift" "Book.do_gift" cP A.Book_do_gift D.Book_do_gift
 m_sum_of_weights : mg "sum_of_weights" = some (.ref A.sum_of_weights)
 k_sum_of_weights : PySem.W.keepIn K (.ref A.sum_of_weights) = true
 F_sum_of_weights : Fun K "sum_of_weights" "sum_of_weights" bR A.sum_of_weights D.sum_of_weights
 m_part_of : mg "part_of" = some (.ref A.part_of)
 k_part_of : PySem.W.keepIn K (.ref A.part_of) = true
 F_part_of : Fun K "part_of" "part_of" gC A.part_of D.part_of
 m_dealt : mg "dealt" = some (.ref A.dealt)
 k_dealt : PySem.W.keepIn K (.ref A.dealt) = true
 F_dealt : Fun K "dealt" "dealt" kh A.dealt D.dealt
 m_sale_of : mg "sale_of" = some (.ref A.sale_of)
 k_sale_of : PySem.W.keepIn K (.ref A.sale_of) = true
 F_sale_of : Fun K "sale_of" "sale_of" gw A.sale_of D.sale_of
 F_Way_levelled : Fun K "levelled" "Way.levelled" cM A.Way_levelled D.Way_levelled
 F_Lot_taken : Fun K "taken" "Lot.taken" eQ A.Lot_taken D.Lot_taken
 m_row_without : mg "row_without" = some (.ref A.row_without)
 k_row_without : PySem.W.keepIn K (.ref A.row_without) = true
 F_row_without : Fun K "row_without" "row_without" dD A.row_without D.row_without
 m_picks_in_turn : mg "picks_in_turn" = some (.ref A.picks_in_turn)
 k_picks_in_turn : PySem.W.keepIn K (.ref A.picks_in_turn) = true
 F_picks_in_turn : Fun K "picks_in_turn" "picks_in_turn" cC A.picks_in_turn D.picks_in_turn
 F_Eldest_picks : Fun K "picks" "Eldest.picks" cQ A.Eldest_picks D.Eldest_picks
 m_gone_from : mg "gone_from" = some (.ref A.gone_from)
 k_gone_from : PySem.W.keepIn K (.ref A.gone_from) = true
 F_gone_from : Fun K "gone_from" "gone_from" eF A.gone_from D.gone_from
 F_Book_taken_for : Fun K "taken_for" "Book.taken_for" bT A.Book_taken_for D.Book_taken_for
 F_Book_do_sell : Fun K "do_sell" "Book.do_sell" cX A.Book_do_sell D.Book_do_sell
 F_Book_do_by_kind : Fun K "do_by_kind" "Book.do_by_kind" bN A.Book_do_by_kind D.Book_do_by_kind
 m_held_with : mg "held_with" = some (.ref A.held_with)
 k_held_with : PySem.W.keepIn K (.ref A.held_with) = true
 F_held_with : Fun K "held_with" "held_with" eO A.held_with D.held_with
 m_held_with_more : mg "held_with_more" = some (.ref A.held_with_more)
 k_held_with_more : PySem.W.keepIn K (.ref A.held_with_more) = true
 F_held_with_more : Fun K "held_with_more" "held_with_more" bU A.held_with_more D.held_with_more
 F_Buy_held_behind : Fun K "held_behind" "Buy.held_behind" bO A.Buy_held_behind D.Buy_held_behind
 F_Gift_held_behind : Fun K "held_behind" "Gift.held_behind" bG A.Gift_held_behind D.Gift_held_behind
 m_held_with_fewer : mg "held_with_fewer" = some (.ref A.held_with_fewer)
 k_held_with_fewer : PySem.W.keepIn K (.ref A.held_with_fewer) = true
 F_held_with_fewer : Fun K "held_with_fewer" "held_with_fewer" bL A.held_with_fewer D.held_with_fewer
 F_Sell_held_behind : Fun K "held_behind" "Sell.held_behind" bD A.Sell_held_behind D.Sell_held_behind
 F_Book_do : Fun K "do" "Book.do" fZ A.Book_do D.Book_do
 m_with_all_done : mg "with_all_done" = some (.ref A.with_all_done)
 k_with_all_done : PySem.W.keepIn K (.ref A.with_all_done) = true
 F_with_all_done : Fun K "with_all_done" "with_all_done" cG A.with_all_done D.with_all_done
 F_Book___init__ : Fun K "__init__" "Book.__init__" cD A.Book___init__ D.Book___init__
 m_book_of : mg "book_of" = some (.ref A.book_of)
 k_book_of : PySem.W.keepIn K (.ref A.book_of) = true
 F_book_of : Fun K "book_of" "book_of" gj A.book_of D.book_of
 m_is_whole_number : mg "is_whole_number" = some (.ref A.is_whole_number)
 k_is_whole_number : PySem.W.keepIn K (.ref A.is_whole_number) = true
 F_is_whole_number : Fun K "is_whole_number" "is_whole_number" bM A.is_whole_number D.is_whole_number
 m_check_number : mg "check_number" = some (.ref A.check_number)
 k_check_number : PySem.W.keepIn K (.ref A.check_number) = true
 F_check_number : Fun K "check_number" "check_number" cN A.check_number D.check_number
 m_is_name : mg "is_name" = some (.ref A.is_name)
 k_is_name : PySem.W.keepIn K (.ref A.is_name) = true
 F_is_name : Fun K "is_name" "is_name" gG A.is_name D.is_name
 m_check_name : mg "check_name" = some (.ref A.check_name)
 k_check_name : PySem.W.keepIn K (.ref A.check_name) = true
 F_check_name : Fun K "check_name" "check_name" dU A.check_name D.check_name
 F_Entry___init__ : Fun K "__init__" "Entry.__init__" bV A.Entry___init__ D.Entry___init__
 m_check_trade : mg "check_trade" = some (.ref A.check_trade)
 k_check_trade : PySem.W.keepIn K (.ref A.check_trade) = true
 F_check_trade : Fun K "check_trade" "check_trade" dm A.check_trade D.check_trade
 m_check_named : mg "check_named" = some (.ref A.check_named)
 k_check_named : PySem.W.keepIn K (.ref A.check_named) = true
 F_check_named : Fun K "check_named" "check_named" dh A.check_named D.check_named
 m_named_copy : mg "named_copy" = some (.ref A.named_copy)
 k_named_copy : PySem.W.keepIn K (.ref A.named_copy) = true
 F_named_copy : Fun K "named_copy" "named_copy" dR A.named_copy D.named_copy
 F_Sell___init__ : FunD K "__init__" "Sell.__init__" cg A.Sell___init__ D.Sell___init__ [V.int 0, V.non]
 m__law_gone : mg "_law_gone" = some (.ref A._law_gone)
 k__law_gone : PySem.W.keepIn K (.ref A._law_gone) = true
 F__law_gone : Fun K "_law_gone" "_law_gone" eG A._law_gone D._law_gone
 F_Gift___init__ : Fun K "__init__" "Gift.__init__" cj A.Gift___init__ D.Gift___init__
 F_Buy___init__ : FunD K "__init__" "Buy.__init__" cO A.Buy___init__ D.Buy___init__ [V.int 0]
 m__law_left : mg "_law_left" = some (.ref A._law_left)
 k__law_left : PySem.W.keepIn K (.ref A._law_left) = true
 F__law_left : Fun K "_law_left" "_law_left" eE A._law_left D._law_left
 m_law : mg "law" = some (.ref A.law)
 k_law : PySem.W.keepIn K (.ref A.law) = true
 F_law : Fun K "law" "law" sY A.law D.law
 b_list : mg "list" = none
 b_sum : mg "sum" = none
 b_str : mg "str" = none
 b_dict : mg "dict" = none
 b_sorted : mg "sorted" = none
 b_max : mg "max" = none
 b_len : mg "len" = none
 b_min : mg "min" = none
 b_range : mg "range" = none
 b_zip : mg "zip" = none
 b_any : mg "any" = none
 b_isinstance : mg "isinstance" = none
 b_int : mg "int" = none
 b_bool : mg "bool" = none
 b_all : mg "all" = none
 b_enumerate : mg "enumerate" = none
 m_Sale : mg "Sale" = some (.ref A.C_Sale)
 m_Book : mg "Book" = some (.ref A.C_Book)
 m_Lot : mg "Lot" = some (.ref A.C_Lot)
 m_Way : mg "Way" = some (.ref A.C_Way)
 m_Eldest : mg "Eldest" = some (.ref A.C_Eldest)
 m_NoLot : mg "NoLot" = some (.ref A.C_NoLot)
 m_Buy : mg "Buy" = some (.ref A.C_Buy)
 m_Gift : mg "Gift" = some (.ref A.C_Gift)
 m_Sell : mg "Sell" = some (.ref A.C_Sell)
 m_Entry : mg "Entry" = some (.ref A.C_Entry)
 g_MOST_LETTERS : mg "MOST_LETTERS" = some (.int 8 A.t_MOST_LETTERS)
 g_MOST_DAY : mg "MOST_DAY" = some (.int 1000000 A.t_MOST_DAY)
 g_MOST_NUMBER : mg "MOST_NUMBER" = some (.int 1000000 A.t_MOST_NUMBER)
 g_MOST_PIECES : mg "MOST_PIECES" = some (.int 1000000000 A.t_MOST_PIECES)
 g_MOST_PRICE : mg "MOST_PRICE" = some (.int 1000000000 A.t_MOST_PRICE)
 g_MOST_FEE : mg "MOST_FEE" = some (.int 1000000000 A.t_MOST_FEE)
 g_MOST_GIFT_COST : mg "MOST_GIFT_COST" = some (.int 1000000000000000000 A.t_MOST_GIFT_COST)
 cl_Sale : Cls K A.C_Sale
 ty_Sale : InsTy K A.C_Sale
 n_Sale_number : NoAttr K A.C_Sale "number"
 n_Sale_day : NoAttr K A.C_Sale "day"
 n_Sale_ware : NoAttr K A.C_Sale "ware"
 n_Sale_proceeds : NoAttr K A.C_Sale "proceeds"
 n_Sale_parts : NoAttr K A.C_Sale "parts"
 n_Sale_laid_on : NoAttr K A.C_Sale "laid_on"
 cl_Book : Cls K A.C_Book
 ty_Book : InsTy K A.C_Book
 n_Book_way : NoAttr K A.C_Book "way"
 n_Book_rows : NoAttr K A.C_Book "rows"
 n_Book_last_place : NoAttr K A.C_Book "last_place"
 n_Book_paid : NoAttr K A.C_Book "paid"
 n_Book_brought : NoAttr K A.C_Book "brought"
 n_Book_sales_done : NoAttr K A.C_Book "sales_done"
 n_Book_givings_done : NoAttr K A.C_Book "givings_done"
 cl_Lot : Cls K A.C_Lot
 ty_Lot : InsTy K A.C_Lot
 n_Lot_number : NoAttr K A.C_Lot "number"
 n_Lot_since : NoAttr K A.C_Lot "since"
 n_Lot_pieces : NoAttr K A.C_Lot "pieces"
 n_Lot_cost : NoAttr K A.C_Lot "cost"
 cl_Way : Cls K A.C_Way
 ty_Way : InsTy K A.C_Way
 cl_Eldest : Cls K A.C_Eldest
 ty_Eldest : InsTy K A.C_Eldest
 cl_Buy : Cls K A.C_Buy
 ty_Buy : InsTy K A.C_Buy
 n_Buy_day : NoAttr K A.C_Buy "day"
 n_Buy_number : NoAttr K A.C_Buy "number"
 n_Buy_ware : NoAttr K A.C_Buy "ware"
 n_Buy_pieces : NoAttr K A.C_Buy "pieces"
 n_Buy_price : NoAttr K A.C_Buy "price"
 n_Buy_fee : NoAttr K A.C_Buy "fee"
 n_Buy_cost : NoAttr K A.C_Buy "cost"
 cl_Gift : Cls K A.C_Gift
 ty_Gift : InsTy K A.C_Gift
 n_Gift_day : NoAttr K A.C_Gift "day"
 n_Gift_number : NoAttr K A.C_Gift "number"
 n_Gift_ware : NoAttr K A.C_Gift "ware"
 n_Gift_pieces : NoAttr K A.C_Gift "pieces"
 n_Gift_cost : NoAttr K A.C_Gift "cost"
 n_Gift_since : NoAttr K A.C_Gift "since"
 cl_Sell : Cls K A.C_Sell
 ty_Sell : InsTy K A.C_Sell
 n_Sell_day : NoAttr K A.C_Sell "day"
 n_Sell_number : NoAttr K A.C_Sell "number"
 n_Sell_ware : NoAttr K A.C_Sell "ware"
 n_Sell_pieces : NoAttr K A.C_Sell "pieces"
 n_Sell_price : NoAttr K A.C_Sell "price"
 n_Sell_fee : NoAttr K A.C_Sell "fee"
 n_Sell_named : NoAttr K A.C_Sell "named"
 n_Sell_proceeds : NoAttr K A.C_Sell "proceeds"
 cl_Entry : Cls K A.C_Entry
 ty_Entry : InsTy K A.C_Entry
 n_Entry_day : NoAttr K A.C_Entry "day"
 n_Entry_number : NoAttr K A.C_Entry "number"
 n_Entry_ware : NoAttr K A.C_Entry "ware"
 mk_Sale : Mk K A.C_Sale A.Sale___init__
 mk_Lot : Mk K A.C_Lot A.Lot___init__
 mk_Book : Mk K A.C_Book A.Book___init__
 mk_Sell : Mk K A.C_Sell A.Sell___init__
 mk_Gift : Mk K A.C_Gift A.Gift___init__
 mk_Buy : Mk K A.C_Buy A.Buy___init__
 mk0_Eldest : Mk0 K A.C_Eldest
 me_Sale_gain : Meth K A.C_Sale "gain" A.Sale_gain
 me_Sale_counted : Meth K A.C_Sale "counted" A.Sale_counted
 me_Book_sales : Meth K A.C_Book "sales" A.Book_sales
 me_Book_row_of : Meth K A.C_Book "row_of" A.Book_row_of
 me_Book_held : Meth K A.C_Book "held" A.Book_held
 me_Lot_with_more : Meth K A.C_Lot "with_more" A.Lot_with_more
 me_Book_keep_row : Meth K A.C_Book "keep_row" A.Book_keep_row
 me_Book_put : Meth K A.C_Book "put" A.Book_put
 me_Book_lay_on : Meth K A.C_Book "lay_on" A.Book_lay_on
 me_Lot_taken : Meth K A.C_Lot "taken" A.Lot_taken
 me_Eldest_levelled : Meth K A.C_Eldest "levelled" A.Way_levelled
 me_Eldest_picks : Meth K A.C_Eldest "picks" A.Eldest_picks
 me_Book_taken_for : Meth K A.C_Book "taken_for" A.Book_taken_for
 me_Book_do_buy : Meth K A.C_Book "do_buy" A.Book_do_buy
 me_Book_do_gift : Meth K A.C_Book "do_gift" A.Book_do_gift
 me_Book_do_sell : Meth K A.C_Book "do_sell" A.Book_do_sell
 me_Book_do_by_kind : Meth K A.C_Book "do_by_kind" A.Book_do_by_kind
 me_Buy_held_behind : Meth K A.C_Buy "held_behind" A.Buy_held_behind
 me_Gift_held_behind : Meth K A.C_Gift "held_behind" A.Gift_held_behind
 me_Sell_held_behind : Meth K A.C_Sell "held_behind" A.Sell_held_behind
 me_Book_do : Meth K A.C_Book "do" A.Book_do
 cf_Entry___init__ : ClsFn K A.C_Entry "__init__" A.Entry___init__
 ki_BB : PySem.W.kitOne K (.ref A.C_Buy) (.ref A.C_Buy) = some true
 ki_GB : PySem.W.kitOne K (.ref A.C_Gift) (.ref A.C_Buy) = some false
 ki_GG : PySem.W.kitOne K (.ref A.C_Gift) (.ref A.C_Gift) = some true
 ki_SB : PySem.W.kitOne K (.ref A.C_Sell) (.ref A.C_Buy) = some false
 ki_SG : PySem.W.kitOne K (.ref A.C_Sell) (.ref A.C_Gift) = some false
 ki_SS : PySem.W.kitOne K (.ref A.C_Sell) (.ref A.C_Sell) = some true
theorem sc__law_digits : FnScope ["_law_cell", "_law_bases", "_law_row", "_law_base"] ["_law_cell", "_law_bases"] (ak dF) := ⟨rfl, rfl, rfl, by decide +kernel, rfl, by decide +kernel, by decide +kernel⟩
theorem mq : FnScope ["self", "number", "day", "ware", "proceeds", "parts", "laid_on"] ["self", "number", "day", "ware", "proceeds", "parts", "laid_on"] (ak bZ) := ⟨rfl, rfl, rfl, by decide +kernel, rfl, by decide +kernel, by decide +kernel⟩
theorem oJ : FnScope ["sale"] ["sale"] (ak cR) := ⟨rfl, rfl, rfl, by decide +kernel, rfl, by decide +kernel, by decide +kernel⟩
theorem rR : FnScope ["self"] ["self"] (ak dX) := ⟨rfl, rfl, rfl, by decide +kernel, rfl, by decide +kernel, by decide +kernel⟩
theorem mz : FnScope ["parts"] ["parts"] (ak cA) := ⟨rfl, rfl, rfl, by decide +kernel, rfl, by decide +kernel, by decide +kernel⟩
theorem tY : FnScope ["self"] ["self"] (ak eU) := ⟨rfl, rfl, rfl, by decide +kernel, rfl, by decide +kernel, by decide +kernel⟩
theorem oY : FnScope ["self"] ["self"] (ak cW) := ⟨rfl, rfl, rfl, by decide +kernel, rfl, by decide +kernel, by decide +kernel⟩
theorem sc_words_of_sale : FnScope ["sale", "words"] ["sale"] (ak cI) := ⟨rfl, rfl, rfl, by decide +kernel, rfl, by decide +kernel, by decide +kernel⟩
theorem vI : FnScope ["lots"] ["lots"] (ak eX) := ⟨rfl, rfl, rfl, by decide +kernel, rfl, by decide +kernel, by decide +kernel⟩
theorem zP : FnScope ["lots"] ["lots"] (ak gD) := ⟨rfl, rfl, rfl, by decide +kernel, rfl, by decide +kernel, by decide +kernel⟩
theorem sc_word_of_lot : FnScope ["lot", "number", "pieces", "cost"] ["lot"] (ak dH) := ⟨rfl, rfl, rfl, by decide +kernel, rfl, by decide +kernel, by decide +kernel⟩
theorem mG : FnScope ["ware", "lots"] ["ware", "lots"] (ak cH) := ⟨rfl, rfl, rfl, by decide +kernel, rfl, by decide +kernel, by decide +kernel⟩
theorem nZ : FnScope ["words"] ["words"] (ak cT) := ⟨rfl, rfl, rfl, by decide +kernel, rfl, by decide +kernel, by decide +kernel⟩
theorem qe : FnScope ["self", "ware"] ["self", "ware"] (ak dG) := ⟨rfl, rfl, rfl, by decide +kernel, rfl, by decide +kernel, by decide +kernel⟩
theorem uJ : FnScope ["self"] ["self"] (ak eY) := ⟨rfl, rfl, rfl, by decide +kernel, rfl, by decide +kernel, by decide +kernel⟩
theorem sc_report_of : FnScope ["book", "sales", "rows"] ["book"] (ak eN) := ⟨rfl, rfl, rfl, by decide +kernel, rfl, by decide +kernel, by decide +kernel⟩
theorem sc__law_mixed : FnScope ["_law_cell", "_law_k", "_law_number", "_law_other"] ["_law_cell", "_law_k"] (ak dW) := ⟨rfl, rfl, rfl, by decide +kernel, rfl, by decide +kernel, by decide +kernel⟩
theorem sc__law_cells : FnScope ["_law_script", "_law_many"] ["_law_script"] (ak dO) := ⟨rfl, rfl, rfl, by decide +kernel, rfl, by decide +kernel, by decide +kernel⟩
theorem sc_refuse_twice : FnScope ["numbers", "rising", "ahead", "behind"] ["numbers"] (ak cV) := ⟨rfl, rfl, rfl, by decide +kernel, rfl, by decide +kernel, by decide +kernel⟩
theorem wK : FnScope ["entry"] ["entry"] (ak fJ) := ⟨rfl, rfl, rfl, by decide +kernel, rfl, by decide +kernel, by decide +kernel⟩
theorem wR : FnScope ["entries"] ["entries"] (ak fH) := ⟨rfl, rfl, rfl, by decide +kernel, rfl, by decide +kernel, by decide +kernel⟩
theorem lF : FnScope ["self", "ware", "row"] ["self", "ware", "row"] (ak cF) := ⟨rfl, rfl, rfl, by decide +kernel, rfl, by decide +kernel, by decide +kernel⟩
theorem nY : FnScope ["lot"] ["lot"] (ak cU) := ⟨rfl, rfl, rfl, by decide +kernel, rfl, by decide +kernel, by decide +kernel⟩
theorem nO : FnScope ["self", "number", "since", "pieces", "cost"] ["self", "number", "since", "pieces", "cost"] (ak cL) := ⟨rfl, rfl, rfl, by decide +kernel, rfl, by decide +kernel, by decide +kernel⟩
theorem lE : FnScope ["self", "pieces", "cost"] ["self", "pieces", "cost"] (ak cu) := ⟨rfl, rfl, rfl, by decide +kernel, rfl, by decide +kernel, by decide +kernel⟩
theorem xj : FnScope ["lots", "lot"] ["lots", "lot"] (ak fG) := ⟨rfl, rfl, rfl, by decide +kernel, rfl, by decide +kernel, by decide +kernel⟩
theorem sc_Book_put : FnScope ["self", "ware", "lots", "row", "lot"] ["self", "ware", "lots"] (ak fK) := ⟨rfl, rfl, rfl, by decide +kernel, rfl, by decide +kernel, by decide +kernel⟩
theorem qi : FnScope ["self", "entry"] ["self", "entry"] (ak dB) := ⟨rfl, rfl, rfl, by decide +kernel, rfl, by decide +kernel, by decide +kernel⟩
theorem sc_Book_do_buy : FnScope ["self", "entry", "cost"] ["self", "entry"] (ak di) := ⟨rfl, rfl, rfl, by decide +kernel, rfl, by decide +kernel, by decide +kernel⟩
theorem mR : FnScope ["self", "entry"] ["self", "entry"] (ak cP) := ⟨rfl, rfl, rfl, by decide +kernel, rfl, by decide +kernel, by decide +kernel⟩
theorem sc_sum_of_weights : FnScope ["weights", "whole"] ["weights"] (ak bR) := ⟨rfl, rfl, rfl, by decide +kernel, rfl, by decide +kernel, by decide +kernel⟩
theorem zR : FnScope ["amount", "part", "whole"] ["amount", "part", "whole"] (ak gC) := ⟨rfl, rfl, rfl, by decide +kernel, rfl, by decide +kernel, by decide +kernel⟩
theorem sc_dealt : FnScope ["amount", "weights", "whole", "shares", "weight_till_here", "dealt_till_here", "weight", "dealt_with_it"] ["amount", "weights"] (ak kh) := ⟨rfl, rfl, rfl, by decide +kernel, rfl, by decide +kernel, by decide +kernel⟩
theorem sc_sale_of : FnScope ["entry", "lots", "shares", "parts"] ["entry", "lots"] (ak gw) := ⟨rfl, rfl, rfl, by decide +kernel, rfl, by decide +kernel, by decide +kernel⟩
theorem pF : FnScope ["self", "lots"] ["self", "lots"] (ak cM) := ⟨rfl, rfl, rfl, by decide +kernel, rfl, by decide +kernel, by decide +kernel⟩
theorem sc_Lot_taken : FnScope ["self", "pieces", "cost", "gone"] ["self", "pieces"] (ak eQ) := ⟨rfl, rfl, rfl, by decide +kernel, rfl, by decide +kernel, by decide +kernel⟩
theorem sc_row_without : FnScope ["lots", "picks", "left", "taken", "number", "pieces", "lot", "parts"] ["lots", "picks"] (ak dD) := ⟨rfl, rfl, rfl, by decide +kernel, rfl, by decide +kernel, by decide +kernel⟩
theorem sc_picks_in_turn : FnScope ["lots", "pieces", "picks", "wanted", "lot", "going"] ["lots", "pieces"] (ak cC) := ⟨rfl, rfl, rfl, by decide +kernel, rfl, by decide +kernel, by decide +kernel⟩
theorem pQ : FnScope ["self", "lots", "pieces"] ["self", "lots", "pieces"] (ak cQ) := ⟨rfl, rfl, rfl, by decide +kernel, rfl, by decide +kernel, by decide +kernel⟩
theorem sc_gone_from : FnScope ["way", "lots", "pieces", "named", "row", "picks"] ["way", "lots", "pieces", "named"] (ak eF) := ⟨rfl, rfl, rfl, by decide +kernel, rfl, by decide +kernel, by decide +kernel⟩
theorem sc_Book_taken_for : FnScope ["self", "entry", "gone"] ["self", "entry"] (ak bT) := ⟨rfl, rfl, rfl, by decide +kernel, rfl, by decide +kernel, by decide +kernel⟩
theorem oF : FnScope ["self", "entry"] ["self", "entry"] (ak cX) := ⟨rfl, rfl, rfl, by decide +kernel, rfl, by decide +kernel, by decide +kernel⟩
theorem jE : FnScope ["self", "entry"] ["self", "entry"] (ak bN) := ⟨rfl, rfl, rfl, by decide +kernel, rfl, by decide +kernel, by decide +kernel⟩
theorem sc_held_with : FnScope ["held", "ware", "pieces", "changed"] ["held", "ware", "pieces"] (ak eO) := ⟨rfl, rfl, rfl, by decide +kernel, rfl, by decide +kernel, by decide +kernel⟩
theorem jQ : FnScope ["held", "ware", "pieces"] ["held", "ware", "pieces"] (ak bU) := ⟨rfl, rfl, rfl, by decide +kernel, rfl, by decide +kernel, by decide +kernel⟩
theorem jC : FnScope ["self", "held"] ["self", "held"] (ak bO) := ⟨rfl, rfl, rfl, by decide +kernel, rfl, by decide +kernel, by decide +kernel⟩
theorem je : FnScope ["self", "held"] ["self", "held"] (ak bG) := ⟨rfl, rfl, rfl, by decide +kernel, rfl, by decide +kernel, by decide +kernel⟩
theorem sc_held_with_fewer : FnScope ["held", "ware", "pieces", "before"] ["held", "ware", "pieces"] (ak bL) := ⟨rfl, rfl, rfl, by decide +kernel, rfl, by decide +kernel, by decide +kernel⟩
theorem jd : FnScope ["self", "held"] ["self", "held"] (ak bD) := ⟨rfl, rfl, rfl, by decide +kernel, rfl, by decide +kernel, by decide +kernel⟩
theorem zc : FnScope ["self", "entry"] ["self", "entry"] (ak fZ) := ⟨rfl, rfl, rfl, by decide +kernel, rfl, by decide +kernel, by decide +kernel⟩
theorem sc_with_all_done : FnScope ["book", "entries", "entry"] ["book", "entries"] (ak cG) := ⟨rfl, rfl, rfl, by decide +kernel, rfl, by decide +kernel, by decide +kernel⟩
theorem lV : FnScope ["self", "way"] ["self", "way"] (ak cD) := ⟨rfl, rfl, rfl, by decide +kernel, rfl, by decide +kernel, by decide +kernel⟩
theorem zF : FnScope ["way", "entries"] ["way", "entries"] (ak gj) := ⟨rfl, rfl, rfl, by decide +kernel, rfl, by decide +kernel, by decide +kernel⟩
theorem jJ : FnScope ["value"] ["value"] (ak bM) := ⟨rfl, rfl, rfl, by decide +kernel, rfl, by decide +kernel, by decide +kernel⟩
theorem oK : FnScope ["what", "value", "least", "most"] ["what", "value", "least", "most"] (ak cN) := ⟨rfl, rfl, rfl, by decide +kernel, rfl, by decide +kernel, by decide +kernel⟩
theorem zA : FnScope ["value"] ["value"] (ak gG) := ⟨rfl, rfl, rfl, by decide +kernel, rfl, by decide +kernel, by decide +kernel⟩
theorem rF : FnScope ["what", "value"] ["what", "value"] (ak dU) := ⟨rfl, rfl, rfl, by decide +kernel, rfl, by decide +kernel, by decide +kernel⟩
theorem jV : FnScope ["self", "day", "number", "ware"] ["self", "day", "number", "ware"] (ak bV) := ⟨rfl, rfl, rfl, by decide +kernel, rfl, by decide +kernel, by decide +kernel⟩
theorem qm : FnScope ["pieces", "price", "fee"] ["pieces", "price", "fee"] (ak dm) := ⟨rfl, rfl, rfl, by decide +kernel, rfl, by decide +kernel, by decide +kernel⟩
theorem ql : FnScope ["named", "pieces", "seen", "lot", "lot_pieces"] ["named", "pieces"] (ak dh) := ⟨rfl, rfl, rfl, by decide +kernel, rfl, by decide +kernel, by decide +kernel⟩
theorem sS : FnScope ["named"] ["named"] (ak dR) := ⟨rfl, rfl, rfl, by decide +kernel, rfl, by decide +kernel, by decide +kernel⟩
theorem mD : FnScope ["self", "day", "number", "ware", "pieces", "price", "fee", "named"] ["self", "day", "number", "ware", "pieces", "price", "fee", "named"] (ak cg) := ⟨rfl, rfl, rfl, by decide +kernel, rfl, by decide +kernel, by decide +kernel⟩
theorem sc__law_gone : FnScope ["_law_lots", "_law_pieces", "_law_cost", "_law_since", "_law_number", "_law_there", "_law_worth", "_law_some", "_law_part"] ["_law_lots", "_law_pieces"] (ak eG) := ⟨rfl, rfl, rfl, by decide +kernel, rfl, by decide +kernel, by decide +kernel⟩
theorem lX : FnScope ["self", "day", "number", "ware", "pieces", "cost", "since"] ["self", "day", "number", "ware", "pieces", "cost", "since"] (ak cj) := ⟨rfl, rfl, rfl, by decide +kernel, rfl, by decide +kernel, by decide +kernel⟩
theorem pL : FnScope ["self", "day", "number", "ware", "pieces", "price", "fee"] ["self", "day", "number", "ware", "pieces", "price", "fee"] (ak cO) := ⟨rfl, rfl, rfl, by decide +kernel, rfl, by decide +kernel, by decide +kernel⟩
theorem sc__law_left : FnScope ["_law_lots", "_law_pieces", "_law_text", "_law_since", "_law_number", "_law_some", "_law_cost"] ["_law_lots"] (ak eE) := ⟨rfl, rfl, rfl, by decide +kernel, rfl, by decide +kernel, by decide +kernel⟩
theorem sc_law : FnScope ["_law_script", "_law_entries", "_law_lots", "_law_text", "_law_total", "_law_day", "_law_bases", "_law_k", "_law_cell", "_law_way", "_law_more", "_law_kind", "_law_size", "_law_pieces", "_law_price", "_law_fee", "_law_held", "_law_gain", "_law_since"] ["_law_script"] (ak sY) := ⟨rfl, rfl, rfl, by decide +kernel, rfl, by decide +kernel, by decide +kernel⟩
section
variable {P : Program} {w : World} {K : Fg_} {mg : Str -> Option Value} {base : Heap} {A : Adr} {D : Fds}
theorem sJ (T : Txt K mg A D) : Binds K D._law_digits ["_law_cell", "_law_bases"] [] := T.F__law_digits.binds (ps := ["_law_cell", "_law_bases"]) fun _ _ _ _ _ _ us hl => match us, hl with | [_, _], _ => rfl
theorem iB (T : Txt K mg A D) : Binds K D.Sale___init__ ["self", "number", "day", "ware", "proceeds", "parts", "laid_on"] [] := T.F_Sale___init__.binds (ps := ["self", "number", "day", "ware", "proceeds", "parts", "laid_on"]) fun _ _ _ _ _ _ us hl => match us, hl with | [_, _, _, _, _, _, _], _ => rfl
theorem qz (T : Txt K mg A D) : Binds K D.copy_of_sale ["sale"] [] := T.F_copy_of_sale.binds (ps := ["sale"]) fun _ _ _ _ _ _ us hl => match us, hl with | [_], _ => rfl
theorem tL (T : Txt K mg A D) : Binds K D.Book_sales ["self"] [] := T.F_Book_sales.binds (ps := ["self"]) fun _ _ _ _ _ _ us hl => match us, hl with | [_], _ => rfl
theorem mW (T : Txt K mg A D) : Binds K D.cost_of_parts ["parts"] [] := T.F_cost_of_parts.binds (ps := ["parts"]) fun _ _ _ _ _ _ us hl => match us, hl with | [_], _ => rfl
theorem xF (T : Txt K mg A D) : Binds K D.Sale_gain ["self"] [] := T.F_Sale_gain.binds (ps := ["self"]) fun _ _ _ _ _ _ us hl => match us, hl with | [_], _ => rfl
theorem iY (T : Txt K mg A D) : Binds K D.Sale_counted ["self"] [] := T.F_Sale_counted.binds (ps := ["self"]) fun _ _ _ _ _ _ us hl => match us, hl with | [_], _ => rfl
theorem oX (T : Txt K mg A D) : Binds K D.words_of_sale ["sale"] [] := T.F_words_of_sale.binds (ps := ["sale"]) fun _ _ _ _ _ _ us hl => match us, hl with | [_], _ => rfl
theorem nQ (T : Txt K mg A D) : Binds K D.pieces_in ["lots"] [] := T.F_pieces_in.binds (ps := ["lots"]) fun _ _ _ _ _ _ us hl => match us, hl with | [_], _ => rfl
theorem Br (T : Txt K mg A D) : Binds K D.cost_in ["lots"] [] := T.F_cost_in.binds (ps := ["lots"]) fun _ _ _ _ _ _ us hl => match us, hl with | [_], _ => rfl
theorem sy (T : Txt K mg A D) : Binds K D.word_of_lot ["lot"] [] := T.F_word_of_lot.binds (ps := ["lot"]) fun _ _ _ _ _ _ us hl => match us, hl with | [_], _ => rfl
theorem pR (T : Txt K mg A D) : Binds K D.words_of_held ["ware", "lots"] [] := T.F_words_of_held.binds (ps := ["ware", "lots"]) fun _ _ _ _ _ _ us hl => match us, hl with | [_, _], _ => rfl
theorem qN (T : Txt K mg A D) : Binds K D.row_of_words ["words"] [] := T.F_row_of_words.binds (ps := ["words"]) fun _ _ _ _ _ _ us hl => match us, hl with | [_], _ => rfl
theorem gR (T : Txt K mg A D) : Binds K D.Book_row_of ["self", "ware"] [] := T.F_Book_row_of.binds (ps := ["self", "ware"]) fun _ _ _ _ _ _ us hl => match us, hl with | [_, _], _ => rfl
theorem oh (T : Txt K mg A D) : Binds K D.Book_held ["self"] [] := T.F_Book_held.binds (ps := ["self"]) fun _ _ _ _ _ _ us hl => match us, hl with | [_], _ => rfl
theorem wZ (T : Txt K mg A D) : Binds K D.report_of ["book"] [] := T.F_report_of.binds (ps := ["book"]) fun _ _ _ _ _ _ us hl => match us, hl with | [_], _ => rfl
theorem uz (T : Txt K mg A D) : Binds K D._law_mixed ["_law_cell", "_law_k"] [] := T.F__law_mixed.binds (ps := ["_law_cell", "_law_k"]) fun _ _ _ _ _ _ us hl => match us, hl with | [_, _], _ => rfl
theorem tX (T : Txt K mg A D) : Binds K D._law_cells ["_law_script"] [] := T.F__law_cells.binds (ps := ["_law_script"]) fun _ _ _ _ _ _ us hl => match us, hl with | [_], _ => rfl
theorem qQ (T : Txt K mg A D) : Binds K D.refuse_twice ["numbers"] [] := T.F_refuse_twice.binds (ps := ["numbers"]) fun _ _ _ _ _ _ us hl => match us, hl with | [_], _ => rfl
theorem jZ (T : Txt K mg A D) : Binds K D.place_of ["entry"] [] := T.F_place_of.binds (ps := ["entry"]) fun _ _ _ _ _ _ us hl => match us, hl with | [_], _ => rfl
theorem zO (T : Txt K mg A D) : Binds K D.in_order ["entries"] [] := T.F_in_order.binds (ps := ["entries"]) fun _ _ _ _ _ _ us hl => match us, hl with | [_], _ => rfl
theorem iC (T : Txt K mg A D) : Binds K D.Book_keep_row ["self", "ware", "row"] [] := T.F_Book_keep_row.binds (ps := ["self", "ware", "row"]) fun _ _ _ _ _ _ us hl => match us, hl with | [_, _, _], _ => rfl
theorem qw (T : Txt K mg A D) : Binds K D.place_in_row ["lot"] [] := T.F_place_in_row.binds (ps := ["lot"]) fun _ _ _ _ _ _ us hl => match us, hl with | [_], _ => rfl
theorem dI (T : Txt K mg A D) : Binds K D.Lot___init__ ["self", "number", "since", "pieces", "cost"] [] := T.F_Lot___init__.binds (ps := ["self", "number", "since", "pieces", "cost"]) fun _ _ _ _ _ _ us hl => match us, hl with | [_, _, _, _, _], _ => rfl
theorem pI (T : Txt K mg A D) : Binds K D.Lot_with_more ["self", "pieces", "cost"] [] := T.F_Lot_with_more.binds (ps := ["self", "pieces", "cost"]) fun _ _ _ _ _ _ us hl => match us, hl with | [_, _, _], _ => rfl
theorem yO (T : Txt K mg A D) : Binds K D.row_with ["lots", "lot"] [] := T.F_row_with.binds (ps := ["lots", "lot"]) fun _ _ _ _ _ _ us hl => match us, hl with | [_, _], _ => rfl
theorem qX (T : Txt K mg A D) : Binds K D.Book_put ["self", "ware", "lots"] [] := T.F_Book_put.binds (ps := ["self", "ware", "lots"]) fun _ _ _ _ _ _ us hl => match us, hl with | [_, _, _], _ => rfl
theorem sU (T : Txt K mg A D) : Binds K D.Book_lay_on ["self", "entry"] [] := T.F_Book_lay_on.binds (ps := ["self", "entry"]) fun _ _ _ _ _ _ us hl => match us, hl with | [_, _], _ => rfl
theorem rn (T : Txt K mg A D) : Binds K D.Book_do_buy ["self", "entry"] [] := T.F_Book_do_buy.binds (ps := ["self", "entry"]) fun _ _ _ _ _ _ us hl => match us, hl with | [_, _], _ => rfl
theorem qK (T : Txt K mg A D) : Binds K D.Book_do_gift ["self", "entry"] [] := T.F_Book_do_gift.binds (ps := ["self", "entry"]) fun _ _ _ _ _ _ us hl => match us, hl with | [_, _], _ => rfl
theorem mH (T : Txt K mg A D) : Binds K D.sum_of_weights ["weights"] [] := T.F_sum_of_weights.binds (ps := ["weights"]) fun _ _ _ _ _ _ us hl => match us, hl with | [_], _ => rfl
theorem vh (T : Txt K mg A D) : Binds K D.part_of ["amount", "part", "whole"] [] := T.F_part_of.binds (ps := ["amount", "part", "whole"]) fun _ _ _ _ _ _ us hl => match us, hl with | [_, _, _], _ => rfl
theorem Jk (T : Txt K mg A D) : Binds K D.dealt ["amount", "weights"] [] := T.F_dealt.binds (ps := ["amount", "weights"]) fun _ _ _ _ _ _ us hl => match us, hl with | [_, _], _ => rfl
theorem Dz (T : Txt K mg A D) : Binds K D.sale_of ["entry", "lots"] [] := T.F_sale_of.binds (ps := ["entry", "lots"]) fun _ _ _ _ _ _ us hl => match us, hl with | [_, _], _ => rfl
theorem qL (T : Txt K mg A D) : Binds K D.Way_levelled ["self", "lots"] [] := T.F_Way_levelled.binds (ps := ["self", "lots"]) fun _ _ _ _ _ _ us hl => match us, hl with | [_, _], _ => rfl
theorem wY (T : Txt K mg A D) : Binds K D.Lot_taken ["self", "pieces"] [] := T.F_Lot_taken.binds (ps := ["self", "pieces"]) fun _ _ _ _ _ _ us hl => match us, hl with | [_, _], _ => rfl
theorem rM (T : Txt K mg A D) : Binds K D.row_without ["lots", "picks"] [] := T.F_row_without.binds (ps := ["lots", "picks"]) fun _ _ _ _ _ _ us hl => match us, hl with | [_, _], _ => rfl
theorem oH (T : Txt K mg A D) : Binds K D.picks_in_turn ["lots", "pieces"] [] := T.F_picks_in_turn.binds (ps := ["lots", "pieces"]) fun _ _ _ _ _ _ us hl => match us, hl with | [_, _], _ => rfl
theorem qt (T : Txt K mg A D) : Binds K D.Eldest_picks ["self", "lots", "pieces"] [] := T.F_Eldest_picks.binds (ps := ["self", "lots", "pieces"]) fun _ _ _ _ _ _ us hl => match us, hl with | [_, _, _], _ => rfl
theorem xM (T : Txt K mg A D) : Binds K D.gone_from ["way", "lots", "pieces", "named"] [] := T.F_gone_from.binds (ps := ["way", "lots", "pieces", "named"]) fun _ _ _ _ _ _ us hl => match us, hl with | [_, _, _, _], _ => rfl
theorem lU (T : Txt K mg A D) : Binds K D.Book_taken_for ["self", "entry"] [] := T.F_Book_taken_for.binds (ps := ["self", "entry"]) fun _ _ _ _ _ _ us hl => match us, hl with | [_, _], _ => rfl
theorem qP (T : Txt K mg A D) : Binds K D.Book_do_sell ["self", "entry"] [] := T.F_Book_do_sell.binds (ps := ["self", "entry"]) fun _ _ _ _ _ _ us hl => match us, hl with | [_, _], _ => rfl
theorem jT (T : Txt K mg A D) : Binds K D.Book_do_by_kind ["self", "entry"] [] := T.F_Book_do_by_kind.binds (ps := ["self", "entry"]) fun _ _ _ _ _ _ us hl => match us, hl with | [_, _], _ => rfl
theorem pA (T : Txt K mg A D) : Binds K D.held_with ["held", "ware", "pieces"] [] := T.F_held_with.binds (ps := ["held", "ware", "pieces"]) fun _ _ _ _ _ _ us hl => match us, hl with | [_, _, _], _ => rfl
theorem gY (T : Txt K mg A D) : Binds K D.held_with_more ["held", "ware", "pieces"] [] := T.F_held_with_more.binds (ps := ["held", "ware", "pieces"]) fun _ _ _ _ _ _ us hl => match us, hl with | [_, _, _], _ => rfl
theorem kj (T : Txt K mg A D) : Binds K D.Buy_held_behind ["self", "held"] [] := T.F_Buy_held_behind.binds (ps := ["self", "held"]) fun _ _ _ _ _ _ us hl => match us, hl with | [_, _], _ => rfl
theorem jn (T : Txt K mg A D) : Binds K D.Gift_held_behind ["self", "held"] [] := T.F_Gift_held_behind.binds (ps := ["self", "held"]) fun _ _ _ _ _ _ us hl => match us, hl with | [_, _], _ => rfl
theorem jP (T : Txt K mg A D) : Binds K D.held_with_fewer ["held", "ware", "pieces"] [] := T.F_held_with_fewer.binds (ps := ["held", "ware", "pieces"]) fun _ _ _ _ _ _ us hl => match us, hl with | [_, _, _], _ => rfl
theorem jz (T : Txt K mg A D) : Binds K D.Sell_held_behind ["self", "held"] [] := T.F_Sell_held_behind.binds (ps := ["self", "held"]) fun _ _ _ _ _ _ us hl => match us, hl with | [_, _], _ => rfl
theorem DW (T : Txt K mg A D) : Binds K D.Book_do ["self", "entry"] [] := T.F_Book_do.binds (ps := ["self", "entry"]) fun _ _ _ _ _ _ us hl => match us, hl with | [_, _], _ => rfl
theorem pC (T : Txt K mg A D) : Binds K D.with_all_done ["book", "entries"] [] := T.F_with_all_done.binds (ps := ["book", "entries"]) fun _ _ _ _ _ _ us hl => match us, hl with | [_, _], _ => rfl
theorem oV (T : Txt K mg A D) : Binds K D.Book___init__ ["self", "way"] [] := T.F_Book___init__.binds (ps := ["self", "way"]) fun _ _ _ _ _ _ us hl => match us, hl with | [_, _], _ => rfl
theorem CK (T : Txt K mg A D) : Binds K D.book_of ["way", "entries"] [] := T.F_book_of.binds (ps := ["way", "entries"]) fun _ _ _ _ _ _ us hl => match us, hl with | [_, _], _ => rfl
theorem jX (T : Txt K mg A D) : Binds K D.is_whole_number ["value"] [] := T.F_is_whole_number.binds (ps := ["value"]) fun _ _ _ _ _ _ us hl => match us, hl with | [_], _ => rfl
theorem bK (T : Txt K mg A D) : Binds K D.check_number ["what", "value", "least", "most"] [] := T.F_check_number.binds (ps := ["what", "value", "least", "most"]) fun _ _ _ _ _ _ us hl => match us, hl with | [_, _, _, _], _ => rfl
theorem CQ (T : Txt K mg A D) : Binds K D.is_name ["value"] [] := T.F_is_name.binds (ps := ["value"]) fun _ _ _ _ _ _ us hl => match us, hl with | [_], _ => rfl
theorem tK (T : Txt K mg A D) : Binds K D.check_name ["what", "value"] [] := T.F_check_name.binds (ps := ["what", "value"]) fun _ _ _ _ _ _ us hl => match us, hl with | [_, _], _ => rfl
theorem fu (T : Txt K mg A D) : Binds K D.Entry___init__ ["self", "day", "number", "ware"] [] := T.F_Entry___init__.binds (ps := ["self", "day", "number", "ware"]) fun _ _ _ _ _ _ us hl => match us, hl with | [_, _, _, _], _ => rfl
theorem jk (T : Txt K mg A D) : Binds K D.check_trade ["pieces", "price", "fee"] [] := T.F_check_trade.binds (ps := ["pieces", "price", "fee"]) fun _ _ _ _ _ _ us hl => match us, hl with | [_, _, _], _ => rfl
theorem sW (T : Txt K mg A D) : Binds K D.check_named ["named", "pieces"] [] := T.F_check_named.binds (ps := ["named", "pieces"]) fun _ _ _ _ _ _ us hl => match us, hl with | [_, _], _ => rfl
theorem tQ (T : Txt K mg A D) : Binds K D.named_copy ["named"] [] := T.F_named_copy.binds (ps := ["named"]) fun _ _ _ _ _ _ us hl => match us, hl with | [_], _ => rfl
theorem xJ (T : Txt K mg A D) : Binds K D._law_gone ["_law_lots", "_law_pieces"] [] := T.F__law_gone.binds (ps := ["_law_lots", "_law_pieces"]) fun _ _ _ _ _ _ us hl => match us, hl with | [_, _], _ => rfl
theorem pX (T : Txt K mg A D) : Binds K D.Gift___init__ ["self", "day", "number", "ware", "pieces", "cost", "since"] [] := T.F_Gift___init__.binds (ps := ["self", "day", "number", "ware", "pieces", "cost", "since"]) fun _ _ _ _ _ _ us hl => match us, hl with | [_, _, _, _, _, _, _], _ => rfl
theorem wz (T : Txt K mg A D) : Binds K D._law_left ["_law_lots"] [] := T.F__law_left.binds (ps := ["_law_lots"]) fun _ _ _ _ _ _ us hl => match us, hl with | [_], _ => rfl
theorem gZ (T : Txt K mg A D) : ∃ ds, Binds K D.Buy___init__ ["self", "day", "number", "ware", "pieces", "price", "fee"] ds /\ Vals (([V.int 0] : List V).drop 1) ds := T.F_Buy___init__.binds (ps := ["self", "day", "number", "ware", "pieces", "price", "fee"]) 1 fun Td kV doc pm an cdv ct its us h1 h2 => match its, h1, h2 with
 | [i0], _, h2 => by
  have h3 : us.length = 7 := by simpa using h2
  exact match us, h3 with | [u0, u1, u2, u3, u4, u5, u6], _ => ⟨_, rfl, rfl⟩
theorem gA (T : Txt K mg A D) : ∃ ds, Binds K D.Sell___init__ ["self", "day", "number", "ware", "pieces", "price", "fee", "named"] ds /\ Vals (([V.int 0, V.non] : List V).drop 1) ds := T.F_Sell___init__.binds (ps := ["self", "day", "number", "ware", "pieces", "price", "fee", "named"]) 1 fun Td kV doc pm an cdv ct its us h1 h2 => match its, h1, h2 with
 | [i0, i1], _, h2 => by
  have h3 : us.length = 7 := by simpa using h2
  exact match us, h3 with | [u0, u1, u2, u3, u4, u5, u6], _ => ⟨_, rfl, rfl⟩
end
end My
namespace My
open PySem L2 PyProof.Rows
end My
namespace My
open PySem L2 PyProof.Rows
section
variable {P : Program} {w : World} {K : Fg_} {mg : Str -> Option Value} {base : Heap} {A : Adr} {D : Fds}
theorem mO {x : Int} {m k : Nat} (hx : x.natAbs < 2 ^ m) (h : m <= k) : x.natAbs < 2 ^ k := Nat.lt_of_lt_of_le hx (Nat.pow_le_pow_right (by decide) h)
def Eb : Int -> List Int -> List Int
 | _, [] => []
 | c, b :: r => c % b :: Eb (c / b) r
def Jt : Int -> List Int -> Int
 | c, [] => c
 | c, b :: r => Jt (c / b) r
theorem tH : ∀ (c : Int) (l : List Int) (b : Int), Eb c (l ++ [b]) = Eb c l ++ [Jt c l % b]
 | _, [], _ => rfl
 | c, x :: r, b => by show c % x :: Eb (c / x) (r ++ [b]) = _; rw [tH]; rfl
theorem uN : ∀ (c : Int) (l : List Int) (b : Int), Jt c (l ++ [b]) = Jt c l / b
 | _, [], _ => rfl
 | c, x :: r, b => by show Jt (c / x) (r ++ [b]) = _; rw [uN]; rfl
theorem oU : ∀ (c : Int) (l : List Int), (Eb c l).length = l.length
 | _, [] => rfl
 | c, x :: r => by show (Eb (c / x) r).length + 1 = _; rw [oU]; rfl
def mixed (c k : Int) : Int :=
 (c + 7919 * k * k + k) * 982451653 % 2305843009213693951 * ((c + 7919 * k * k + k) * 982451653 % 2305843009213693951 * 1000003 % 1152921504606846883) *
  ((c + 7919 * k * k + k) * 982451653 % 2305843009213693951 / 4096 + (c + 7919 * k * k + k) * 982451653 % 2305843009213693951 * 1000003 % 1152921504606846883 / 64 + 1)
def uV (ns : List Int) : Int :=
 if (if (63 : Int) < (ns.length : Int) then (63 : Int) else (ns.length : Int)) < 3 + ns.headD 0 / 2 % 61 then 3 + ns.headD 0 / 2 % 61 else if (63 : Int) < (ns.length : Int) then (63 : Int) else (ns.length : Int)
theorem Bt (ns : List Int) : 3 <= uV ns /\ uV ns <= 63 := by
 unfold uV
 split <;> split <;> omega
def cells (ns : List Int) : List Int :=
 if 0 < ns.length /\ ns.headD 0 % 2 = 1 then (List.range (uV ns).toNat).map fun (k : Nat) => mixed (ns.getD (k % ns.length) 0) k else (ns.take 63).map fun c => c % 10 ^ 60
def jH (H : Hp) (Q : VK) (ns : List Int) : Prop := ∀ p H', Same H H' -> H p = Option.none -> H' p = some (.lst (ns.map V.int)) -> Q (.ref p) H'
def qC (K : Fg_) : Sp := fun vs H Q _ => ∃ c l bs, vs = [.int c, .ref l] /\ SqL K H l (bs.map V.int) /\ (∀ b ∈ bs, uX 0 b) /\ bs.length <= 1000 /\ jH H Q (Eb c bs)
def rZ : Sp := fun vs H Q _ => ∃ c k, vs = [.int c, .int k] /\ 0 <= k /\ k < 1000 /\ Q (.int (mixed c k)) H
def rW (K : Fg_) : Sp := fun vs H Q _ => ∃ a ns, vs = [.ref a] /\ SqL K H a (ns.map V.int) /\ ns.length <= 63 /\ jH H Q (cells ns)
def yt (K : Fg_) : Sp := fun vs H Q _ => ∃ (a : Addr) (ns : List Int), vs = [.ref a] /\ SqL K H a (ns.map V.int) /\ ns.length <= 63 /\ ∀ H', Q (.bl true) H'
theorem sH {ns : List Int} {i : Nat} {y : V} (h : (ns.map V.int)[i]? = some y) : ∃ z, y = V.int z /\ ns[i]? = some z := by
 rw [List.getElem?_map] at h
 cases e : ns[i]? with
 | none => rw [e] at h; cases h
 | some z => rw [e] at h; exact ⟨z, (Option.some.inj h).symm, rfl⟩
theorem tyL {K : Fg_} {H : Hp} {p : Addr} {xs : List V} (h : SqL K H p xs) : tyV K "list" (.ref p) H := .inl ⟨rfl, _, h⟩
end
end My
namespace My
open PySem L2 PyProof.Rows
section
variable {P : Program} {w : World} {K : Fg_} {mg : Str -> Option Value} {base : Heap} {A : Adr} {D : Fds}
theorem rG (T : Txt K mg A D) : FnOk P w K mg base CX0 1 A._law_mixed D._law_mixed ["_law_cell", "_law_k"] rZ := by
 refine T.F__law_mixed.ok sc__law_mixed (fun vs H Q E h => ?_) (fun cdv A outer s H vs Q E hr h => ?_)
 ·obtain ⟨c, k', rfl, _⟩ := h; rfl
 ·obtain ⟨c, k', rfl, k0, k1, k⟩ := h
  refine ⟨_, (ao (aO (i := 2) sc__law_mixed.nd rfl (Or.inl rfl) (aL fC (aL dZ (aL dJ (aL dJ (pv 0) (aL dZ (aL dZ aG (pv 1)) (pv 1))) (pv 1)) aG) aG))
   (ao (aO (i := 3) sc__law_mixed.nd rfl (Or.inl rfl) (aL fC (aL dZ (pv 2) aG) aG))
   (aA (aR (aL dZ (aL dZ (pv 2) (pv 3)) (aL dJ (aL dJ (aL iQ (pv 2) aG) (aL iQ (pv 3) aG)) aG)))))), ?_⟩
  walk_at "rd"
  have big : ∀ j : Int, 0 < j -> j.natAbs < 2 ^ 64 -> ∀ i, uX i j := fun j h0 h1 i => ⟨h0, mO h1 (by decide)⟩
  refine ⟨CMulU.l (by decide) (by decide), CMulU.l (by omega) (by omega), CMulU.r (by decide) (by decide), by decide, CMulU.r (by decide) (by decide), by decide, ?_⟩
  have hk := k
  unfold mixed at hk
  revert hk
  generalize hn : (c + 7919 * k' * k' + k') * 982451653 % 2305843009213693951 = n
  have n0 : 0 <= n := by rw [<- hn]; exact Int.emod_nonneg _ (by decide)
  have n1 : n < 2305843009213693951 := by rw [<- hn]; exact Int.emod_lt_of_pos _ (by decide)
  generalize ho : n * 1000003 % 1152921504606846883 = o
  have o0 : 0 <= o := by rw [<- ho]; exact Int.emod_nonneg _ (by decide)
  have o1 : o < 1152921504606846883 := by rw [<- ho]; exact Int.emod_lt_of_pos _ (by decide)
  intro hk
  refine ⟨CMulU.l (by omega) (by omega), big _ (by decide) (by decide) _, big _ (by decide) (by decide) _, CMulU.r (by omega) (by omega), hk⟩
structure SmallCells (K : Fg_) (Q : VK) (H : Hp) (a : Addr) (ns : List Int) : Prop where
 S : SqL K H a (ns.map V.int)
 l : ns.length <= 63
 k : jH H Q (cells ns)
theorem SmallCells.go {Q : VK} {H : Hp} {a : Addr} {ns : List Int} {x : Option V} (S : SmallCells K Q H a ns) (hn : ¬ (0 < ns.length /\ ns.headD 0 % 2 = 1)) :
  ∃ ys, SqL K H a ys /\ ∀ p, H p = none -> (∃ xs, SqL K (upd H p (.lst (yg ys none (some 63)))) p xs) /\ CompP [none] (Itl K p) (xq 0) zH (tOp (rI (fun x j => 0 < j) fun i j => V.int (i % j)) (KH 0) (tOp (rI Om fun i j => V.int (i ^ j.toNat)) (tC (V.int 10)) (tC (V.int 60)))) [some (V.ref a), x] (upd H p (.lst (yg ys none (some 63)))) Q := by
 obtain ⟨hS, hl, k⟩ := S
 refine ⟨_, hS, fun p hp => ⟨⟨_, SqL.of au⟩, ?_⟩⟩
 refine CompP.list (xs := (ns.take 63).map V.int) (fun σ => ∃ v, σ = [v]) (fun _ => true) (fun v => match v with | .int k => .int (k % 10 ^ 60) | _ => .non) (SqL.of ?_) ⟨Option.none, rfl⟩ ?_ ?_ ?_
 ·rw [au, show (63 : Int) = ((63 : Nat) : Int) from rfl, Ey, List.map_take]
 ·rw [List.length_map, List.length_take, sizeLine_eq]; omega
 ·rintro x hx σ H5 R1 R2 ⟨v, rfl⟩ sm k1 k2
  obtain ⟨c, _, rfl⟩ := List.mem_map.mp hx
  walk_at "rd"
  refine ⟨⟨by decide, by decide, by decide⟩, by decide, k1 rfl _ _ ⟨_, rfl⟩ (Same.refl _)⟩
 ·intro Da H' hD sm e
  refine k Da H' ((Same.new hp).trans sm) ((Same.new hp).free hD) ?_
  rw [e, jw, List.map_map]
  unfold cells
  rw [if_neg hn, List.map_map]
  rfl
theorem rK (T : Txt K mg A D) : FnOk P w K mg base CX0 2 A._law_cells D._law_cells ["_law_script"] (rW K) := by
 refine T.F__law_cells.ok sc__law_cells (fun vs H Q E h => ?_) (fun cdv A outer s H vs Q E hr h => ?_)
 ·obtain ⟨a, ns, rfl, _⟩ := h; rfl
 ·obtain ⟨a, ns, rfl, hS, hl, k⟩ := h
  refine ⟨_, (ao (fL (PW.pt (zZ (bj (vH) (aV (jt (K := K)) (by rfl) T.b_len (by decide +kernel) (aj (pv 0) aq)) aG (bC _)) (wN (bj (rJ) (aL fC (jy (gP (K := K)) (pv 0) aG (fun _ _ => rfl)) aG) aG (bC _))))) (ao (aO (i := 1) sc__law_cells.nd rfl (Or.inl rfl) (aV (Bs rfl) (by rfl) T.b_max (by decide +kernel) (aj (aV (nR rfl) (by rfl) T.b_min (by decide +kernel) (aj (aV (jt (K := K)) (by rfl) T.b_len (by decide +kernel) (aj (pv 0) aq)) (aj aG aq))) (aj (aL dJ aG (aL fC (aL iQ (jy (gP (K := K)) (pv 0) aG (fun _ _ => rfl)) aG) aG)) aq))))
    (aA (aR (bI (cap := [Option.none, some 0]) (N' := ["_law_k", "_law_script"]) rfl (by walk_at "compok") (DP (by rfl) T.b_range (aj (pv 1) aq)) (fun _ _ _ _ => (aH (i := 0) (show (["_law_k", "_law_script"] : List Str).Nodup from by decide +kernel) rfl (Or.inl rfl) (Or.inr rfl))) (fun _ _ _ _ => bH) (fun _ _ _ _ => (aK (rG (K := K) T) (hr.mono (by decide)) (by rfl) T.m__law_mixed T.k__law_mixed (uz T) .nil aP (aj (jy (gP (K := K)) (pv 1) (aL fC (pv 0) (aV (jt (K := K)) (by rfl) T.b_len (by decide +kernel) (aj (pv 1) aq))) (fun _ _ => rfl)) (aj (pv 0) aq)))))))) dg)
   (aA (aR (bI (cap := [Option.none]) (N' := ["_law_cell"]) rfl (by walk_at "compok") (aZ (K := K) (sZ (rT (K := K)) (pv 0) vQ (wC aG))) (fun _ _ _ _ => (aH (i := 0) (show (["_law_cell"] : List Str).Nodup from by decide +kernel) rfl (Or.inl rfl) (Or.inr rfl))) (fun _ _ _ _ => bH) (fun _ _ _ _ => (aL fC (pv 0) (aL uM aG aG))))))), ?_⟩
  walk_at "rda"
  refine ⟨_, .inl hS, ?_⟩
  rw [List.length_map]
  have small : SmallCells K Q H a ns := ⟨hS, hl, k⟩
  by_cases h0 : 0 < ns.length
  ·rw [if_pos (by omega)]
   have hh : (ns.map V.int)[0]? = some (.int (ns.headD 0)) := by
    cases ns with
    | nil => simp at h0
    | cons c r => rfl
   have hat : atI (ns.map V.int) 0 = some (.int (ns.headD 0)) := vV (j := 0) hh
   refine ⟨_, hS, _, hat, _, rfl, by decide, ?_⟩
   by_cases h1 : ns.headD 0 % 2 = 1
   ·rw [if_pos h1]
    refine ⟨_, .inl hS, _, hS, _, hat, _, rfl, ⟨by decide, by decide⟩, by decide, ?_⟩
    rw [List.length_map]
    have hm := Bt ns
    have em : (if 3 + ns.headD 0 / 2 % 61 > if 63 < (ns.length : Int) then 63 else (ns.length : Int) then 3 + ns.headD 0 / 2 % 61 else if 63 < (ns.length : Int) then 63 else (ns.length : Int)) = uV ns := rfl
    rw [em]
    refine ⟨by omega, by omega, ?_⟩
    refine CompP.range (fun σ => ∃ v, σ = [v, some (.ref a)]) (fun _ => true) (fun v => match v with | .int k => .int (mixed (ns.getD (k.toNat % ns.length) 0) k) | _ => .non) ⟨Option.none, rfl⟩ (by rw [sizeLine_eq]; omega) ?_ ?_
    ·rintro i hi σ H5 R1 R2 ⟨v, rfl⟩ sm k1 k2
     walk_at "rda"
     refine ⟨_, .inl (sm.seq hS), ?_⟩
     have hj : ((0 : Int) + (i : Int)).toNat % ns.length < ns.length := Nat.mod_lt _ h0
     refine ⟨by rw [List.length_map]; omega, _, sm.seq hS, .int (ns.getD (((0 : Int) + (i : Int)).toNat % ns.length) 0), ?_, _, _, rfl, by omega, by omega, k1 rfl _ _ ⟨_, rfl⟩ (Same.refl _)⟩
     have ej : ((0 : Int) + (i : Int)) % ((ns.map V.int).length : Int) = ((((0 : Int) + (i : Int)).toNat % ns.length : Nat) : Int) := by
      rw [List.length_map, Int.zero_add, Int.toNat_natCast, Int.natCast_emod]
     rw [ej]
     refine vV ?_
     generalize ((0 : Int) + (i : Int)).toNat % ns.length = j at hj
     rw [List.getElem?_map, List.getElem?_eq_getElem hj, List.getD_eq_getElem?_getD, List.getElem?_eq_getElem hj]
     rfl
    ·intro Da H' hD sm e
     refine k Da H' sm hD ?_
     rw [e, jw, List.map_map]
     unfold cells
     rw [if_pos ⟨h0, h1⟩, List.map_map]
     refine congrArg (fun l => some (HO.lst l)) (List.map_congr_left fun i _ => ?_)
     show V.int (mixed (ns.getD ((0 + (i : Int)).toNat % ns.length) 0) (0 + (i : Int))) = V.int (mixed (ns.getD (i % ns.length) 0) i)
     rw [Int.zero_add, Int.toNat_natCast]
   ·rw [if_neg h1]
    exact small.go (fun z => h1 z.2)
  ·rw [if_neg (by omega)]
   exact small.go (fun z => h0 z.1)
end
end My
namespace My
open PySem L2 PyProof.Rows
section
variable {P : Program} {w : World} {K : Fg_} {mg : Str -> Option Value} {base : Heap} {A : Adr} {D : Fds}
theorem qH (T : Txt K mg A D) : FnOk P w K mg base CX0 1 A._law_digits D._law_digits ["_law_cell", "_law_bases"] (qC K) := by
 refine T.F__law_digits.ok sc__law_digits (fun vs H Q E h => ?_) (fun cdv A outer s H vs Q E hr h => ?_)
 ·obtain ⟨c, l, bs, rfl, _⟩ := h; rfl
 ·obtain ⟨c, l, bs, rfl, hS, hb, hl, k⟩ := h
  refine ⟨_, (ao (aO (i := 2) sc__law_digits.nd rfl (Or.inl rfl) (cY aq))
   (ao (jg PassesOwn.never rfl (aZ (K := K) (pv 1)) (aH (i := 3) sc__law_digits.nd rfl (Or.inl rfl))
    (ao (aW (gq (K := K) PySem.F.plainAttrs_list PySem.F.slot_list_append PySem.F.type_list_append dN (pv 2) (aj (aL fC (pv 0) (pv 3)) aq)))
    (aA (aO (i := 0) sc__law_digits.nd rfl (Or.inl rfl) (aL iQ (pv 0) (pv 3))))))
   (aA (aR (pv 2))))), ?_⟩
  walk_at "rd"
  refine ⟨Nat.zero_le _, fun p hp => ?_⟩
  refine ⟨⟨_, (Same.new hp).seq hS⟩, ForP.list (K := K) (a := l) (xs := bs.map V.int) (fun i σ H2 => ∃ v, σ = [some (.int (Jt c (bs.take i))), some (.ref l), some (.ref p), v] /\ Same H H2 /\ H2 p = some (.lst ((Eb c (bs.take i)).map V.int)))
   ⟨Option.none, rfl, Same.new hp, au⟩ (fun i σ H2 _ ⟨_, _, s2, _⟩ => s2.seq hS) ?_ ?_⟩
  ·rintro i y σ H2 hi ⟨v, rfl, s2, h2⟩
   obtain ⟨b, rfl, hbi⟩ := sH hi
   have hil : i < bs.length := (List.getElem?_eq_some_iff.mp hbi).1
   have hbm : uX 0 b := hb b (List.mem_of_getElem? hbi)
   have ht : bs.take (i + 1) = bs.take i ++ [b] := by rw [List.take_add_one, hbi]; rfl
   walk_at "rd"
   refine ⟨tyL (SqL.of h2), hbm.1, _, h2, ?_, hbm, by rw [ht, uN], s2.upd hp, ?_⟩
   ·rw [List.length_map, oU, List.length_take]
    exact uG (by omega)
   ·rw [au, ht, tH, List.map_append]
    rfl
  ·rintro σ H2 ⟨v, rfl, s2, h2⟩
   rw [List.length_map, List.take_length] at h2
   walk_at "rd"
   exact k p H2 s2 hp h2
end
end My
namespace My
open PySem L2 PyProof.Rows
section
variable {P : Program} {w : World} {K : Fg_} {mg : Str -> Option Value} {base : Heap} {A : Adr} {D : Fds}
theorem Gf (xs : List V) (n : Nat) : yg xs (some (n : Int)) none = xs.drop n := by
 unfold yg
 rw [HT.sIx_none, HT.sIx_nat]
 rcases Nat.le_total n xs.length with h | h
 ·rw [Nat.min_eq_left h, List.take_of_length_le (by rw [List.length_drop]; exact Nat.le_refl _)]
 ·rw [Nat.min_eq_right h, List.drop_of_length_le (Nat.le_refl _), List.drop_of_length_le h, List.take_nil]
end
end My
namespace My
open PySem L2 PyProof.Rows
section
variable {P : Program} {w : World} {K : Fg_} {mg : Str -> Option Value} {base : Heap} {A : Adr} {D : Fds}
def Nm (z : Str) : Prop := 1 <= z.length /\ z.length <= 8 /\ ∀ c ∈ z.cps.toList, 97 <= c /\ c <= 122
def jq : Sp := fun vs H Q _ => ∃ i : Int, vs = [.int i] /\ Q (.bl true) H
theorem ji (T : Txt K mg A D) : FnOk P w K mg base CX0 1 A.is_whole_number D.is_whole_number ["value"] jq := by
 refine T.F_is_whole_number.ok jJ (fun vs H Q E h => ?_) (fun cdv A outer s H vs Q E hr h => ?_)
 ·obtain ⟨i, rfl, _⟩ := h; rfl
 ·obtain ⟨i, rfl, k⟩ := h
  refine ⟨_, (aA (aR (JV (aV (qd (K := K)) (by rfl) T.b_isinstance (by decide +kernel) (aj (pv 0) (aj (Il "int" (by rfl) T.b_int (by decide +kernel)) aq))) (JF (Kq (aV (qd (K := K)) (by rfl) T.b_isinstance (by decide +kernel) (aj (pv 0) (aj (Il "bool" (by rfl) T.b_bool (by decide +kernel)) aq)))))))), ?_⟩
  walk_at "rd"
  refine ⟨_, .int i, true, by with_unfolding_all rfl, ?_⟩
  walk_at "rd"
  refine ⟨_, .int i, false, by with_unfolding_all rfl, ?_⟩
  walk_at "rd"
  exact k
def oZ : Sp := fun vs H Q _ => ∃ (z : Str) (i lo hi : Int), vs = [.str z, .int i, .int lo, .int hi] /\ lo <= i /\ i <= hi /\ Q .non H
theorem bA (T : Txt K mg A D) : FnOk P w K mg base CX0 2 A.check_number D.check_number ["what", "value", "least", "most"] oZ := by
 refine T.F_check_number.ok oK (fun vs H Q E h => ?_) (fun cdv A outer s H vs Q E hr h => ?_)
 ·obtain ⟨z, i, lo, hi, rfl, _⟩ := h; rfl
 ·obtain ⟨z, i, lo, hi, rfl, h1, h2, k⟩ := h
  refine ⟨_, (aA (fL (PW.pt (Bw (Bb (kZ (aK (ji (K := K) T) (hr.mono (by decide)) (by rfl) T.m_is_whole_number T.k_is_whole_number (jX T) .nil aP (aj (pv 1) aq)))) (Bw (bj (Aa) (pv 1) (pv 2) (bC _)) (Cu (bj (vH) (pv 1) (pv 3) (bC _)))))) (aA (dj)) dg)), ?_⟩
  walk_at "rda"
  refine ⟨i, rfl, ?_⟩
  walk_at "rda"
  rw [if_neg (by omega), if_neg (by omega)]
  exact k
def yV : Sp := fun vs H Q _ => ∃ z : Str, vs = [.str z] /\ Nm z /\ ∀ H', Same H H' -> Q (.bl true) H'
theorem zy (T : Txt K mg A D) : FnOk P w K mg base CX0 1 A.is_name D.is_name ["value"] yV := by
 refine T.F_is_name.ok zA (fun vs H Q E h => ?_) (fun cdv A outer s H vs Q E hr h => ?_)
 ·obtain ⟨z, rfl, _⟩ := h; rfl
 ·obtain ⟨z, rfl, ⟨n1, n2, n3⟩, k⟩ := h
  refine ⟨_, (ao (fL (PW.pt (Bw (Bb (kZ (aV (qd (K := K)) (by rfl) T.b_isinstance (by decide +kernel) (aj (pv 0) (aj (Il "str" (by rfl) T.b_str (by decide +kernel)) aq))))) (Bw (bj (Aa) (aV lz (by rfl) T.b_len (by decide +kernel) (aj (pv 0) aq)) aG (bC _)) (Cu (bj (vH) (aV lz (by rfl) T.b_len (by decide +kernel) (aj (pv 0) aq)) (fj (v := V.int 8) (by rfl) T.g_MOST_LETTERS ⟨_, rfl⟩) (bC _)))))) (aA (aR MF)) dg)
   (aA (aR (aV (zU (K := K) rfl) (by rfl) T.b_all (by decide +kernel) (aj (bI (cap := [Option.none]) (N' := ["sign"]) rfl (by walk_at "compok") (Kw (pv 0)) (fun _ _ _ _ => (aH (i := 0) (show (["sign"] : List Str).Nodup from by decide +kernel) rfl (Or.inl rfl) (Or.inr rfl))) (fun _ _ _ _ => bH) (fun _ _ _ _ => (Fb (uv) (uv) bF (pv 0) bF))) aq))))), ?_⟩
  walk_at "rda"
  refine ⟨_, .str z, true, by with_unfolding_all rfl, ?_⟩
  walk_at "rda"
  have hz : z.length <= sizeLine := by rw [sizeLine_eq]; omega
  refine ⟨hz, ?_⟩
  rw [if_neg (by omega)]
  refine ⟨hz, ?_⟩
  rw [if_neg (by omega)]
  refine CompP.str (fun σ => ∃ v, σ = [v]) (fun _ => true) (fun _ => .bl true) ⟨Option.none, rfl⟩ hz ?_ ?_
  ·rintro x hx σ H5 R1 R2 ⟨v, rfl⟩ sm k1 k2
   obtain ⟨c, hc, rfl⟩ := List.mem_map.mp hx
   obtain ⟨c1, c2⟩ := n3 c hc
   walk_at "rd"
   have ea : (Str.ofString "a").cps.toList = [97] := by decide +kernel
   have ez : (Str.ofString "z").cps.toList = [122] := by decide +kernel
   rw [ea, ez]
   have h1 : ¬ [c] < [97] := fun h => by
    rcases List.cons_lt_cons_iff.mp h with h | h
    ·omega
    ·exact absurd h.2 (List.not_lt_nil _)
   have h2 : ¬ [122] < [c] := fun h => by
    rcases List.cons_lt_cons_iff.mp h with h | h
    ·omega
    ·exact absurd h.2 (List.not_lt_nil _)
   rw [if_pos h1, decide_eq_false h2]
   exact k1 rfl _ _ ⟨_, rfl⟩ (Same.refl _)
  ·intro Da H' hD sm e
   rw [jw] at e
   walk_at "rda"
   refine ⟨(L2.signs z).map fun _ => true, SqL.of (by rw [e, List.map_map]; rfl), ?_⟩
   have : ((L2.signs z).map fun _ => true).all id = true := by simp
   rw [this]
   exact k H' sm
def rA : Sp := fun vs H Q _ => ∃ (t z : Str), vs = [.str t, .str z] /\ Nm z /\ ∀ H', Same H H' -> Q .non H'
theorem rB (T : Txt K mg A D) : FnOk P w K mg base CX0 2 A.check_name D.check_name ["what", "value"] rA := by
 refine T.F_check_name.ok rF (fun vs H Q E h => ?_) (fun cdv A outer s H vs Q E hr h => ?_)
 ·obtain ⟨t, z, rfl, _⟩ := h; rfl
 ·obtain ⟨t, z, rfl, hn, k⟩ := h
  refine ⟨_, (aA (fL (Bb (kZ (aK (zy (K := K) T) (hr.mono (by decide)) (by rfl) T.m_is_name T.k_is_name (CQ T) .nil aP (aj (pv 1) aq)))) (aA (dj)) dg)), ?_⟩
  walk_at "rda"
  refine ⟨z, rfl, hn, fun H' sm => ?_⟩
  walk_at "rda"
  exact k H' sm
def qD : Sp := fun vs H Q _ => ∃ (p r f : Int), vs = [.int p, .int r, .int f] /\ (1 <= p /\ p <= 1000000000) /\ (0 <= r /\ r <= 1000000000) /\ (0 <= f /\ f <= 1000000000) /\ Q .non H
theorem iV (T : Txt K mg A D) : FnOk P w K mg base CX0 3 A.check_trade D.check_trade ["pieces", "price", "fee"] qD := by
 refine T.F_check_trade.ok qm (fun vs H Q E h => ?_) (fun cdv A outer s H vs Q E hr h => ?_)
 ·obtain ⟨p, r, f, rfl, _⟩ := h; rfl
 ·obtain ⟨p, r, f, rfl, h1, h2, h3, k⟩ := h
  refine ⟨_, (ao (aW (aK (bA (K := K) T) (hr.mono (by decide)) (by rfl) T.m_check_number T.k_check_number (bK T) .nil aP (aj bF (aj (pv 0) (aj aG (aj (fj (v := V.int 1000000000) (by rfl) T.g_MOST_PIECES ⟨_, rfl⟩) aq))))))
   (ao (aW (aK (bA (K := K) T) (hr.mono (by decide)) (by rfl) T.m_check_number T.k_check_number (bK T) .nil aP (aj bF (aj (pv 1) (aj aG (aj (fj (v := V.int 1000000000) (by rfl) T.g_MOST_PRICE ⟨_, rfl⟩) aq))))))
   (aA (aW (aK (bA (K := K) T) (hr.mono (by decide)) (by rfl) T.m_check_number T.k_check_number (bK T) .nil aP (aj bF (aj (pv 2) (aj aG (aj (fj (v := V.int 1000000000) (by rfl) T.g_MOST_FEE ⟨_, rfl⟩) aq))))))))), ?_⟩
  walk_at "rda"
  refine ⟨_, _, _, _, rfl, h1.1, h1.2, ?_⟩
  walk_at "rda"
  refine ⟨_, _, _, _, rfl, h2.1, h2.2, ?_⟩
  walk_at "rda"
  refine ⟨_, _, _, _, rfl, h3.1, h3.2, ?_⟩
  exact k
theorem bx {f : Str} {v : V} {fs : List (Str × V)} (ns : List Str) (e : fs.map (·.1) = ns) (h : ns.contains f = false) : mZ f v fs = fs ++ [(f, v)] := iJ f v (e ▸ h)
def fsE (d n : Int) (w : Str) : List (Str × V) := [("day", .int d), ("number", .int n), ("ware", .str w)]
structure Base (d n : Int) (w : Str) : Prop where
 d0 : 0 <= d
 d1 : d <= 1000000
 n0 : 0 <= n
 n1 : n <= 1000000
 w : Nm w
structure CE (K : Fg_) (C : Addr) : Prop where
 c : Cls K C
 d : NoAttr K C "day"
 n : NoAttr K C "number"
 w : NoAttr K C "ware"
structure New (B H : Hp) (x : Addr) (C dx : Addr) (fs : List (Str × V)) : Prop where
 s : Same B H
 n : B x = Option.none
 h : H x = some (.ins C dx fs)
theorem New.put {B H : Hp} {x C dx : Addr} {fs gs : List (Str × V)} (h : New B H x C dx fs) (e : gs = gs) : New B (upd H x (.ins C dx gs)) x C dx gs := ⟨h.s.upd h.n, h.n, au⟩
theorem New.same {B H H' : Hp} {x C dx : Addr} {fs : List (Str × V)} (h : New B H x C dx fs) (e : Same H H') : New B H' x C dx fs := ⟨h.s.trans e, h.n, e _ _ h.h⟩
def jU (K : Fg_) : Sp := fun vs H Q _ => ∃ (x : Addr) (d n : Int) (w : Str) (B : Hp) (C dx : Addr), vs = [.ref x, .int d, .int n, .str w] /\ New B H x C dx [] /\ CE K C /\ Base d n w /\
 ∀ H', New B H' x C dx (fsE d n w) -> Q .non H'
theorem eV (T : Txt K mg A D) : FnOk P w K mg base CX0 3 A.Entry___init__ D.Entry___init__ ["self", "day", "number", "ware"] (jU K) := by
 refine T.F_Entry___init__.ok jV (fun vs H Q E h => ?_) (fun cdv A outer s H vs Q E hr h => ?_)
 ·obtain ⟨x, d, n, w, B, C, dx, rfl, _⟩ := h; rfl
 ·obtain ⟨x, d, n, w, B, C, dx, rfl, hN, hC, hB, k⟩ := h
  refine ⟨_, (ao (aW (aK (bA (K := K) T) (hr.mono (by decide)) (by rfl) T.m_check_number T.k_check_number (bK T) .nil aP (aj bF (aj (pv 1) (aj aG (aj (fj (v := V.int 1000000) (by rfl) T.g_MOST_DAY ⟨_, rfl⟩) aq))))))
   (ao (aW (aK (bA (K := K) T) (hr.mono (by decide)) (by rfl) T.m_check_number T.k_check_number (bK T) .nil aP (aj bF (aj (pv 2) (aj aG (aj (fj (v := V.int 1000000) (by rfl) T.g_MOST_NUMBER ⟨_, rfl⟩) aq))))))
   (ao (aW (aK (rB (K := K) T) (hr.mono (by decide)) (by rfl) T.m_check_name T.k_check_name (tK T) .nil aP (aj bF (aj (pv 3) aq))))
   (ao (aY (K := K) (pv 0) (pv 1) rfl)
   (ao (aY (K := K) (pv 0) (pv 2) rfl)
   (aA (aY (K := K) (pv 0) (pv 3) rfl))))))), ?_⟩
  walk_at "rda"
  refine ⟨_, _, _, _, rfl, hB.d0, hB.d1, ?_⟩
  walk_at "rda"
  refine ⟨_, _, _, _, rfl, hB.n0, hB.n1, ?_⟩
  walk_at "rda"
  refine ⟨_, _, rfl, hB.w, fun H' sm => ?_⟩
  walk_at "rda"
  have hN := hN.same sm
  refine ⟨C, dx, _, hN.h, hC.c, hC.d, by decide, ?_⟩
  rw [iJ _ _ (by decide +kernel)]
  have hN := hN.put (gs := [] ++ [(Str.ofString "day", V.int d)]) rfl
  refine ⟨C, dx, _, hN.h, hC.c, hC.n, by simp, ?_⟩
  rw [bx (f := Str.ofString "number") ["day"] (by rfl) (by decide +kernel)]
  have hN := hN.put (gs := ([] ++ [(Str.ofString "day", V.int d)]) ++ [(Str.ofString "number", V.int n)]) rfl
  refine ⟨C, dx, _, hN.h, hC.c, hC.w, by simp, ?_⟩
  rw [bx (f := Str.ofString "ware") ["day", "number"] (by rfl) (by decide +kernel)]
  exact k _ (hN.put rfl)
end
end My
namespace My
open PySem L2 PyProof.Rows
section
variable {P : Program} {w : World} {K : Fg_} {mg : Str -> Option Value} {base : Heap} {A : Adr} {D : Fds}
structure LotD where
 n : Int
 s : Int
 p : Int
 c : Int
def LotD.fs (d : LotD) : List (Str × V) := [("number", .int d.n), ("since", .int d.s), ("pieces", .int d.p), ("cost", .int d.c)]
def LotD.vs (d : LotD) : List V := [.int d.n, .int d.s, .int d.p, .int d.c]
def IsLot (A : Adr) (H : Hp) (x : Addr) (d : LotD) : Prop := ∃ dx, H x = some (.ins A.C_Lot dx d.fs)
theorem IsLot.same {H H' : Hp} {x : Addr} {d : LotD} (h : IsLot A H x d) (s : Same H H') : IsLot A H' x d := let ⟨dx, e⟩ := h; ⟨dx, s _ _ e⟩
theorem IsLot.but {H H' : Hp} {D : Addr} {x : Addr} {d : LotD} (h : IsLot A H x d) (hne : x ≠ D) (s : But D H H') : IsLot A H' x d := let ⟨dx, e⟩ := h; ⟨dx, s _ _ hne e⟩
def Bd (i : Int) : Prop := -(2 ^ 500) < i /\ i < 2 ^ 500
theorem Bd.mul {i j : Int} (h : Bd i) (h' : Bd j) : CMulU i j := by
 have h1 := h.1; have h2 := h.2; have h3 := h'.1; have h4 := h'.2
 refine CMulU.big ?_ ?_
 ·have : i.natAbs < 2 ^ 500 := by omega
  exact Nat.lt_of_lt_of_le this (Nat.pow_le_pow_right (by decide) (by decide))
 ·have : j.natAbs < 2 ^ 500 := by omega
  exact Nat.lt_of_lt_of_le this (Nat.pow_le_pow_right (by decide) (by decide))
theorem kY {H : Hp} {x C dx : Addr} (hx : H x = Option.none) (hdx : H dx = Option.none) : New H (upd (upd H dx (.own x)) x (.ins C dx [])) x C dx [] := ⟨(Same.new hdx).upd hx, hx, au⟩
def iG (A : Adr) : Sp := fun vs H Q _ => ∃ (x : Addr) (d : LotD) (B : Hp) (dx : Addr), vs = .ref x :: d.vs /\ New B H x A.C_Lot dx [] /\ ∀ H', New B H' x A.C_Lot dx d.fs -> Q .non H'
theorem cZ (T : Txt K mg A D) : FnOk P w K mg base CX0 1 A.Lot___init__ D.Lot___init__ ["self", "number", "since", "pieces", "cost"] (iG A) := by
 refine T.F_Lot___init__.ok nO (fun vs H Q E h => ?_) (fun cdv A' outer s H vs Q E hr h => ?_)
 ·obtain ⟨x, d, B, dx, rfl, _⟩ := h; rfl
 ·obtain ⟨x, ⟨n, s, p, c⟩, B, dx, rfl, hN, k⟩ := h
  refine ⟨_, (ao (aY (K := K) (pv 0) (pv 1) rfl)
   (ao (aY (K := K) (pv 0) (pv 2) rfl)
   (ao (aY (K := K) (pv 0) (pv 3) rfl)
   (aA (aY (K := K) (pv 0) (pv 4) rfl))))), ?_⟩
  simp only [LotD.vs]
  walk_at "rda"
  refine ⟨_, dx, _, hN.h, T.cl_Lot, T.n_Lot_number, by decide, ?_⟩
  rw [iJ _ _ (by decide +kernel)]
  have hN := hN.put (gs := [] ++ [(Str.ofString "number", V.int n)]) rfl
  refine ⟨_, dx, _, hN.h, T.cl_Lot, T.n_Lot_since, by simp, ?_⟩
  rw [bx (f := Str.ofString "since") ["number"] (by rfl) (by decide +kernel)]
  have hN := hN.put (gs := ([] ++ [(Str.ofString "number", V.int n)]) ++ [(Str.ofString "since", V.int s)]) rfl
  refine ⟨_, dx, _, hN.h, T.cl_Lot, T.n_Lot_pieces, by simp, ?_⟩
  rw [bx (f := Str.ofString "pieces") ["number", "since"] (by rfl) (by decide +kernel)]
  have hN := hN.put (gs := (([] ++ [(Str.ofString "number", V.int n)]) ++ [(Str.ofString "since", V.int s)]) ++ [(Str.ofString "pieces", V.int p)]) rfl
  refine ⟨_, dx, _, hN.h, T.cl_Lot, T.n_Lot_cost, by simp, ?_⟩
  rw [bx (f := Str.ofString "cost") ["number", "since", "pieces"] (by rfl) (by decide +kernel)]
  exact k _ (hN.put rfl)
theorem jB {R : Hp -> Prop} {E : XK} {H : Hp} {x dx : Addr} (d : LotD) (hx : H x = Option.none) (hdx : H dx = Option.none) (k : ∀ H', Same H H' -> IsLot A H' x d -> R H') :
  iG A (.ref x :: d.vs) (upd (upd H dx (.own x)) x (.ins A.C_Lot dx [])) (fun v H2 => v = .non /\ R H2) E :=
 ⟨x, d, H, dx, rfl, kY hx hdx, fun H' hN => ⟨rfl, k H' hN.s ⟨dx, hN.h⟩⟩⟩
end
end My
namespace My
open PySem L2 PyProof.Rows
section
variable {P : Program} {w : World} {K : Fg_} {mg : Str -> Option Value} {base : Heap} {A : Adr} {D : Fds}
local macro_rules | `(tactic| walk_at "nx") => `(tactic| ((try dsimp only); rw [ap_seq]; walk_at "rdi"))
abbrev RL := List (Addr × LotD)
def aQ (rs : RL) : List V := rs.map fun r => V.ref r.1
def LotAt (A : Adr) (H : Hp) (rs : RL) : Prop := ∀ r ∈ rs, IsLot A H r.1 r.2
theorem LotAt.same {H H' : Hp} {rs : RL} (h : LotAt A H rs) (s : Same H H') : LotAt A H' rs := fun r hr => (h r hr).same s
structure Good (d : LotD) : Prop where
 n : 0 <= d.n /\ d.n <= 1000000
 s : 0 <= d.s /\ d.s <= 1000000
 p : 1 <= d.p /\ d.p <= 1000000000
 c : 0 <= d.c /\ d.c <= 1000000000000000000
theorem bW {rs : RL} {i : Nat} {y : V} (h : (aQ rs)[i]? = some y) : ∃ r, rs[i]? = some r /\ y = .ref r.1 := by
 unfold aQ at h
 rw [List.getElem?_map] at h
 cases e : rs[i]? with
 | none => rw [e] at h; cases h
 | some r => rw [e] at h; exact ⟨r, rfl, (Option.some.inj h).symm⟩
theorem aJ (rs : RL) : (aQ rs).length = rs.length := by unfold aQ; rw [List.length_map]
theorem get_mem {rs : RL} {i : Nat} {r : Addr × LotD} (h : rs[i]? = some r) : r ∈ rs := List.mem_of_getElem? h
theorem Ib (F : V -> Hp -> Addr × LotD -> Prop) {acc : List V} {H : Hp} : ∀ {ds : List LotD}, acc.length = ds.length -> (∀ (i : Nat) v, acc[i]? = some v -> ∃ b d, ds[i]? = some d /\ v = .ref b /\ F v H (b, d)) ->
  ∃ rs : RL, acc = aQ rs /\ rs.map (·.2) = ds /\ ∀ r ∈ rs, F (.ref r.1) H r := by
 induction acc with
 | nil =>
  intro ds hl _
  cases ds with
  | nil => exact ⟨[], rfl, rfl, fun r h => by cases h⟩
  | cons _ _ => simp at hl
 | cons v acc ih =>
  intro ds hl h
  cases ds with
  | nil => simp at hl
  | cons d ds =>
   obtain ⟨b, d', e, rfl, hf⟩ := h 0 v rfl
   cases e
   obtain ⟨rs, e1, e2, e3⟩ := ih (ds := ds) (by simpa using hl) fun i v hv => h (i + 1) v hv
   refine ⟨(b, d) :: rs, by rw [e1]; rfl, by rw [List.map_cons, e2], fun r hr => ?_⟩
   rcases List.mem_cons.mp hr with rfl | hr
   ·exact hf
   ·exact e3 r hr
end
end My
namespace My
open PySem L2 PyProof.Rows
section
variable {P : Program} {w : World} {K : Fg_} {mg : Str -> Option Value} {base : Heap} {A : Adr} {D : Fds}
local macro_rules | `(tactic| walk_at "nx") => `(tactic| ((try dsimp only); rw [ap_seq]; walk_at "rdi"))
theorem uY {f : Addr × LotD -> V} : ∀ {zs ys : List V}, zs.Perm ys -> ∀ {rs : RL}, ys = rs.map f -> ∃ rs' : RL, zs = rs'.map f /\ rs'.Perm rs := by
 intro zs ys h
 induction h with
 | nil => intro rs e; exact ⟨[], rfl, by cases rs with | nil => exact .nil | cons _ _ => cases e⟩
 | cons x _ ih =>
  intro rs e
  cases rs with
  | nil => cases e
  | cons r rs =>
   rw [List.map_cons] at e
   obtain ⟨e1, e2⟩ := List.cons.inj e
   obtain ⟨rs', a1, a2⟩ := ih e2
   exact ⟨r :: rs', by rw [List.map_cons, <- a1, e1], a2.cons r⟩
 | swap x y l =>
  intro rs e
  cases rs with
  | nil => cases e
  | cons r rs => cases rs with
   | nil => cases e
   | cons r2 rs =>
    rw [List.map_cons, List.map_cons] at e
    obtain ⟨e1, e2⟩ := List.cons.inj e
    obtain ⟨e3, e4⟩ := List.cons.inj e2
    exact ⟨r2 :: r :: rs, by rw [List.map_cons, List.map_cons, e1, e3, e4], .swap _ _ _⟩
 | trans _ _ ih1 ih2 =>
  intro rs e
  obtain ⟨r2, a1, a2⟩ := ih2 e
  obtain ⟨r3, b1, b2⟩ := ih1 a1
  exact ⟨r3, b1, b2.trans a2⟩
def LotD.key (d : LotD) : List Int := [d.s, d.n]
def Bef (d e : LotD) : Prop := d.s < e.s \/ (d.s = e.s /\ d.n < e.n)
theorem Io {d e : LotD} (h : ig d.key e.key false = true) : Bef d e := by
 unfold LotD.key at h
 rw [ig] at h
 by_cases e1 : d.s = e.s
 ·rw [if_pos e1, ig] at h
  by_cases e2 : d.n = e.n
  ·rw [if_pos e2, ig] at h
   cases h
  ·rw [if_neg e2] at h
   exact .inr ⟨e1, of_decide_eq_true h⟩
 ·rw [if_neg e1] at h
  exact .inl (of_decide_eq_true h)
end
end My
namespace My
open PySem L2 PyProof.Rows
section
variable {P : Program} {w : World} {K : Fg_} {mg : Str -> Option Value} {base : Heap} {A : Adr} {D : Fds}
inductive E3 where
 | buy (d n : Int) (w : Str) (p r f : Int)
 | gift (d n : Int) (w : Str) (p c s : Int)
 | sell (d n : Int) (w : Str) (p r f : Int)
def Rg (lo hi x : Int) : Prop := lo <= x /\ x <= hi
def E3.good : E3 -> Prop
 | .buy d n w p r f => Base d n w /\ Rg 1 1000000000 p /\ Rg 0 1000000000 r /\ Rg 0 1000000000 f
 | .gift d n w p c s => Base d n w /\ Rg 1 1000000000 p /\ Rg 0 1000000000000000000 c /\ Rg 0 d s
 | .sell d n w p r f => Base d n w /\ Rg 1 1000000000 p /\ Rg 0 1000000000 r /\ Rg 0 1000000000 f
def E3.fs : E3 -> List (Str × V)
 | .buy d n w p r f => [("day", .int d), ("number", .int n), ("ware", .str w), ("pieces", .int p), ("price", .int r), ("fee", .int f), ("cost", .int (p * r + f))]
 | .gift d n w p c s => [("day", .int d), ("number", .int n), ("ware", .str w), ("pieces", .int p), ("cost", .int c), ("since", .int s)]
 | .sell d n w p r f => [("day", .int d), ("number", .int n), ("ware", .str w), ("pieces", .int p), ("price", .int r), ("fee", .int f), ("named", .non), ("proceeds", .int (p * r - f))]
def E3.args : E3 -> List V
 | .buy d n w p r f => [.int d, .int n, .str w, .int p, .int r, .int f]
 | .gift d n w p c s => [.int d, .int n, .str w, .int p, .int c, .int s]
 | .sell d n w p r f => [.int d, .int n, .str w, .int p, .int r, .int f, .non]
def E3.cls (A : Adr) : E3 -> Addr
 | .buy .. => A.C_Buy
 | .gift .. => A.C_Gift
 | .sell .. => A.C_Sell
def E3.day : E3 -> Int
 | .buy d .. => d
 | .gift d .. => d
 | .sell d .. => d
def E3.num : E3 -> Int
 | .buy _ n .. => n
 | .gift _ n .. => n
 | .sell _ n .. => n
def E3.ware : E3 -> Str
 | .buy _ _ w .. => w
 | .gift _ _ w .. => w
 | .sell _ _ w .. => w
def E3.kd : E3 -> Nat
 | .buy .. => 0
 | .gift .. => 1
 | .sell .. => 2
def E3.lot : E3 -> LotD
 | .buy d n _ p r f => ⟨n, d, p, p * r + f⟩
 | .gift _ n _ p c s => ⟨n, s, p, c⟩
 | .sell .. => ⟨0, 0, 0, 0⟩
def IsE3 (A : Adr) (H : Hp) (x : Addr) (e : E3) : Prop := ∃ dx, H x = some (.ins (e.cls A) dx e.fs)
theorem IsE3.same {H H' : Hp} {x : Addr} {e : E3} (h : IsE3 A H x e) (s : Same H H') : IsE3 A H' x e := let ⟨dx, q⟩ := h; ⟨dx, s _ _ q⟩
def DY (A : Adr) (b : Nat) : Sp := fun vs H Q _ => ∃ (x : Addr) (e : E3) (B : Hp) (dx : Addr), e.kd = b /\ vs = .ref x :: e.args /\ New B H x (e.cls A) dx [] /\ e.good /\
 ∀ H', New B H' x (e.cls A) dx e.fs -> Q .non H'
theorem GR (T : Txt K mg A D) : CE K A.C_Buy := ⟨T.cl_Buy, T.n_Buy_day, T.n_Buy_number, T.n_Buy_ware⟩
theorem Bo (T : Txt K mg A D) : CE K A.C_Gift := ⟨T.cl_Gift, T.n_Gift_day, T.n_Gift_number, T.n_Gift_ware⟩
theorem CG (T : Txt K mg A D) : CE K A.C_Sell := ⟨T.cl_Sell, T.n_Sell_day, T.n_Sell_number, T.n_Sell_ware⟩
def Nz : Sp := fun vs H Q _ => ∃ v, vs = [.non, v] /\ Q .non H
theorem qR (T : Txt K mg A D) : FnOk P w K mg base CX0 1 A.check_named D.check_named ["named", "pieces"] Nz := by
 refine T.F_check_named.ok ql (fun vs H Q E h => ?_) (fun cdv A' outer s0 H vs Q E hr h => ?_)
 ·obtain ⟨v, rfl, _⟩ := h; rfl
 ·obtain ⟨v, rfl, k⟩ := h
  refine ⟨_, (ao (fL (bj (nG) (pv 0) fM (bC _)) (aA (Js)) dg)
   (ao (dj)
   (ao (dj)
   (ao (dj)
   (aA (dj)))))), ?_⟩
  walk_at "rda"
  exact k
def JW : Sp := fun vs H Q _ => vs = [.non] /\ Q .non H
theorem sE (T : Txt K mg A D) : FnOk P w K mg base CX0 1 A.named_copy D.named_copy ["named"] JW := by
 refine T.F_named_copy.ok sS (fun vs H Q E h => ?_) (fun cdv A' outer s0 H vs Q E hr h => ?_)
 ·obtain ⟨rfl, _⟩ := h; rfl
 ·obtain ⟨rfl, k⟩ := h
  refine ⟨_, (aA (aR (jD (bj (nG) (pv 0) fM (bC _)) fM (bB (iR (K := K)) (by rfl) T.b_list (by decide +kernel) (aj (pv 0) aq))))), ?_⟩
  walk_at "rda"
  exact k
theorem pM (T : Txt K mg A D) : FnOk P w K mg base CX0 4 A.Buy___init__ D.Buy___init__ ["self", "day", "number", "ware", "pieces", "price", "fee"] (DY A 0) := by
 refine T.F_Buy___init__.ok pL (fun vs H Q E h => ?_) (fun cdv A' outer s0 H vs Q E hr h => ?_)
 ·obtain ⟨x, e, B, dx, hk, rfl, _⟩ := h
  cases e <;> first | rfl | cases hk
 ·obtain ⟨x, e, B, dx, hk, rfl, hN, hg, k⟩ := h
  cases e with
  | gift => cases hk
  | sell => cases hk
  | buy d n w p r f =>
  refine ⟨_, (ao (aW (jL T.cf_Entry___init__ (eV (K := K) T) (hr.mono (by decide)) (by rfl) T.m_Entry T.F_Entry___init__.kp (fu T) .nil aP (aj (pv 0) (aj (pv 1) (aj (pv 2) (aj (pv 3) aq))))))
   (ao (aW (aK (iV (K := K) T) (hr.mono (by decide)) (by rfl) T.m_check_trade T.k_check_trade (jk T) .nil aP (aj (pv 4) (aj (pv 5) (aj (pv 6) aq)))))
   (ao (aY (K := K) (pv 0) (pv 4) rfl)
   (ao (aY (K := K) (pv 0) (pv 5) rfl)
   (ao (aY (K := K) (pv 0) (pv 6) rfl)
   (aA (aY (K := K) (pv 0) (aL dJ (aL dZ (pv 4) (pv 5)) (pv 6)) rfl))))))), ?_⟩
  simp only [E3.args]
  walk_at "rda"
  refine ⟨x, d, n, w, B, _, dx, rfl, hN, GR T, hg.1, fun H1 hN => ?_⟩
  walk_at "rda"
  refine ⟨_, _, _, rfl, hg.2.1, hg.2.2.1, hg.2.2.2, ?_⟩
  walk_at "rda"
  refine ⟨_, dx, _, hN.h, T.cl_Buy, T.n_Buy_pieces, by simp [fsE], ?_⟩
  rw [bx (f := Str.ofString "pieces") ["day", "number", "ware"] (by rfl) (by decide +kernel)]
  have hN := hN.put (gs := (fsE d n w ++ [(Str.ofString "pieces", V.int p)])) rfl
  refine ⟨_, dx, _, hN.h, T.cl_Buy, T.n_Buy_price, by simp [fsE], ?_⟩
  rw [bx (f := Str.ofString "price") ["day", "number", "ware", "pieces"] (by rfl) (by decide +kernel)]
  have hN := hN.put (gs := ((fsE d n w ++ [(Str.ofString "pieces", V.int p)]) ++ [(Str.ofString "price", V.int r)])) rfl
  refine ⟨_, dx, _, hN.h, T.cl_Buy, T.n_Buy_fee, by simp [fsE], ?_⟩
  rw [bx (f := Str.ofString "fee") ["day", "number", "ware", "pieces", "price"] (by rfl) (by decide +kernel)]
  have hN := hN.put (gs := (((fsE d n w ++ [(Str.ofString "pieces", V.int p)]) ++ [(Str.ofString "price", V.int r)]) ++ [(Str.ofString "fee", V.int f)])) rfl
  refine ⟨CMulU.big (Nat.lt_of_le_of_lt (show p.natAbs <= 1000000000 from by have := hg.2.1; unfold Rg at this; omega) (by decide)) (Nat.lt_of_le_of_lt (show r.natAbs <= 1000000000 from by have := hg.2.2.1; unfold Rg at this; omega) (by decide)), ?_⟩
  refine ⟨_, dx, _, hN.h, T.cl_Buy, T.n_Buy_cost, by simp [fsE], ?_⟩
  rw [bx (f := Str.ofString "cost") ["day", "number", "ware", "pieces", "price", "fee"] (by rfl) (by decide +kernel)]
  have hN := hN.put (gs := ((((fsE d n w ++ [(Str.ofString "pieces", V.int p)]) ++ [(Str.ofString "price", V.int r)]) ++ [(Str.ofString "fee", V.int f)]) ++ [(Str.ofString "cost", V.int (p * r + f))])) rfl
  exact k _ hN
theorem mj (T : Txt K mg A D) : FnOk P w K mg base CX0 4 A.Gift___init__ D.Gift___init__ ["self", "day", "number", "ware", "pieces", "cost", "since"] (DY A 1) := by
 refine T.F_Gift___init__.ok lX (fun vs H Q E h => ?_) (fun cdv A' outer s0 H vs Q E hr h => ?_)
 ·obtain ⟨x, e, B, dx, hk, rfl, _⟩ := h
  cases e <;> first | rfl | cases hk
 ·obtain ⟨x, e, B, dx, hk, rfl, hN, hg, k⟩ := h
  cases e with
  | buy => cases hk
  | sell => cases hk
  | gift d n w p c s =>
  refine ⟨_, (ao (aW (jL T.cf_Entry___init__ (eV (K := K) T) (hr.mono (by decide)) (by rfl) T.m_Entry T.F_Entry___init__.kp (fu T) .nil aP (aj (pv 0) (aj (pv 1) (aj (pv 2) (aj (pv 3) aq))))))
   (ao (aW (aK (bA (K := K) T) (hr.mono (by decide)) (by rfl) T.m_check_number T.k_check_number (bK T) .nil aP (aj bF (aj (pv 4) (aj aG (aj (fj (v := V.int 1000000000) (by rfl) T.g_MOST_PIECES ⟨_, rfl⟩) aq))))))
   (ao (aW (aK (bA (K := K) T) (hr.mono (by decide)) (by rfl) T.m_check_number T.k_check_number (bK T) .nil aP (aj bF (aj (pv 5) (aj aG (aj (fj (v := V.int 1000000000000000000) (by rfl) T.g_MOST_GIFT_COST ⟨_, rfl⟩) aq))))))
   (ao (aW (aK (bA (K := K) T) (hr.mono (by decide)) (by rfl) T.m_check_number T.k_check_number (bK T) .nil aP (aj bF (aj (pv 6) (aj aG (aj (pv 1) aq))))))
   (ao (aY (K := K) (pv 0) (pv 4) rfl)
   (ao (aY (K := K) (pv 0) (pv 5) rfl)
   (aA (aY (K := K) (pv 0) (pv 6) rfl)))))))), ?_⟩
  simp only [E3.args]
  walk_at "rda"
  refine ⟨x, d, n, w, B, _, dx, rfl, hN, Bo T, hg.1, fun H1 hN => ?_⟩
  walk_at "rda"
  refine ⟨_, _, _, _, rfl, hg.2.1.1, hg.2.1.2, ?_⟩
  walk_at "rda"
  refine ⟨_, _, _, _, rfl, hg.2.2.1.1, hg.2.2.1.2, ?_⟩
  walk_at "rda"
  refine ⟨_, _, _, _, rfl, hg.2.2.2.1, hg.2.2.2.2, ?_⟩
  walk_at "rda"
  refine ⟨_, dx, _, hN.h, T.cl_Gift, T.n_Gift_pieces, by simp [fsE], ?_⟩
  rw [bx (f := Str.ofString "pieces") ["day", "number", "ware"] (by rfl) (by decide +kernel)]
  have hN := hN.put (gs := (fsE d n w ++ [(Str.ofString "pieces", V.int p)])) rfl
  refine ⟨_, dx, _, hN.h, T.cl_Gift, T.n_Gift_cost, by simp [fsE], ?_⟩
  rw [bx (f := Str.ofString "cost") ["day", "number", "ware", "pieces"] (by rfl) (by decide +kernel)]
  have hN := hN.put (gs := ((fsE d n w ++ [(Str.ofString "pieces", V.int p)]) ++ [(Str.ofString "cost", V.int c)])) rfl
  refine ⟨_, dx, _, hN.h, T.cl_Gift, T.n_Gift_since, by simp [fsE], ?_⟩
  rw [bx (f := Str.ofString "since") ["day", "number", "ware", "pieces", "cost"] (by rfl) (by decide +kernel)]
  have hN := hN.put (gs := (((fsE d n w ++ [(Str.ofString "pieces", V.int p)]) ++ [(Str.ofString "cost", V.int c)]) ++ [(Str.ofString "since", V.int s)])) rfl
  exact k _ hN
theorem lY (T : Txt K mg A D) : FnOk P w K mg base CX0 4 A.Sell___init__ D.Sell___init__ ["self", "day", "number", "ware", "pieces", "price", "fee", "named"] (DY A 2) := by
 refine T.F_Sell___init__.ok mD (fun vs H Q E h => ?_) (fun cdv A' outer s0 H vs Q E hr h => ?_)
 ·obtain ⟨x, e, B, dx, hk, rfl, _⟩ := h
  cases e <;> first | rfl | cases hk
 ·obtain ⟨x, e, B, dx, hk, rfl, hN, hg, k⟩ := h
  cases e with
  | buy => cases hk
  | gift => cases hk
  | sell d n w p r f =>
  refine ⟨_, (ao (aW (jL T.cf_Entry___init__ (eV (K := K) T) (hr.mono (by decide)) (by rfl) T.m_Entry T.F_Entry___init__.kp (fu T) .nil aP (aj (pv 0) (aj (pv 1) (aj (pv 2) (aj (pv 3) aq))))))
   (ao (aW (aK (iV (K := K) T) (hr.mono (by decide)) (by rfl) T.m_check_trade T.k_check_trade (jk T) .nil aP (aj (pv 4) (aj (pv 5) (aj (pv 6) aq)))))
   (ao (aW (aK (qR (K := K) T) (hr.mono (by decide)) (by rfl) T.m_check_named T.k_check_named (sW T) .nil aP (aj (pv 7) (aj (pv 4) aq))))
   (ao (aY (K := K) (pv 0) (pv 4) rfl)
   (ao (aY (K := K) (pv 0) (pv 5) rfl)
   (ao (aY (K := K) (pv 0) (pv 6) rfl)
   (ao (aY (K := K) (pv 0) (aK (sE (K := K) T) (hr.mono (by decide)) (by rfl) T.m_named_copy T.k_named_copy (tQ T) .nil aP (aj (pv 7) aq)) rfl)
   (aA (aY (K := K) (pv 0) (aL gF (aL dZ (pv 4) (pv 5)) (pv 6)) rfl))))))))), ?_⟩
  simp only [E3.args]
  walk_at "rda"
  refine ⟨x, d, n, w, B, _, dx, rfl, hN, CG T, hg.1, fun H1 hN => ?_⟩
  walk_at "rda"
  refine ⟨_, _, _, rfl, hg.2.1, hg.2.2.1, hg.2.2.2, ?_⟩
  walk_at "rda"
  refine ⟨_, rfl, ?_⟩
  walk_at "rda"
  refine ⟨_, dx, _, hN.h, T.cl_Sell, T.n_Sell_pieces, by simp [fsE], ?_⟩
  rw [bx (f := Str.ofString "pieces") ["day", "number", "ware"] (by rfl) (by decide +kernel)]
  have hN := hN.put (gs := (fsE d n w ++ [(Str.ofString "pieces", V.int p)])) rfl
  refine ⟨_, dx, _, hN.h, T.cl_Sell, T.n_Sell_price, by simp [fsE], ?_⟩
  rw [bx (f := Str.ofString "price") ["day", "number", "ware", "pieces"] (by rfl) (by decide +kernel)]
  have hN := hN.put (gs := ((fsE d n w ++ [(Str.ofString "pieces", V.int p)]) ++ [(Str.ofString "price", V.int r)])) rfl
  refine ⟨_, dx, _, hN.h, T.cl_Sell, T.n_Sell_fee, by simp [fsE], ?_⟩
  rw [bx (f := Str.ofString "fee") ["day", "number", "ware", "pieces", "price"] (by rfl) (by decide +kernel)]
  have hN := hN.put (gs := (((fsE d n w ++ [(Str.ofString "pieces", V.int p)]) ++ [(Str.ofString "price", V.int r)]) ++ [(Str.ofString "fee", V.int f)])) rfl
  refine ⟨rfl, ?_⟩
  walk_at "rda"
  refine ⟨_, dx, _, hN.h, T.cl_Sell, T.n_Sell_named, by simp [fsE], ?_⟩
  rw [bx (f := Str.ofString "named") ["day", "number", "ware", "pieces", "price", "fee"] (by rfl) (by decide +kernel)]
  have hN := hN.put (gs := ((((fsE d n w ++ [(Str.ofString "pieces", V.int p)]) ++ [(Str.ofString "price", V.int r)]) ++ [(Str.ofString "fee", V.int f)]) ++ [(Str.ofString "named", V.non)])) rfl
  refine ⟨CMulU.big (Nat.lt_of_le_of_lt (show p.natAbs <= 1000000000 from by have := hg.2.1; unfold Rg at this; omega) (by decide)) (Nat.lt_of_le_of_lt (show r.natAbs <= 1000000000 from by have := hg.2.2.1; unfold Rg at this; omega) (by decide)), ?_⟩
  refine ⟨_, dx, _, hN.h, T.cl_Sell, T.n_Sell_proceeds, by simp [fsE], ?_⟩
  rw [bx (f := Str.ofString "proceeds") ["day", "number", "ware", "pieces", "price", "fee", "named"] (by rfl) (by decide +kernel)]
  have hN := hN.put (gs := (((((fsE d n w ++ [(Str.ofString "pieces", V.int p)]) ++ [(Str.ofString "price", V.int r)]) ++ [(Str.ofString "fee", V.int f)]) ++ [(Str.ofString "named", V.non)]) ++ [(Str.ofString "proceeds", V.int (p * r - f))])) rfl
  exact k _ hN
end
end My
namespace My
open PySem L2 PyProof.Rows
section
variable {P : Program} {w : World} {K : Fg_} {mg : Str -> Option Value} {base : Heap} {A : Adr} {D : Fds}
local macro_rules | `(tactic| walk_at "nx") => `(tactic| ((try dsimp only); rw [ap_seq]; walk_at "rdi"))
theorem ce3 (T : Txt K mg A D) (e : E3) : CE K (e.cls A) := by
 cases e with
 | buy => exact GR T
 | gift => exact Bo T
 | sell => exact CG T
theorem uO (e : E3) : e.fs.lookup (Str.ofString "day") = some (.int e.day) := by cases e <;> rfl
theorem pJ (e : E3) : e.fs.lookup (Str.ofString "number") = some (.int e.num) := by cases e <;> rfl
abbrev EL := List (Addr × E3)
def gm (es : EL) : List V := es.map fun r => V.ref r.1
def EntAt (A : Adr) (H : Hp) (es : EL) : Prop := ∀ r ∈ es, IsE3 A H r.1 r.2
theorem EntAt.same {H H' : Hp} {es : EL} (h : EntAt A H es) (s : Same H H') : EntAt A H' es := fun r hr => (h r hr).same s
theorem fP (es : EL) : (gm es).length = es.length := by unfold gm; rw [List.length_map]
theorem um {rs : EL} {i : Nat} {y : V} (h : (gm rs)[i]? = some y) : ∃ r, rs[i]? = some r /\ y = .ref r.1 := by
 unfold gm at h
 rw [List.getElem?_map] at h
 cases e : rs[i]? with
 | none => rw [e] at h; cases h
 | some r => rw [e] at h; exact ⟨r, rfl, (Option.some.inj h).symm⟩
theorem Ew {f : Addr × E3 -> Int} {rs : EL} : ∀ {acc : List V}, acc.length = rs.length -> (∀ (i : Nat) v, acc[i]? = some v -> ∃ l, rs[i]? = some l /\ v = .int (f l)) -> acc = (rs.map f).map V.int := by
 intro acc hlen h
 refine List.ext_getElem? fun i => ?_
 rw [List.getElem?_map, List.getElem?_map]
 by_cases hi : i < acc.length
 ·obtain ⟨l, h1, h2⟩ := h i _ (List.getElem?_eq_getElem hi)
  rw [List.getElem?_eq_getElem hi, h2, h1]
  rfl
 ·rw [List.getElem?_eq_none (by omega), List.getElem?_eq_none (by omega)]
  rfl
theorem Gg (T : Txt K mg A D) {H : Hp} {q : Addr} {es : EL} {Q : VK} {σ : L2.St} (hq : H q = some (.lst (gm es))) (hE : EntAt A H es) (hl : es.length <= 100)
  (k : ∀ D H', H D = Option.none -> Same H H' -> H' D = some (.lst ((es.map fun l => l.2.num).map V.int)) -> Q (.ref D) H') : CompP [Option.none] (Itl K q) (xq 0) zH (Mt K (KH 0) "number") σ H Q := by
 refine CompP.listE (K := K) (fun σ => ∃ a, σ = [a]) (fun i v _ => ∃ l, es[i]? = some l /\ v = .int l.2.num) (SqL.of hq) ⟨_, rfl⟩ (by rw [fP, sizeLine_eq]; omega) ?_ ?_
 ·rintro Da i x hx σ H5 R ⟨_, rfl⟩ sm hD _ kk
  obtain ⟨l, hl', rfl⟩ := um hx
  obtain ⟨dx, hx'⟩ := (hE l (List.mem_of_getElem? hl')).same sm
  have hC := ce3 T l.2
  walk_at "rdi"
  exact ⟨_, dx, _, hx', hC.c, hC.n, _, pJ l.2, kk _ _ H5 ⟨_, rfl⟩ (Same.refl _) fun H' _ => ⟨l, hl', rfl⟩⟩
 ·intro Da H' acc hD sm hA hlen hF
  rw [Ew (f := fun l => l.2.num) (by rw [hlen, fP]) hF] at hA
  exact k Da H' hD sm hA
theorem Ot {g : TG} {tb : TS} {D : Ends} {σ : L2.St} {H : Hp} {a b : Addr} {xs ys : List V} (Pv : Nat -> L2.St -> Hp -> Prop) (n : Nat) (hn1 : n <= xs.length) (hn2 : n <= ys.length) (hend : xs.length <= n \/ ys.length <= n) (h0 : Pv 0 σ H) (hl : ∀ i σ H, i <= n -> Pv i σ H -> SqL K H a xs /\ SqL K H b ys)
  (hs : ∀ i x y σ H p, xs[i]? = some x -> ys[i]? = some y -> Pv i σ H -> H p = Option.none -> g (.ref p) σ (upd H p (.tup [x, y])) fun σ2 H2 => tb { D with nx := Pv (i + 1), ct := Pv (i + 1), bk := D.nx } σ2 H2) (hd : ∀ σ H, Pv n σ H -> D.nx σ H) : ForP (Itz K a b) g tb D σ H := by
 refine ⟨fun i m σ H => m = n - i /\ i <= n /\ Pv i σ H, ⟨n, by simp, Nat.zero_le _, h0⟩, ?_⟩
 rintro i m σ H ⟨rfl, hi, p⟩
 obtain ⟨q1, q2⟩ := hl i σ H hi p
 by_cases hlt : i < n
 ·have h1 : i < xs.length := by omega
  have h2 : i < ys.length := by omega
  refine .inr ⟨⟨xs, ys, xs[i], ys[i], q1, q2, by simp, by simp⟩, Pv (i + 1), fun σ' H' p' => ⟨n - (i + 1), by omega, rfl, hlt, p'⟩, fun v H' y => ?_⟩
  obtain ⟨pp, x, y, hp, rfl, rfl, e1, e2⟩ := y
  exact hs i x y σ _ pp (e1 xs q1) (e2 ys q2) p hp
 ·have e : i = n := by omega
  subst e
  exact .inl ⟨⟨xs, ys, q1, q2, hend⟩, hd σ H p⟩
def pN (K : Fg_) : Sp := fun vs H Q _ => ∃ (a : Addr) (ns : List Int), vs = [.ref a] /\ SqL K H a (ns.map V.int) /\ ns.length < 64 /\ ns.Nodup /\ ∀ H', Same H H' -> Q .non H'
theorem nA (T : Txt K mg A D) : FnOk P w K mg base CX0 1 A.refuse_twice D.refuse_twice ["numbers"] (pN K) := by
 refine T.F_refuse_twice.ok sc_refuse_twice (fun vs H Q E h => ?_) (fun cdv A' outer s0 H vs Q E hr h => ?_)
 ·obtain ⟨a, ns, rfl, _⟩ := h; rfl
 ·obtain ⟨a, ns, rfl, hS, hl, hu, k⟩ := h
  refine ⟨_, (ao (aO (i := 1) sc_refuse_twice.nd rfl (Or.inl rfl) (aV (wk (K := K)) (by rfl) T.b_sorted (by decide +kernel) (aj (pv 0) aq)))
   (aA (jg PassesOwn.never rfl (Hg (K := K) (by rfl) T.b_zip (aj (pv 1) (aj (sZ (rT (K := K)) (pv 1) (wC aG) vQ) aq))) (gW (K := K) (n := 2) rfl (aU (aH (i := 2) sc_refuse_twice.nd rfl (Or.inl rfl)) (aU (aH (i := 3) sc_refuse_twice.nd rfl (Or.inl rfl)) fW)))
    (aA (fL (bj (rJ) (pv 2) (pv 3) (bC _)) (aA (dj)) dg))))), ?_⟩
  simp only [start_eq]
  walk_at "nx"
  refine ⟨ns, hS, hl, fun p ms hp hpm hord => ?_⟩
  have hms : ms.Nodup := hpm.nodup_iff.mpr hu
  have S1 := Same.new (o := .lst (ms.map V.int)) hp
  have h1 : (upd H p (.lst (ms.map V.int))) p = some (.lst (ms.map V.int)) := au
  generalize upd H p (.lst (ms.map V.int)) = H1 at S1 h1
  try dsimp only
  rw [ap_for]
  walk_at "rdi"
  refine ⟨_, SqL.of h1, fun pc hpc => ?_⟩
  rw [show yg (ms.map V.int) (some 1) Option.none = (ms.drop 1).map V.int by rw [List.map_drop]; exact Gf (ms.map V.int) 1]
  have S2 := S1.trans (Same.new (o := .lst ((ms.drop 1).map V.int)) hpc)
  have h2 : (upd H1 pc (.lst ((ms.drop 1).map V.int))) pc = some (.lst ((ms.drop 1).map V.int)) := au
  have h2p := Same.new (o := .lst ((ms.drop 1).map V.int)) hpc _ _ h1
  generalize upd H1 pc (.lst ((ms.drop 1).map V.int)) = H2 at S2 h2 h2p
  refine ⟨⟨_, SqL.of h2p⟩, ⟨_, SqL.of h2⟩, ?_⟩
  refine Ot (K := K) (a := p) (b := pc) (xs := ms.map V.int) (ys := (ms.drop 1).map V.int) (fun i σ Hx => (∃ v2 v3, σ = [some (.ref a), some (.ref p), v2, v3]) /\ Same H2 Hx) (ms.length - 1) (by rw [List.length_map]; omega) (by rw [List.length_map, List.length_drop]; omega) (.inr (by rw [List.length_map, List.length_drop]; omega))
   ⟨⟨_, _, rfl⟩, Same.refl _⟩ (fun i σ Hx _ ⟨_, s⟩ => ⟨s.seq (SqL.of h2p), s.seq (SqL.of h2)⟩) ?_ ?_
  ·rintro i x y σ H3 pt hx hy ⟨⟨v2, v3, rfl⟩, s3⟩ hpt
   rw [List.getElem?_map] at hx hy
   obtain ⟨m1, hm1, rfl⟩ := Option.map_eq_some_iff.mp hx
   obtain ⟨m2, hm2, rfl⟩ := Option.map_eq_some_iff.mp hy
   rw [List.getElem?_drop] at hm2
   have hne : m1 ≠ m2 := by
    obtain ⟨q1, e1⟩ := List.getElem?_eq_some_iff.mp hm1
    obtain ⟨q2, e2⟩ := List.getElem?_eq_some_iff.mp hm2
    have := List.pairwise_iff_getElem.mp hms i (1 + i) q1 q2 (by omega)
    rw [e1, e2] at this
    exact this
   have S3 := s3.trans (Same.new (o := .tup [V.int m1, V.int m2]) hpt)
   have h3 : (upd H3 pt (.tup [V.int m1, V.int m2])) pt = some (.tup [V.int m1, V.int m2]) := au
   generalize upd H3 pt (.tup [V.int m1, V.int m2]) = H4 at S3 h3
   walk_at "rdi"
   refine ⟨_, SqT.of h3, rfl, _, _, rfl, _, _, rfl, rfl, ?_⟩
   refine ⟨rfl, ?_⟩
   rw [if_neg (fun e => hne (by cases e; rfl))]
   exact S3
  ·rintro σ H3 ⟨⟨v2, v3, rfl⟩, s3⟩
   exact k _ (S2.trans s3)
def xH (A : Adr) : Sp := fun vs H Q _ => ∃ (x : Addr) (e : E3), vs = [.ref x] /\ IsE3 A H x e /\ ∀ t, H t = Option.none -> Q (.ref t) (upd H t (.tup [.int e.day, .int e.num]))
theorem jc (T : Txt K mg A D) : FnOk P w K mg base CX0 1 A.place_of D.place_of ["entry"] (xH A) := by
 refine T.F_place_of.ok wK (fun vs H Q E h => ?_) (fun cdv A' outer s0 H vs Q E hr h => ?_)
 ·obtain ⟨x, e, rfl, _⟩ := h; rfl
 ·obtain ⟨x, e, rfl, ⟨dx, hx⟩, k⟩ := h
  refine ⟨_, (aA (aR (gK (aj (aB (K := K) (pv 0) rfl) (aj (aB (K := K) (pv 0) rfl) aq))))), ?_⟩
  have hC := ce3 T e
  walk_at "rda"
  exact ⟨_, dx, _, hx, hC.c, hC.d, _, uO e, _, dx, _, hx, hC.c, hC.n, _, pJ e, by rw [sizeLine_eq]; decide, fun t ht => k t ht⟩
def Oc : V -> Int
 | .int i => i
 | _ => 0
def kfE (H : Hp) : V -> List Int
 | .ref b => match H b with
  | some (.ins _ _ fs) => [Oc ((fs.lookup (Str.ofString "day")).getD .non), Oc ((fs.lookup (Str.ofString "number")).getD .non)]
  | _ => []
 | _ => []
theorem nH {H : Hp} {b : Addr} {e : E3} (h : IsE3 A H b e) : kfE H (.ref b) = [e.day, e.num] := by
 obtain ⟨dx, hx⟩ := h
 unfold kfE
 dsimp only
 rw [hx]
 dsimp only
 rw [uO, pJ]
 rfl
def BfE (d e : E3) : Prop := d.day < e.day \/ (d.day = e.day /\ d.num < e.num)
theorem BfE.asym {d e : E3} (h : BfE d e) (h' : BfE e d) : False := by
 unfold BfE at h h'
 omega
theorem Jc {d e : E3} (h : ig [d.day, d.num] [e.day, e.num] false = true) (hn : d.num ≠ e.num) : BfE d e := by
 rw [ig] at h
 by_cases e1 : d.day = e.day
 ·rw [if_pos e1, ig, if_neg hn] at h
  exact .inr ⟨e1, of_decide_eq_true h⟩
 ·rw [if_neg e1] at h
  exact .inl (of_decide_eq_true h)
theorem Lk {l k : List E3} (h : l.Perm k) (h1 : l.Pairwise BfE) (h2 : k.Pairwise BfE) : l = k := List.Perm.eq_of_pairwise (fun a b _ _ x y => (x.asym y).elim) h1 h2 h
theorem zr {α : Type} {f : α -> V} : ∀ {zs ys : List V}, zs.Perm ys -> ∀ {rs : List α}, ys = rs.map f -> ∃ rs' : List α, zs = rs'.map f /\ rs'.Perm rs := by
 intro zs ys h
 induction h with
 | nil => intro rs e; exact ⟨[], rfl, by cases rs with | nil => exact .nil | cons _ _ => cases e⟩
 | cons x _ ih =>
  intro rs e
  cases rs with
  | nil => cases e
  | cons r rs =>
   rw [List.map_cons] at e
   obtain ⟨e1, e2⟩ := List.cons.inj e
   obtain ⟨rs', a1, a2⟩ := ih e2
   exact ⟨r :: rs', by rw [List.map_cons, <- a1, e1], a2.cons r⟩
 | swap x y l =>
  intro rs e
  cases rs with
  | nil => cases e
  | cons r rs => cases rs with
   | nil => cases e
   | cons r2 rs =>
    rw [List.map_cons, List.map_cons] at e
    obtain ⟨e1, e2⟩ := List.cons.inj e
    obtain ⟨e3, e4⟩ := List.cons.inj e2
    exact ⟨r2 :: r :: rs, by rw [List.map_cons, List.map_cons, e1, e3, e4], .swap _ _ _⟩
 | trans _ _ ih1 ih2 =>
  intro rs e
  obtain ⟨r2, a1, a2⟩ := ih2 e
  obtain ⟨r3, b1, b2⟩ := ih1 a1
  exact ⟨r3, b1, b2.trans a2⟩
def vX (A : Adr) : Sp := fun vs H Q _ => ∃ (q : Addr) (es : EL), vs = [.ref q] /\ H q = some (.lst (gm es)) /\ EntAt A H es /\ es.length < 64 /\ (es.map (·.2.num)).Nodup /\
 ∀ p es' H', Same H H' -> H p = Option.none -> H' p = some (.lst (gm es')) -> es'.Perm es -> (es'.map (·.2)).Pairwise BfE -> Q (.ref p) H'
theorem vP (T : Txt K mg A D) : FnOk P w K mg base CX0 4 A.in_order D.in_order ["entries"] (vX A) := by
 refine T.F_in_order.ok wR (fun vs H Q E h => ?_) (fun cdv A' outer s0 H vs Q E hr h => ?_)
 ·obtain ⟨q, es, rfl, _⟩ := h; rfl
 ·obtain ⟨q, es, rfl, hq, hE, hl, hu, k⟩ := h
  refine ⟨_, (ao (aW (aK (nA (K := K) T) (hr.mono (by decide)) (by rfl) T.m_refuse_twice T.k_refuse_twice (qQ T) .nil aP (aj (bI (cap := [Option.none]) (N' := ["entry"]) rfl (by walk_at "compok") (aZ (K := K) (pv 0)) (fun _ _ _ _ => (aH (i := 0) (show (["entry"] : List Str).Nodup from by decide +kernel) rfl (Or.inl rfl) (Or.inr rfl))) (fun _ _ _ _ => bH) (fun _ _ _ _ => (aB (K := K) (pv 0) rfl))) aq)))
   (aA (aR (nU (K := K) (by rfl) (qZ (jc (K := K) T) (hr.mono (by decide)) (jZ T) (by rfl) T.b_sorted (by decide +kernel) (by rfl) T.m_place_of (aj (pv 0) aq)))))), ?_⟩
  simp only [start_eq]
  walk_at "nx"
  refine ⟨⟨_, SqL.of hq⟩, Gg T hq hE (by omega) fun D1 H1 hD1 s1 h1 => ?_⟩
  refine ⟨D1, _, rfl, SqL.of h1, by rw [List.length_map]; exact hl, hu, fun H2 s2 => ?_⟩
  have S2 := s1.trans s2
  have hE2 := hE.same S2
  walk_at "rdi"
  refine ⟨_, SqL.of (S2 _ _ hq), by rw [fP]; exact hl, kfE H2, fun y hy => ?_, fun p zs H3 s3 hn hz hperm hord => ?_⟩
  ·obtain ⟨o, ho, rfl⟩ := List.mem_map.mp hy
   rw [nH (hE2 o ho)]
   refine ⟨by simp, fun H5 s5 R hR => ⟨o.1, o.2, rfl, (hE2 o ho).same s5, fun t ht => hR t _ (Same.new ht) ?_⟩⟩
   rw [nH (hE2 o ho)]
   exact au
  ·obtain ⟨os, rfl, hpm⟩ := zr (f := fun r : Addr × E3 => V.ref r.1) hperm rfl
   have hou : es.Pairwise fun a b => a.2.num ≠ b.2.num := List.pairwise_map.mp hu
   have hou' : os.Pairwise fun a b => a.2.num ≠ b.2.num := by
    have : (os.map fun r => r.2.num).Nodup := (hpm.map fun r => r.2.num).nodup_iff.mpr hu
    exact List.pairwise_map.mp this
   have hor := hord 2 (fun y hy => by
    obtain ⟨r, hr, rfl⟩ := List.mem_map.mp hy
    rw [nH (hE2 r hr)]
    rfl) (by
    refine List.pairwise_map.mpr (List.pairwise_map.mpr (List.Pairwise.imp_of_mem (fun {a b} ha hb hne z => hne ?_) hou))
    rw [nH (hE2 a ha), nH (hE2 b hb)] at z
    exact (List.cons.inj (List.cons.inj z).2).1)
   refine k p os H3 (S2.trans s3) (S2.free hn) hz hpm ?_
   refine List.pairwise_map.mpr (List.Pairwise.imp_of_mem (fun {a b} ha hb h => ?_) ((List.pairwise_map.mp hor).and hou'))
   have h1 := h.1
   rw [nH (hE2 a (hpm.mem_iff.mp ha)), nH (hE2 b (hpm.mem_iff.mp hb))] at h1
   exact Jc h1 h.2
end
end My
namespace My
open PySem L2 PyProof.Rows
section
variable {P : Program} {w : World} {K : Fg_} {mg : Str -> Option Value} {base : Heap} {A : Adr} {D : Fds}
def za : Sp := fun vs H Q _ => ∃ a p w : Int, vs = [.int a, .int p, .int w] /\ CMulU a p /\ uX 0 w /\ Q (.int (a * p / w)) H
theorem qW (T : Txt K mg A D) : FnOk P w K mg base CX0 1 A.part_of D.part_of ["amount", "part", "whole"] za := by
 refine T.F_part_of.ok zR (fun vs H Q E h => ?_) (fun cdv A outer s H vs Q E hr h => ?_)
 ·obtain ⟨a, p, w', rfl, _⟩ := h; rfl
 ·obtain ⟨a, p, w', rfl, h1, h2, k⟩ := h
  refine ⟨_, (aA (aR (aL iQ (aL dZ (pv 0) (pv 1)) (pv 2)))), ?_⟩
  walk_at "rd"
  exact ⟨h1, h2, k⟩
end
end My
namespace My
open PySem L2 PyProof.Rows
section
variable {P : Program} {w : World} {K : Fg_} {mg : Str -> Option Value} {base : Heap} {A : Adr} {D : Fds}
local macro_rules | `(tactic| walk_at "nx") => `(tactic| ((try dsimp only); rw [ap_seq]; walk_at "rdi"))
def vp (A : Adr) : Sp := fun vs H Q _ => ∃ (x : Addr) (d : LotD) (p : Int), vs = [.ref x, .int p] /\ IsLot A H x d /\ CMulU d.c p /\ uX 0 d.p /\
 ∀ t y v H', Same H H' -> H t = Option.none -> H' t = some (.tup [.ref y, v]) -> IsLot A H' y ⟨d.n, d.s, p, d.c * p / d.p⟩ -> (p = d.p -> v = .non) -> (p ≠ d.p -> ∃ z, v = .ref z /\ IsLot A H' z ⟨d.n, d.s, d.p - p, d.c - d.c * p / d.p⟩) -> Q (.ref t) H'
theorem uq (T : Txt K mg A D) : FnOk P w K mg base CX0 3 A.Lot_taken D.Lot_taken ["self", "pieces"] (vp A) := by
 refine T.F_Lot_taken.ok sc_Lot_taken (fun vs H Q E h => ?_) (fun cdv A' outer s H vs Q E hr h => ?_)
 ·obtain ⟨x, d, p, rfl, _⟩ := h; rfl
 ·obtain ⟨x, ⟨n, s, p, c⟩, p', rfl, ⟨dx, hx⟩, m1, m2, k⟩ := h
  refine ⟨_, (ao (aO (i := 2) sc_Lot_taken.nd rfl (Or.inl rfl) (aK (qW (K := K) T) (hr.mono (by decide)) (by rfl) T.m_part_of T.k_part_of (vh T) .nil aP (aj (aB (K := K) (pv 0) rfl) (aj (pv 1) (aj (aB (K := K) (pv 0) rfl) aq)))))
   (ao (aO (i := 3) sc_Lot_taken.nd rfl (Or.inl rfl) (fO T.mk_Lot (cZ (K := K) T) (hr.mono (by decide)) (by rfl) T.m_Lot (dI T) .nil aP (aj (aB (K := K) (pv 0) rfl) (aj (aB (K := K) (pv 0) rfl) (aj (pv 1) (aj (pv 2) aq))))))
   (ao (fL (bj (rJ) (pv 1) (aB (K := K) (pv 0) rfl) (bC _)) (aA (aR (gK (aj (pv 3) (aj fM aq))))) dg)
   (aA (aR (gK (aj (pv 3) (aj (fO T.mk_Lot (cZ (K := K) T) (hr.mono (by decide)) (by rfl) T.m_Lot (dI T) .nil aP (aj (aB (K := K) (pv 0) rfl) (aj (aB (K := K) (pv 0) rfl) (aj (aL gF (aB (K := K) (pv 0) rfl) (pv 1)) (aj (aL gF (aB (K := K) (pv 0) rfl) (pv 2)) aq))))) aq)))))))), ?_⟩
  simp only [start_eq]
  walk_at "nx"
  refine ⟨_, dx, _, hx, T.cl_Lot, T.n_Lot_cost, _, by rfl, _, dx, _, hx, T.cl_Lot, T.n_Lot_pieces, _, by rfl, c, p', p, rfl, m1, m2, ?_⟩
  walk_at "nx"
  refine ⟨_, dx, _, hx, T.cl_Lot, T.n_Lot_number, _, by rfl, _, dx, _, hx, T.cl_Lot, T.n_Lot_since, _, by rfl, fun y dy hy hdy _ => ?_⟩
  refine jB (A := A) ⟨n, s, p', c * p' / p⟩ hy hdy fun H1 s1 hY => ?_
  have hx1 := s1 _ _ hx
  walk_at "nx"
  refine ⟨_, dx, _, hx1, T.cl_Lot, T.n_Lot_pieces, _, by rfl, rfl, ?_⟩
  by_cases e : p' = p
  ·rw [if_pos (by simp [e])]
   refine ⟨by rw [sizeLine_eq]; decide, fun t ht => k t y .non _ (s1.trans (Same.new ht)) (s1.free ht) au (hY.same (Same.new ht)) (fun _ => rfl) fun h => (h e).elim⟩
  ·rw [if_neg (by simp [e])]
   refine ⟨_, dx, _, hx1, T.cl_Lot, T.n_Lot_number, _, by rfl, _, dx, _, hx1, T.cl_Lot, T.n_Lot_since, _, by rfl, _, dx, _, hx1, T.cl_Lot, T.n_Lot_pieces, _, by rfl, _, rfl, _, dx, _, hx1, T.cl_Lot, T.n_Lot_cost, _, by rfl, _, rfl, fun z dz hz hdz _ => ?_⟩
   refine jB (A := A) ⟨n, s, p - p', c - c * p' / p⟩ hz hdz fun H2 s2 hZ => ⟨by rw [sizeLine_eq]; decide, fun t ht => ?_⟩
   exact k t y (.ref z) _ (s1.trans (s2.trans (Same.new ht))) ((s1.trans s2).free ht) au (hY.same (s2.trans (Same.new ht))) (fun h => (e h).elim) fun _ => ⟨z, rfl, hZ.same (Same.new ht)⟩
end
end My
namespace My
open PySem L2 PyProof.Rows
section
variable {P : Program} {w : World} {K : Fg_} {mg : Str -> Option Value} {base : Heap} {A : Adr} {D : Fds}
abbrev Pk := List (Int × Int)
def gU (ks : Pk) (d : LotD) : LotD := match ks.lookup d.n with
 | some w => ⟨d.n, d.s, d.p - w, d.c - d.c * w / d.p⟩
 | Option.none => d
def rE (ds : List LotD) (k : Int × Int) : LotD := match ds.find? (fun d => d.n == k.1) with
 | some d => ⟨d.n, d.s, k.2, d.c * k.2 / d.p⟩
 | Option.none => ⟨0, 0, 0, 0⟩
def zY (ks : Pk) (ds : List LotD) : List LotD := (ds.map (gU ks)).filter fun d => decide (0 < d.p)
structure RowOk (ds : List LotD) : Prop where
 u : (ds.map LotD.n).Nodup
 g : ∀ d ∈ ds, (1 <= d.p /\ d.p <= 100000000000) /\ 0 <= d.c /\ d.c <= 100000000000000000000
 l : ds.length <= 61
structure PkOk (ds : List LotD) (ks : Pk) : Prop where
 u : (ks.map (·.1)).Nodup
 h : ∀ k ∈ ks, ∃ d ∈ ds, d.n = k.1 /\ 1 <= k.2 /\ k.2 <= d.p
def kz (ds : List LotD) (vs : List V) : List (Key × V) := List.zipWith (fun d v => ((Sum.inl d.n : Key), v)) ds vs
theorem BW : ∀ {ds : List LotD} {vs : List V} {j : Nat} {d : LotD} {v : V}, (ds.map LotD.n).Nodup -> ds[j]? = some d -> vs[j]? = some v -> iW (kz ds vs) (Sum.inl d.n) = some v
 | [], _, _, _, _, _, h, _ => by simp at h
 | _ :: _, [], _, _, _, _, _, h => by simp at h
 | d0 :: ds, v0 :: vs, 0, d, v, _, h1, h2 => by
  cases h1; cases h2
  exact gM rfl
 | d0 :: ds, v0 :: vs, j + 1, d, v, hu, h1, h2 => by
  rw [List.map_cons, List.nodup_cons] at hu
  have h1' : ds[j]? = some d := h1
  have hne : ¬ ((Sum.inl d0.n : Key) = Sum.inl d.n) := fun e => hu.1 (by
   have e' : d0.n = d.n := Sum.inl.inj e
   rw [e']
   exact List.mem_map.mpr ⟨d, List.mem_of_getElem? h1', rfl⟩)
  show iW ((Sum.inl d0.n, v0) :: kz ds vs) _ = _
  rw [iI hne]
  exact BW hu.2 h1' h2
theorem Gy : ∀ {ds : List LotD} {vs : List V} {j : Nat} {d : LotD} {v' : V}, (ds.map LotD.n).Nodup -> ds[j]? = some d -> (kz ds vs).map (fun kv => if kv.1 = (Sum.inl d.n : Key) then (kv.1, v') else kv) = kz ds (vs.set j v')
 | [], _, _, _, _, _, h => by simp at h
 | d0 :: ds, [], j, d, v', _, _ => by simp [kz]
 | d0 :: ds, v0 :: vs, 0, d, v', hu, h1 => by
  cases h1
  rw [List.map_cons, List.nodup_cons] at hu
  show (if (Sum.inl d0.n : Key) = Sum.inl d0.n then ((Sum.inl d0.n : Key), v') else _) :: (kz ds vs).map _ = (Sum.inl d0.n, v') :: kz ds vs
  rw [if_pos rfl]
  congr 1
  refine (List.map_congr_left fun kv hkv => ?_).trans (List.map_id _)
  rw [if_neg]
  ·rfl
  ·intro e
   obtain ⟨i, hi, e2⟩ := List.getElem_of_mem hkv
   have hd : i < ds.length := by simp [kz] at hi; omega
   have : kv.1 = Sum.inl ds[i].n := by rw [<- e2]; simp [kz]
   rw [this] at e
   exact hu.1 (by rw [<- Sum.inl.inj e]; exact List.mem_map.mpr ⟨ds[i], List.getElem_mem hd, rfl⟩)
 | d0 :: ds, v0 :: vs, j + 1, d, v', hu, h1 => by
  rw [List.map_cons, List.nodup_cons] at hu
  have h1' : ds[j]? = some d := h1
  have hne : ¬ ((Sum.inl d0.n : Key) = Sum.inl d.n) := fun e => hu.1 (by
   have e' : d0.n = d.n := Sum.inl.inj e
   rw [e']
   exact List.mem_map.mpr ⟨d, List.mem_of_getElem? h1', rfl⟩)
  show (if (Sum.inl d0.n : Key) = Sum.inl d.n then _ else ((Sum.inl d0.n : Key), v0)) :: (kz ds vs).map _ = (Sum.inl d0.n, v0) :: kz ds (vs.set j v')
  rw [if_neg hne, Gy hu.2 h1']
theorem Ky {ds : List LotD} {vs : List V} {j : Nat} {d : LotD} {v v' : V} (hu : (ds.map LotD.n).Nodup) (h1 : ds[j]? = some d) (h2 : vs[j]? = some v) : putK (kz ds vs) (Sum.inl d.n) v' = kz ds (vs.set j v') := by
 unfold putK
 rw [if_pos (by rw [fV, BW hu h1 h2]; rfl)]
 exact Gy hu h1
theorem Am : ∀ {ds : List LotD} {vs : List V} {n : Int}, n ∉ ds.map LotD.n -> iW (kz ds vs) (Sum.inl n) = Option.none
 | [], _, _, _ => rfl
 | _ :: _, [], _, _ => rfl
 | d :: ds, v :: vs, n, h => by
  rw [List.map_cons, List.mem_cons, not_or] at h
  show iW ((Sum.inl d.n, v) :: kz ds vs) _ = _
  rw [iI (fun e => h.1 (Sum.inl.inj e).symm)]
  exact Am h.2
theorem Ld {ds : List LotD} {vs : List V} {d : LotD} {v : V} (hl : vs.length = ds.length) (h : d.n ∉ ds.map LotD.n) : putK (kz ds vs) (Sum.inl d.n) v = kz (ds ++ [d]) (vs ++ [v]) := by
 unfold putK
 rw [if_neg (by rw [fV, Am h]; simp)]
 unfold kz
 rw [List.zipWith_append hl.symm]
 rfl
theorem Ay : ∀ {ds : List LotD} {vs : List V}, vs.length = ds.length -> (kz ds vs).map (·.2) = vs
 | [], [], _ => rfl
 | [], _ :: _, h => by simp at h
 | _ :: _, [], h => by simp at h
 | d :: ds, v :: vs, h => by
  show v :: (kz ds vs).map (·.2) = _
  rw [Ay (by simpa using h)]
theorem GX {ds : List LotD} {vs : List V} (h : vs.length = ds.length) : (kz ds vs).length = ds.length := by simp [kz, h]
theorem uF {ks : Pk} {n : Int} (h : n ∉ ks.map (·.1)) : ks.lookup n = Option.none := by
 induction ks with
 | nil => rfl
 | cons k ks ih =>
  rw [List.map_cons, List.mem_cons, not_or] at h
  have e : (n == k.1) = false := by simpa using h.1
  obtain ⟨a, b⟩ := k
  show (match n == a with | true => some b | false => ks.lookup n) = _
  rw [show (n == a) = false from e]
  exact ih h.2
theorem uQ {ks : Pk} {n w : Int} (m : Int) : (ks ++ [(n, w)]).lookup m = match ks.lookup m with | some x => some x | Option.none => if m = n then some w else Option.none := by
 induction ks with
 | nil =>
  show (match m == n with | true => some w | false => Option.none) = _
  by_cases e : m = n
  ·simp [e]
  ·have e' : (m == n) = false := by simpa using e
   rw [e']
   simp [e]
 | cons k ks ih =>
  obtain ⟨a, b⟩ := k
  show (match m == a with | true => some b | false => (ks ++ [(n, w)]).lookup m) = match (match m == a with | true => some b | false => ks.lookup m) with | some x => some x | Option.none => _
  cases m == a with
  | true => rfl
  | false => exact ih
theorem Cw {ks : Pk} {n w : Int} {d : LotD} (h : d.n ≠ n) : gU (ks ++ [(n, w)]) d = gU ks d := by
 unfold gU
 rw [uQ]
 cases ks.lookup d.n with
 | none => simp [h]
 | some x => rfl
theorem Eo {ks : Pk} {w : Int} {d : LotD} (h : d.n ∉ ks.map (·.1)) : gU (ks ++ [(d.n, w)]) d = ⟨d.n, d.s, d.p - w, d.c - d.c * w / d.p⟩ := by
 unfold gU
 rw [uQ, uF h]
 simp
theorem Fq {ks : Pk} {d : LotD} (h : d.n ∉ ks.map (·.1)) : gU ks d = d := by
 unfold gU
 rw [uF h]
theorem some_at {ds : List LotD} {d : LotD} {w : Int} (hu : (ds.map LotD.n).Nodup) (h : d ∈ ds) : rE ds (d.n, w) = ⟨d.n, d.s, w, d.c * w / d.p⟩ := by
 have : ds.find? (fun e => e.n == d.n) = some d := by
  induction ds with
  | nil => cases h
  | cons e ds ih =>
   rw [List.map_cons, List.nodup_cons] at hu
   rcases List.mem_cons.mp h with rfl | h
   ·simp
   ·have : e.n ≠ d.n := fun z => hu.1 (by rw [z]; exact List.mem_map.mpr ⟨d, h, rfl⟩)
    rw [List.find?_cons_of_neg (by simpa using this)]
    exact ih hu.2 h
 unfold rE
 rw [this]
theorem Fl {ks : Pk} {i : Nat} {k : Int × Int} (h : (ks.map (·.1)).Nodup) (e : ks[i]? = some k) : k.1 ∉ (ks.take i).map (·.1) := by
 intro hm
 have h2 : ks.map (·.1) = (ks.take i).map (·.1) ++ (ks.drop i).map (·.1) := by rw [<- List.map_append, List.take_append_drop]
 rw [h2] at h
 exact (List.nodup_append.mp h).2.2 _ hm k.1 (List.mem_map.mpr ⟨k, by rw [List.mem_iff_getElem?]; exact ⟨0, by rw [List.getElem?_drop]; exact e⟩, rfl⟩) rfl
theorem tZ : ∀ {l k : List Int}, l.Nodup -> (∀ x ∈ l, x ∈ k) -> l.length <= k.length
 | [], _, _, _ => Nat.zero_le _
 | x :: l, k, h, s => by
  have h' := List.nodup_cons.mp h
  have hx : x ∈ k := s x (.head _)
  have := tZ (l := l) (k := k.erase x) h'.2 fun y hy => (List.mem_erase_of_ne (fun e => by subst e; exact h'.1 hy)).mpr (s y (.tail _ hy))
  rw [List.length_erase_of_mem hx] at this
  have hp : 0 < k.length := List.length_pos_of_mem hx
  rw [List.length_cons]
  omega
end
end My
namespace My
open PySem L2 PyProof.Rows
section
variable {P : Program} {w : World} {K : Fg_} {mg : Str -> Option Value} {base : Heap} {A : Adr} {D : Fds}
local macro_rules | `(tactic| walk_at "nx") => `(tactic| ((try dsimp only); rw [ap_seq]; walk_at "rdi"))
abbrev PL := List (Addr × Int × Int)
def qG (ps : PL) : List V := ps.map fun r => V.ref r.1
def Ms (H : Hp) (ps : PL) : Prop := ∀ r ∈ ps, H r.1 = some (.tup [.int r.2.1, .int r.2.2])
theorem Ae {ps : PL} {i : Nat} {y : V} (h : (qG ps)[i]? = some y) : ∃ r, ps[i]? = some r /\ y = .ref r.1 := by
 unfold qG at h
 rw [List.getElem?_map] at h
 cases e : ps[i]? with
 | none => rw [e] at h; cases h
 | some r => rw [e] at h; exact ⟨r, rfl, (Option.some.inj h).symm⟩
theorem ut (ps : PL) : (qG ps).length = ps.length := by unfold qG; rw [List.length_map]
theorem IsLot.put {H : Hp} {x l : Addr} {d : LotD} {o : HO} (h : IsLot A H x d) (hl : ∀ C dx fs, H l ≠ some (.ins C dx fs)) : IsLot A (upd H l o) x d := by
 obtain ⟨dx, e⟩ := h
 exact ⟨dx, (aF fun z => hl _ _ _ (z ▸ e)).trans e⟩
def OkV (A : Adr) (H : Hp) (d : LotD) (v : V) : Prop := (0 < d.p /\ ∃ x, v = .ref x /\ IsLot A H x d) \/ (d.p = 0 /\ v = .non)
theorem OkV.same {H H' : Hp} {d : LotD} {v : V} (h : OkV A H d v) (s : Same H H') : OkV A H' d v := h.imp (fun ⟨a, x, e, l⟩ => ⟨a, x, e, l.same s⟩) id
theorem OkV.put {H : Hp} {d : LotD} {v : V} {l : Addr} {o : HO} (h : OkV A H d v) (hl : ∀ C dx fs, H l ≠ some (.ins C dx fs)) : OkV A (upd H l o) d v := h.imp (fun ⟨a, x, e, i⟩ => ⟨a, x, e, i.put hl⟩) id
theorem Dw {H : Hp} : ∀ {ds : List LotD} {vs : List V}, vs.length = ds.length -> (∀ (j : Nat) d v, ds[j]? = some d -> vs[j]? = some v -> OkV A H d v) -> ∃ l2 : RL, (vs.filter fun v => decide (v ≠ .non)) = aQ l2 /\ l2.map (·.2) = (ds.filter fun d => decide (0 < d.p)) /\ LotAt A H l2
 | [], [], _, _ => ⟨[], rfl, rfl, fun r h => (List.not_mem_nil h).elim⟩
 | [], _ :: _, h, _ => by simp at h
 | _ :: _, [], h, _ => by simp at h
 | d :: ds, v :: vs, hl, h => by
  obtain ⟨l2, e1, e2, e3⟩ := Dw (ds := ds) (vs := vs) (by simpa using hl) fun j d v h1 h2 => h (j + 1) d v h1 h2
  rcases h 0 d v rfl rfl with ⟨hp, x, rfl, hx⟩ | ⟨hp, rfl⟩
  ·refine ⟨(x, d) :: l2, ?_, ?_, fun r hr => ?_⟩
   ·rw [List.filter_cons_of_pos (by simp), e1]; rfl
   ·rw [List.filter_cons_of_pos (by simpa using hp), List.map_cons, e2]
   ·rcases List.mem_cons.mp hr with rfl | hr
    ·exact hx
    ·exact e3 r hr
  ·refine ⟨l2, ?_, ?_, e3⟩
   ·rw [List.filter_cons_of_neg (by simp), e1]
   ·rw [List.filter_cons_of_neg (by simp [hp]), e2]
def kfH (H : Hp) : V -> Key
 | .ref b => match H b with
  | some (.tup [.int n, _]) => Sum.inl n
  | _ => Sum.inl 0
 | _ => Sum.inl 0
def vfH (H : Hp) : V -> V
 | .ref b => match H b with
  | some (.tup [_, v]) => v
  | _ => .non
 | _ => .non
theorem Gw {H : Hp} {b : Addr} {n : Int} {v : V} (h : H b = some (.tup [.int n, v])) : kfH H (.ref b) = Sum.inl n := by
 show (match H b with | some (.tup [.int n, _]) => Sum.inl n | _ => Sum.inl 0) = _
 rw [h]
theorem Gs {H : Hp} {b : Addr} {n : Int} {v : V} (h : H b = some (.tup [.int n, v])) : vfH H (.ref b) = v := by
 show (match H b with | some (.tup [_, v]) => v | _ => .non) = _
 rw [h]
theorem DR {H : Hp} : ∀ {ls : RL} {ys : List V} {pre : RL}, ys.length = ls.length -> (∀ (i : Nat) y, ys[i]? = some y -> ∃ b l, ls[i]? = some l /\ y = .ref b /\ H b = some (.tup [.int l.2.n, .ref l.1])) -> ((pre ++ ls).map fun r => r.2.n).Nodup ->
  ys.foldl (fun a y => putK a (kfH H y) (vfH H y)) (kz (pre.map (·.2)) (aQ pre)) = kz ((pre ++ ls).map (·.2)) (aQ (pre ++ ls))
 | [], [], pre, _, _, _ => by rw [List.append_nil]; rfl
 | [], _ :: _, _, h, _, _ => by simp at h
 | _ :: _, [], _, h, _, _ => by simp at h
 | l :: ls, y :: ys, pre, hl, h, hu => by
  obtain ⟨b, l', e1, rfl, hb⟩ := h 0 y rfl
  cases e1
  rw [List.foldl_cons, Gw hb, Gs hb]
  have hn : l.2.n ∉ (pre.map (·.2)).map LotD.n := by
   rw [List.map_append, List.map_cons] at hu
   intro hm
   rw [List.map_map] at hm
   exact (List.nodup_append.mp hu).2.2 _ hm _ List.mem_cons_self rfl
  rw [Ld (by rw [aJ, List.length_map]) hn]
  have e2 : pre.map (·.2) ++ [l.2] = (pre ++ [l]).map (·.2) := by rw [List.map_append]; rfl
  have e3 : aQ pre ++ [V.ref l.1] = aQ (pre ++ [l]) := by unfold aQ; rw [List.map_append]; rfl
  have e4 : pre ++ l :: ls = (pre ++ [l]) ++ ls := by simp
  rw [e2, e3, e4]
  exact DR (by simpa using hl) (fun i y hy => h (i + 1) y hy) (e4 ▸ hu)
def qF (A : Adr) : Sp := fun vs H Q _ => ∃ (q pk : Addr) (ls : RL) (ps : PL), vs = [.ref q, .ref pk] /\ H q = some (.lst (aQ ls)) /\ LotAt A H ls /\ H pk = some (.lst (qG ps)) /\ Ms H ps /\ RowOk (ls.map (·.2)) /\ PkOk (ls.map (·.2)) (ps.map (·.2)) /\
 ∀ t la lb l1 l2 H', Same H H' -> H' t = some (.tup [.ref la, .ref lb]) -> H' la = some (.lst (aQ l1)) -> H' lb = some (.lst (aQ l2)) -> LotAt A H' l1 -> LotAt A H' l2 -> l1.map (·.2) = (ps.map (·.2)).map (rE (ls.map (·.2))) -> l2.map (·.2) = zY (ps.map (·.2)) (ls.map (·.2)) ->
  H la = Option.none -> H lb = Option.none -> la ≠ lb -> Q (.ref t) H'
theorem qM (T : Txt K mg A D) : FnOk P w K mg base CX0 4 A.row_without D.row_without ["lots", "picks"] (qF A) := by
 refine T.F_row_without.ok sc_row_without (fun vs H Q E h => ?_) (fun cdv A' outer s0 H vs Q E hr h => ?_)
 ·obtain ⟨q, pk, ls, ps, rfl, _⟩ := h; rfl
 ·obtain ⟨q, pk, ls, ps, rfl, hq, hL, hpk, hP, hR, hK, k⟩ := h
  refine ⟨_, (ao (aO (i := 2) sc_row_without.nd rfl (Or.inl rfl) (bB (fQ (K := K) rfl) (by rfl) T.b_dict (by decide +kernel) (aj (bI (cap := [Option.none]) (N' := ["lot"]) rfl (by walk_at "compok") (aZ (K := K) (pv 0)) (fun _ _ _ _ => (aH (i := 0) (show (["lot"] : List Str).Nodup from by decide +kernel) rfl (Or.inl rfl) (Or.inr rfl))) (fun _ _ _ _ => bH) (fun _ _ _ _ => (gK (aj (aB (K := K) (pv 0) rfl) (aj (pv 0) aq))))) aq)))
   (ao (aO (i := 3) sc_row_without.nd rfl (Or.inl rfl) (cY aq))
   (ao (jg PassesOwn.never rfl (aZ (K := K) (pv 1)) (gW (K := K) (n := 2) rfl (aU (aH (i := 4) sc_row_without.nd rfl (Or.inl rfl)) (aU (aH (i := 5) sc_row_without.nd rfl (Or.inl rfl)) fW)))
    (ao (aO (i := 6) sc_row_without.nd rfl (Or.inl rfl) (Em (wV hr) (pv 2) (pv 4) ⟨rfl, rfl, rfl, rfl⟩))
    (ao (fL (PW.pt (Bw (bj (nG) (pv 6) fM (bC _)) (Cu (bj (Aa) (aB (K := K) (pv 6) rfl) (pv 5) (bC _))))) (aA (dj)) dg)
    (ao (aO (i := 7) sc_row_without.nd rfl (Or.inl rfl) (bJ (pv 6) (.cons T.cl_Lot T.me_Lot_taken (uq (K := K) T) (hr.mono (by decide)) (wY T) .nil) aP (aj (pv 5) aq)))
    (ao (aW (gq (K := K) PySem.F.plainAttrs_list PySem.F.slot_list_append PySem.F.type_list_append dN (pv 3) (aj (jy (jb (K := K)) (pv 7) aG (fun _ _ => rfl)) aq)))
    (aA (wA (wV hr) (pv 2) (pv 4) (jy (jb (K := K)) (pv 7) aG (fun _ _ => rfl)) rfl)))))))
   (aA (aR (gK (aj (pv 3) (aj (bI (cap := [Option.none]) (N' := ["lot"]) rfl (by walk_at "compok") (Jm (wW (K := K) PySem.F.plainAttrs_dict PySem.F.slot_dict_values PySem.F.type_dict_values Bp (pv 2))) (fun _ _ _ _ => (aH (i := 0) (show (["lot"] : List Str).Nodup from by decide +kernel) rfl (Or.inl rfl) (Or.inr rfl))) (fun _ _ _ _ => (Dj (bj (Ai) (pv 0) fM (bC _)))) (fun _ _ _ _ => (pv 0))) aq)))))))), ?_⟩
  simp only [start_eq]
  walk_at "nx"
  have hl61 : ls.length <= 61 := by have := hR.l; rwa [List.length_map] at this
  refine ⟨⟨_, SqL.of hq⟩, ?_⟩
  refine CompP.listE (K := K) (fun σ => ∃ a, σ = [a]) (fun i v H' => ∃ b l, ls[i]? = some l /\ v = .ref b /\ H' b = some (.tup [.int l.2.n, .ref l.1])) (SqL.of hq) ⟨_, rfl⟩ (by rw [aJ, sizeLine_eq]; omega) ?_ ?_
  ·rintro Da i x hx σ H5 R ⟨_, rfl⟩ sm hD ⟨acc, hA⟩ kk
   obtain ⟨l, hl', rfl⟩ := bW hx
   obtain ⟨dx, hdx⟩ := (hL l (get_mem hl')).same sm
   walk_at "rdi"
   exact ⟨_, dx, _, hdx, T.cl_Lot, T.n_Lot_number, _, by rfl, by rw [sizeLine_eq]; decide, fun t ht => kk (.ref t) _ _ ⟨_, rfl⟩ (Same.new ht) fun H' hb => ⟨t, l, hl', rfl, hb _ _ (fun e => by rw [e, hA] at ht; cases ht) au⟩⟩
  ·intro Da H1 acc hD s1 hA hlen hF
   rw [aJ] at hlen
   walk_at "rdi"
   obtain ⟨ds, hds⟩ : ∃ ds, ls.map (·.2) = ds := ⟨_, rfl⟩
   obtain ⟨ks, hks⟩ : ∃ ks, ps.map (·.2) = ks := ⟨_, rfl⟩
   rw [hds, hks] at hK
   rw [hds] at hR
   rw [hds, hks] at k
   have hdl : ds.length = ls.length := by rw [<- hds, List.length_map]
   refine ⟨_, SqL.of hA, by omega, kfH H1, vfH H1, fun y hy => ?_, fun pd hpd => ?_⟩
   ·obtain ⟨i, hi, e⟩ := List.getElem_of_mem hy
    obtain ⟨b, l, _, h2, h3⟩ := hF i y (by rw [List.getElem?_eq_getElem hi, e])
    subst h2
    exact ⟨b, rfl, by rw [Gw h3, Gs h3]; exact SqT.of h3⟩
   have ez : rN (kfH H1) (vfH H1) acc = kz ds (aQ ls) := by
    rw [<- hds]
    refine DR (pre := []) hlen hF ?_
    have := hR.u
    rw [<- hds, List.map_map] at this
    exact this
   rw [ez]
   have S2 := s1.trans (Same.new (o := .dK (kz ds (aQ ls))) hpd)
   have hd2 : (upd H1 pd (.dK (kz ds (aQ ls)))) pd = some (.dK (kz ds (aQ ls))) := au
   have hBd := s1.free hpd
   generalize upd H1 pd _ = H2 at S2 hd2
   walk_at "nx"
   refine ⟨by rw [sizeLine_eq]; decide, fun pt hpt => ?_⟩
   have S3 := S2.trans (Same.new (o := .lst []) hpt)
   have ht3 : (upd H2 pt (.lst [])) pt = some (.lst []) := au
   have hd3 := Same.new (o := .lst []) hpt _ _ hd2
   have hBt := S2.free hpt
   have hdt : pd ≠ pt := aN hd2 hpt
   generalize upd H2 pt _ = H3 at S3 ht3 hd3
   rw [ap_seq, ap_for]
   walk_at "rdi"
   refine ⟨⟨_, SqL.of (S3 _ _ hpk)⟩, ?_⟩
   refine ForP.list (K := K) (a := pk) (xs := qG ps) (fun i σ Hx => ∃ (vs : List V) (l1 : RL) (w4 w5 w6 w7 : Option V), σ = [some (.ref q), some (.ref pk), some (.ref pd), some (.ref pt), w4, w5, w6, w7] /\ Same H Hx /\ vs.length = ds.length /\ Hx pd = some (.dK (kz ds vs)) /\ Hx pt = some (.lst (aQ l1)) /\ LotAt A Hx l1 /\
    l1.map (·.2) = (ks.take i).map (rE ds) /\ ∀ (j : Nat) d v, ds[j]? = some d -> vs[j]? = some v -> OkV A Hx (gU (ks.take i) d) v) ⟨aQ ls, [], _, _, _, _, rfl, S3, by rw [aJ, hdl], hd3, ht3, fun r h => (List.not_mem_nil h).elim, rfl, fun j d v h1 h2 => ?_⟩ (fun i σ Hx _ ⟨_, _, _, _, _, _, _, s, _⟩ => s.seq (SqL.of hpk)) ?_ ?_
   ·obtain ⟨l, e1, rfl⟩ := bW h2
    have e2 : ds[j]? = some l.2 := by rw [<- hds, List.getElem?_map, e1]; rfl
    rw [h1] at e2
    cases e2
    refine .inl ⟨?_, l.1, rfl, (hL l (get_mem e1)).same S3⟩
    have := (hR.g l.2 (List.mem_of_getElem? h1)).1.1
    show 0 < l.2.p
    omega
   ·rintro i y σ H4 hy ⟨vs, l1, w4, w5, w6, w7, rfl, S4, hvl, hd4, ht4, hL4, hl4, hO4⟩
    obtain ⟨r, hri, rfl⟩ := Ae hy
    have hki : ks[i]? = some r.2 := by rw [<- hks, List.getElem?_map, hri]; rfl
    obtain ⟨d, hd, hdn, hw1, hw2⟩ := hK.h r.2 (List.mem_of_getElem? hki)
    obtain ⟨j, hj, ej⟩ := List.getElem_of_mem hd
    have hdj : ds[j]? = some d := by rw [List.getElem?_eq_getElem hj, ej]
    have hvj : vs[j]? = some (vs[j]'(by omega)) := by simp
    have hnin : d.n ∉ (ks.take i).map (·.1) := by rw [hdn]; exact Fl hK.u hki
    have hg := hR.g d hd
    have hov := hO4 j d _ hdj hvj
    rw [Fq hnin] at hov
    have hval := BW (v := vs[j]'(by omega)) hR.u hdj hvj
    obtain ⟨x, ex, hx⟩ : ∃ x, vs[j]'(by omega) = .ref x /\ IsLot A H4 x d := by
     rcases hov with ⟨_, x, e, h⟩ | ⟨e, _⟩
     ·exact ⟨x, e, h⟩
     ·omega
    rw [ex] at hval
    obtain ⟨dx, hdx⟩ := id hx
    have hpr := S4 _ _ (hP r (List.mem_of_getElem? hri))
    rw [<- hdn] at hpr
    walk_at "rdi"
    refine ⟨_, SqT.of hpr, rfl, _, _, rfl, _, _, rfl, rfl, ?_⟩
    walk_at "nx"
    refine ⟨.inl ⟨_, .inl hd4⟩, _, DGet.k (k := Sum.inl d.n) hd4, ?_⟩
    rw [hval]
    simp only [Option.getD_some]
    walk_at "nx"
    refine ⟨_, dx, _, hdx, T.cl_Lot, T.n_Lot_pieces, _, by rfl, _, rfl, ?_⟩
    rw [if_neg (by show ¬ (d.p < r.2.2); omega)]
    walk_at "nx"
    refine ⟨_, dx, _, hdx, _, List.mem_cons_self, by rfl, x, d, r.2.2, rfl, hx, CMulU.r (by omega) (by omega), ⟨by omega, ?_⟩, fun t y v' H5 s5 htn ht5 hY f1 f2 => ?_⟩
    ·have : d.p.natAbs < 2 ^ 40 := by omega
     exact Nat.lt_of_lt_of_le this (Nat.pow_le_pow_right (by decide) (by decide))
    walk_at "nx"
    have S5 := S4.trans s5
    have h5t := s5 _ _ ht4
    have h5d := s5 _ _ hd4
    have htt : t ≠ pt := fun e => by rw [e, ht4] at htn; cases htn
    have h6d : (upd H5 pt (.lst (aQ l1 ++ [V.ref y]))) pd = some (.dK (kz ds vs)) := (aF hdt).trans h5d
    have ni1 : ∀ C dx fs, H5 pt ≠ some (.ins C dx fs) := fun _ _ _ => by rw [h5t]; simp
    have ni2 : ∀ C dx fs, (upd H5 pt (.lst (aQ l1 ++ [V.ref y]))) pd ≠ some (.ins C dx fs) := fun _ _ _ => by rw [h6d]; simp
    have er : r.2 = (d.n, r.2.2) := by rw [hdn]
    have etk : ks.take (i + 1) = ks.take i ++ [(d.n, r.2.2)] := by rw [List.take_add_one, hki, <- er]; rfl
    have hl1 : l1.length <= 61 := by
     have e1 := congrArg List.length hl4
     rw [List.length_map, List.length_map, List.length_take] at e1
     have e2 : ks.length <= ds.length := by
      have := tZ (l := ks.map (·.1)) (k := ds.map LotD.n) hK.u fun z hz => by
       obtain ⟨k0, hk0, rfl⟩ := List.mem_map.mp hz
       obtain ⟨d0, hd0, e0, _⟩ := hK.h k0 hk0
       exact List.mem_map.mpr ⟨d0, hd0, e0⟩
      rwa [List.length_map, List.length_map] at this
     have := hR.l
     omega
    refine ⟨.inl ⟨rfl, _, SqL.of h5t⟩, _, SqT.of ht5, _, rfl, _, h5t, by rw [aJ, sizeLine_eq]; omega, _, SqT.of ((aF htt).trans ht5), _, rfl, _, .inl ⟨_, Sum.inl d.n, h6d, rfl, by rw [GX hvl, sizeLine_eq]; have := hR.l; omega, by rw [Ky hR.u hdj hvj]⟩,
     (S5.upd hBt).upd hBd, vs.set j v', by rw [List.length_set, hvl], au, l1 ++ [(y, rE ds (d.n, r.2.2))], ?_, fun z hz => ?_, ?_, fun j' d' v0 h1 h2 => ?_⟩
    ·rw [aF hdt.symm, au]; unfold aQ; rw [List.map_append]; rfl
    ·rcases List.mem_append.mp hz with hz | hz
     ·exact (((hL4 z hz).same s5).put ni1).put ni2
     ·obtain rfl := List.mem_singleton.mp hz
      rw [some_at hR.u hd]
      exact (hY.put ni1).put ni2
    ·rw [List.map_append, hl4, etk, List.map_append]; rfl
    ·rw [etk]
     by_cases ejj : j' = j
     ·subst ejj
      rw [hdj] at h1
      cases h1
      rw [List.getElem?_set_self (by omega)] at h2
      cases h2
      rw [Eo hnin]
      by_cases ew : r.2.2 = d.p
      ·exact .inr ⟨by show d.p - r.2.2 = 0; omega, f1 ew⟩
      ·obtain ⟨z, ez, hz⟩ := f2 ew
       exact .inl ⟨by show 0 < d.p - r.2.2; omega, z, ez, (hz.put ni1).put ni2⟩
     ·rw [List.getElem?_set_ne (fun e => ejj e.symm)] at h2
      have hne : d'.n ≠ d.n := fun e => ejj (by
       have hl1' : j' < (ds.map LotD.n).length := by rw [List.length_map]; exact (List.getElem?_eq_some_iff.mp h1).1
       refine (List.getElem?_inj hl1' hR.u).mp ?_
       rw [List.getElem?_map, List.getElem?_map, h1, hdj]
       show some d'.n = some d.n
       rw [e])
      rw [Cw hne]
      exact (((hO4 j' d' v0 h1 h2).same s5).put ni1).put ni2
   ·rintro σ H4 ⟨vs, l1, w4, w5, w6, w7, rfl, S4, hvl, hd4, ht4, hL4, hl4, hO4⟩
    rw [ut, show ps.length = ks.length by rw [<- hks, List.length_map], List.take_length] at hl4 hO4
    walk_at "rdi"
    refine ⟨.inr (.inr (.inl ⟨rfl, .inl ⟨_, hd4⟩⟩)), _, hd4, fun v hv => ⟨pd, au, _, (aF (aN hd4 hv)).trans hd4, fun o => ?_⟩⟩
    have sv := Same.new (o := jm v pd) hv
    have hdv := sv _ _ hd4
    have ni : ∀ C dx fs, (upd H4 v (jm v pd)) pd ≠ some (.ins C dx fs) := fun _ _ _ => by rw [hdv]; simp
    have S5 : Same H (upd (upd H4 v (jm v pd)) pd (.frz o (.dK (kz ds vs)))) := (S4.trans sv).upd hBd
    have ht5 : (upd (upd H4 v (jm v pd)) pd (.frz o (.dK (kz ds vs)))) pt = some (.lst (aQ l1)) := (aF hdt.symm).trans (sv _ _ ht4)
    have hL5 : LotAt A (upd (upd H4 v (jm v pd)) pd (.frz o (.dK (kz ds vs)))) l1 := fun z hz => ((hL4 z hz).same sv).put ni
    have hf5 : (upd (upd H4 v (jm v pd)) pd (.frz o (.dK (kz ds vs)))) pd = some (.frz o (.dK (kz ds vs))) := au
    have hO5 : ∀ (j : Nat) d v0, (ds.map (gU ks))[j]? = some d -> vs[j]? = some v0 -> OkV A (upd (upd H4 v (jm v pd)) pd (.frz o (.dK (kz ds vs)))) d v0 := fun j d v0 h1 h2 => by
     rw [List.getElem?_map] at h1
     cases e : ds[j]? with
     | none => rw [e] at h1; cases h1
     | some d0 =>
      rw [e] at h1
      cases h1
      exact ((hO4 j d0 v0 e h2).same sv).put ni
    generalize upd (upd H4 v (jm v pd)) pd (.frz o (.dK (kz ds vs))) = H5 at S5 ht5 hL5 hf5 hO5
    refine CompP.vals (fun σ => ∃ a, σ = [a]) (fun v => decide (v ≠ .non)) id hf5 ⟨_, rfl⟩ (by rw [GX hvl, sizeLine_eq]; have := hR.l; omega) ?_ ?_
    ·rintro x hx σ H6 R1 R2 ⟨_, rfl⟩ sm k1 k2
     walk_at "rdi"
     by_cases e : x = .non
     ·rw [if_neg (by simp [e])]
      exact k2 (by simp [e]) _ _ ⟨_, rfl⟩ (Same.refl _)
     ·rw [if_pos (by simp [e])]
      exact k1 (by simp [e]) _ _ ⟨_, rfl⟩ (Same.refl _)
    ·intro Da H6 hDa s6 hA6
     rw [Ay hvl, List.map_id] at hA6
     obtain ⟨l2, e1, e2, e3⟩ := Dw (A := A) (H := H5) (ds := ds.map (gU ks)) (vs := vs) (by rw [List.length_map, hvl]) hO5
     rw [e1] at hA6
     refine ⟨by rw [sizeLine_eq]; decide, fun t ht => ?_⟩
     have st := Same.new (o := .tup [V.ref pt, V.ref Da]) ht
     have S6 := S5.trans (s6.trans st)
     exact k t pt Da l1 l2 _ S6 au ((s6.trans st) _ _ ht5) (st _ _ hA6) (hL5.same (s6.trans st)) (e3.same (s6.trans st)) hl4 e2 hBt (S5.free hDa) (fun e => by rw [<- e, ht5] at hDa; cases hDa)
end
end My
namespace My
open PySem L2 PyProof.Rows
section
variable {P : Program} {w : World} {K : Fg_} {mg : Str -> Option Value} {base : Heap} {A : Adr} {D : Fds}
def shares (a W : Int) : Int -> List Int -> List Int
 | _, [] => []
 | t, w :: r => (a * (t + w) / W - a * t / W) :: shares a W (t + w) r
theorem oE (a W : Int) : ∀ (t : Int) (l : List Int) (x : Int), shares a W t (l ++ [x]) = shares a W t l ++ [a * (t + l.sum + x) / W - a * (t + l.sum) / W]
 | t, [], x => by simp [shares]
 | t, y :: r, x => by
  show _ :: shares a W (t + y) (r ++ [x]) = _ :: shares a W (t + y) r ++ _
  rw [oE a W (t + y) r x, List.sum_cons, Int.add_assoc t y r.sum]
  rfl
theorem jK (a W : Int) : ∀ (t : Int) (l : List Int), (shares a W t l).length = l.length
 | _, [] => rfl
 | t, y :: r => congrArg (· + 1) (jK a W (t + y) r)
theorem jW : ∀ {l : List Int}, (∀ x ∈ l, 0 <= x) -> 0 <= l.sum
 | [], _ => by simp
 | x :: r, h => by
  have h1 := h x List.mem_cons_self
  have h2 := jW (l := r) fun y hy => h y (List.mem_cons_of_mem _ hy)
  rw [List.sum_cons]
  omega
theorem wO {l : List Int} (h : ∀ x ∈ l, 0 <= x) (i : Nat) : 0 <= (l.take i).sum /\ (l.take i).sum <= l.sum := by
 have h1 : 0 <= (l.take i).sum := jW fun x hx => h x (List.mem_of_mem_take hx)
 have h2 : 0 <= (l.drop i).sum := jW fun x hx => h x (List.mem_of_mem_drop hx)
 have h3 : l.sum = (l.take i).sum + (l.drop i).sum := by rw [<- List.sum_append, List.take_append_drop]
 omega
end
end My
namespace My
open PySem L2 PyProof.Rows
section
variable {P : Program} {w : World} {K : Fg_} {mg : Str -> Option Value} {base : Heap} {A : Adr} {D : Fds}
def jN (K : Fg_) : Sp := fun vs H Q _ => ∃ (l : Addr) (ws : List Int), vs = [.ref l] /\ SqL K H l (ws.map V.int) /\ (∀ x ∈ ws, 0 <= x) /\ 0 < ws.sum /\ ws.length <= 1000 /\ ∀ H', Same H H' -> Q (.int ws.sum) H'
theorem jO (T : Txt K mg A D) : FnOk P w K mg base CX0 1 A.sum_of_weights D.sum_of_weights ["weights"] (jN K) := by
 refine T.F_sum_of_weights.ok sc_sum_of_weights (fun vs H Q E h => ?_) (fun cdv A outer s H vs Q E hr h => ?_)
 ·obtain ⟨l, ws, rfl, _⟩ := h; rfl
 ·obtain ⟨l, ws, rfl, hS, h0, hp, hl, k⟩ := h
  refine ⟨_, (ao (fL (kZ (aV (vo (K := K) rfl) (by rfl) T.b_any (by decide +kernel) (aj (bI (cap := [Option.none]) (N' := ["weight"]) rfl (by walk_at "compok") (aZ (K := K) (pv 0)) (fun _ _ _ _ => (aH (i := 0) (show (["weight"] : List Str).Nodup from by decide +kernel) rfl (Or.inl rfl) (Or.inr rfl))) (fun _ _ _ _ => bH) (fun _ _ _ _ => (wu (Aa) (pv 0) aG (bC _)))) aq))) (aA (dj)) dg)
   (ao (aO (i := 1) sc_sum_of_weights.nd rfl (Or.inl rfl) (aV (eZ (K := K) rfl) (by rfl) T.b_sum (by decide +kernel) (aj (pv 0) aq)))
   (ao (fL (bj (rJ) (pv 1) aG (bC _)) (aA (dj)) dg)
   (aA (aR (pv 1)))))), ?_⟩
  walk_at "rd"
  walk_at "rdi"
  refine ⟨⟨_, hS⟩, ?_⟩
  refine CompP.list (xs := ws.map V.int) (fun σ => ∃ v, σ = [v]) (fun _ => true) (fun v => match v with | .int z => .bl (decide (z < 0)) | _ => .non) hS ⟨Option.none, rfl⟩ (by rw [List.length_map, sizeLine_eq]; omega) ?_ ?_
  ·rintro x hx σ H5 R1 R2 ⟨v, rfl⟩ sm k1 k2
   obtain ⟨c, _, rfl⟩ := List.mem_map.mp hx
   walk_at "rd"
   exact k1 rfl _ _ ⟨_, rfl⟩ (Same.refl _)
  ·intro Da H' hD sm e
   rw [jw, List.map_map] at e
   walk_at "rdi"
   refine ⟨ws.map fun z => decide (z < 0), SqL.of (by rw [e, List.map_map]; rfl), ?_⟩
   have hany : (ws.map fun z => decide (z < 0)).any id = false := by
    rw [List.any_eq_false]
    intro b hb
    obtain ⟨z, hz, rfl⟩ := List.mem_map.mp hb
    have := h0 z hz
    simp only [id, decide_eq_true_eq]
    omega
   rw [hany]
   walk_at "rda"
   refine ⟨ws, sm.seq hS, ?_⟩
   rw [if_neg (by omega)]
   exact k H' sm
def Fd (K : Fg_) : Sp := fun vs H Q _ => ∃ (a : Int) (l : Addr) (ws : List Int), vs = [.int a, .ref l] /\ SqL K H l (ws.map V.int) /\ (∀ x ∈ ws, 0 <= x) /\ 0 < ws.sum /\ ws.length <= 1000 /\ a.natAbs < 2 ^ 300 /\ ws.sum.natAbs < 2 ^ 300 /\ jH H Q (shares a ws.sum 0 ws)
theorem El (T : Txt K mg A D) : FnOk P w K mg base CX0 2 A.dealt D.dealt ["amount", "weights"] (Fd K) := by
 refine T.F_dealt.ok sc_dealt (fun vs H Q E h => ?_) (fun cdv A outer s H vs Q E hr h => ?_)
 ·obtain ⟨a, l, ws, rfl, _⟩ := h; rfl
 ·obtain ⟨a, l, ws, rfl, hS, h0, hp, hl, ha, hw, k⟩ := h
  refine ⟨_, (ao (aO (i := 2) sc_dealt.nd rfl (Or.inl rfl) (aK (jO (K := K) T) (hr.mono (by decide)) (by rfl) T.m_sum_of_weights T.k_sum_of_weights (mH T) .nil aP (aj (pv 1) aq)))
   (ao (aO (i := 3) sc_dealt.nd rfl (Or.inl rfl) (cY aq))
   (ao (aO (i := 4) sc_dealt.nd rfl (Or.inl rfl) aG)
   (ao (aO (i := 5) sc_dealt.nd rfl (Or.inl rfl) aG)
   (ao (jg PassesOwn.never rfl (aZ (K := K) (pv 1)) (aH (i := 6) sc_dealt.nd rfl (Or.inl rfl))
    (ao (aO (i := 4) sc_dealt.nd rfl (Or.inl rfl) (aL dJ (pv 4) (pv 6)))
    (ao (aO (i := 7) sc_dealt.nd rfl (Or.inl rfl) (aK (qW (K := K) T) (hr.mono (by decide)) (by rfl) T.m_part_of T.k_part_of (vh T) .nil aP (aj (pv 0) (aj (pv 4) (aj (pv 2) aq)))))
    (ao (aW (gq (K := K) PySem.F.plainAttrs_list PySem.F.slot_list_append PySem.F.type_list_append dN (pv 3) (aj (aL gF (pv 7) (pv 5)) aq)))
    (aA (aO (i := 5) sc_dealt.nd rfl (Or.inl rfl) (pv 7)))))))
   (aA (aR (pv 3)))))))), ?_⟩
  walk_at "rd"
  refine ⟨l, ws, rfl, hS, h0, hp, hl, fun H1 s1 => ?_⟩
  walk_at "rd"
  refine ⟨Nat.zero_le _, fun p hp1 => ⟨⟨_, (s1.trans (Same.new hp1)).seq hS⟩, ?_⟩⟩
  have hpn : H p = Option.none := s1.free hp1
  have hd : uX 0 ws.sum := ⟨hp, mO hw (by decide)⟩
  refine ForP.list (xs := ws.map V.int) (fun i σ H2 => (∃ v6 v7, σ = [some (.int a), some (.ref l), some (.int ws.sum), some (.ref p), some (.int (ws.take i).sum), some (.int (a * (ws.take i).sum / ws.sum)), v6, v7]) /\ Same H H2 /\ H2 p = some (.lst ((shares a ws.sum 0 (ws.take i)).map V.int)))
   ⟨⟨Option.none, Option.none, by simp⟩, s1.upd hpn, by rw [au]; simp [shares]⟩ (fun i σ H2 _ ⟨_, s2, _⟩ => s2.seq hS) ?_ ?_
  ·rintro i y σ H2 hi ⟨⟨v6, v7, rfl⟩, s2, h2⟩
   obtain ⟨x, rfl, hxi⟩ := sH hi
   have hil : i < ws.length := (List.getElem?_eq_some_iff.mp hxi).1
   have ht : ws.take (i + 1) = ws.take i ++ [x] := by rw [List.take_add_one, hxi]; rfl
   have hs1 : (ws.take (i + 1)).sum = (ws.take i).sum + x := by rw [ht, List.sum_append]; simp
   have hb := wO h0 (i + 1)
   rw [hs1] at hb
   walk_at "rd"
   refine ⟨a, (ws.take i).sum + x, ws.sum, rfl, CMulU.big (mO ha (by decide)) (Nat.lt_of_le_of_lt (show _ <= ws.sum.natAbs by omega) (mO hw (by decide))), hd, ?_⟩
   walk_at "rd"
   refine ⟨tyL (SqL.of h2), _, h2, ?_, by rw [hs1], by rw [hs1], s2.upd hpn, ?_⟩
   ·rw [List.length_map, jK, List.length_take]
    exact uG (by omega)
   ·rw [au, ht, oE, List.map_append, Int.zero_add]
    rfl
  ·rintro σ H2 ⟨⟨v6, v7, rfl⟩, s2, h2⟩
   rw [List.length_map, List.take_length] at h2
   walk_at "rd"
   exact k p H2 s2 hpn h2
end
end My
namespace My
open PySem L2 PyProof.Rows
section
variable {P : Program} {w : World} {K : Fg_} {mg : Str -> Option Value} {base : Heap} {A : Adr} {D : Fds}
local macro_rules | `(tactic| walk_at "nx") => `(tactic| ((try dsimp only); rw [ap_seq]; walk_at "rdi"))
def pG : Sp := fun vs H Q _ => ∃ (x q : Addr) (xs : List V), vs = [.ref x, .ref q] /\ H q = some (.lst xs) /\ ∀ l, H l = Option.none -> Q (.ref l) (upd H l (.lst xs))
theorem nu (T : Txt K mg A D) : FnOk P w K mg base CX0 1 A.Way_levelled D.Way_levelled ["self", "lots"] pG := by
 refine T.F_Way_levelled.ok pF (fun vs H Q E h => ?_) (fun cdv A' outer s0 H vs Q E hr h => ?_)
 ·obtain ⟨x, q, xs, rfl, _⟩ := h; rfl
 ·obtain ⟨x, q, xs, rfl, hq, k⟩ := h
  refine ⟨_, (aA (aR (bB (iR (K := K)) (by rfl) T.b_list (by decide +kernel) (aj (pv 1) aq)))), ?_⟩
  walk_at "rda"
  exact ⟨_, .inl (SqL.of hq), fun l hl => k l hl⟩
end
end My
namespace My
open PySem L2 PyProof.Rows
section
variable {P : Program} {w : World} {K : Fg_} {mg : Str -> Option Value} {base : Heap} {A : Adr} {D : Fds}
local macro_rules | `(tactic| walk_at "nx") => `(tactic| ((try dsimp only); rw [ap_seq]; walk_at "rdi"))
def fX : List LotD -> Int -> List (Int × Int)
 | [], _ => []
 | d :: ds, w => if w <= 0 then [] else (d.n, min d.p w) :: fX ds (w - min d.p w)
theorem Gj {ds : List LotD} {w : Int} (h : w <= 0) : fX ds w = [] := by
 cases ds with
 | nil => rfl
 | cons d ds => rw [fX, if_pos h]
def lC (A : Adr) : Sp := fun vs H Q _ => ∃ (q : Addr) (ls : RL) (w : Int), vs = [.ref q, .int w] /\ H q = some (.lst (aQ ls)) /\ LotAt A H ls /\ ls.length <= 100 /\
 ∀ pk ps H', Same H H' -> H pk = Option.none -> H' pk = some (.lst (qG ps)) -> Ms H' ps -> ps.map (·.2) = fX (ls.map (·.2)) w -> Q (.ref pk) H'
theorem mC (T : Txt K mg A D) : FnOk P w K mg base CX0 1 A.picks_in_turn D.picks_in_turn ["lots", "pieces"] (lC A) := by
 refine T.F_picks_in_turn.ok sc_picks_in_turn (fun vs H Q E h => ?_) (fun cdv A' outer s0 H vs Q E hr h => ?_)
 ·obtain ⟨q, ls, w, rfl, _⟩ := h; rfl
 ·obtain ⟨q, ls, w, rfl, hq, hL, hl, k⟩ := h
  refine ⟨_, (ao (aO (i := 2) sc_picks_in_turn.nd rfl (Or.inl rfl) (cY aq))
   (ao (aO (i := 3) sc_picks_in_turn.nd rfl (Or.inl rfl) (pv 1))
   (ao (jg PassesOwn.never rfl (aZ (K := K) (pv 0)) (aH (i := 4) sc_picks_in_turn.nd rfl (Or.inl rfl))
    (ao (fL (bj (Nx) (pv 3) aG (bC _)) (aA (Eh)) dg)
    (ao (aO (i := 5) sc_picks_in_turn.nd rfl (Or.inl rfl) (aV (nR rfl) (by rfl) T.b_min (by decide +kernel) (aj (aB (K := K) (pv 4) rfl) (aj (pv 3) aq))))
    (ao (aW (gq (K := K) PySem.F.plainAttrs_list PySem.F.slot_list_append PySem.F.type_list_append dN (pv 2) (aj (gK (aj (aB (K := K) (pv 4) rfl) (aj (pv 5) aq))) aq)))
    (aA (aO (i := 3) sc_picks_in_turn.nd rfl (Or.inl rfl) (aL gF (pv 3) (pv 5))))))))
   (aA (aR (pv 2)))))), ?_⟩
  simp only [start_eq]
  walk_at "nx"
  refine ⟨by rw [sizeLine_eq]; decide, fun pk hpk => ?_⟩
  have S1 := Same.new (o := .lst []) hpk
  have h1 : (upd H pk (.lst [])) pk = some (.lst []) := au
  generalize upd H pk (.lst []) = H1 at S1 h1
  walk_at "nx"
  rw [ap_seq, ap_for]
  walk_at "rdi"
  refine ⟨⟨_, SqL.of (S1 _ _ hq)⟩, ?_⟩
  refine ForP.list (K := K) (a := q) (xs := aQ ls) (fun i σ Hx => ∃ (ps : PL) (wx : Int) (v4 v5 : Option V), σ = [some (.ref q), some (.int w), some (.ref pk), some (.int wx), v4, v5] /\ Same H Hx /\ Hx pk = some (.lst (qG ps)) /\ Ms Hx ps /\ ps.length = i /\ ps.map (·.2) ++ fX ((ls.map (·.2)).drop i) wx = fX (ls.map (·.2)) w)
   ⟨[], w, _, _, rfl, S1, h1, fun r h => (List.not_mem_nil h).elim, rfl, rfl⟩ (fun i σ Hx _ ⟨_, _, _, _, _, s, _⟩ => SqL.of (s _ _ hq)) ?_ ?_
  ·rintro i y σ Hx hy ⟨ps, wx, v4, v5, rfl, Sx, hxp, hP, hpl, he⟩
   obtain ⟨l, hl', rfl⟩ := bW hy
   obtain ⟨dy, hdy⟩ := (hL l (get_mem hl')).same Sx
   have hil : i < ls.length := (List.getElem?_eq_some_iff.mp hl').1
   have hd : (ls.map (·.2)).drop i = l.2 :: (ls.map (·.2)).drop (i + 1) := by
    rw [List.drop_eq_getElem_cons (by simpa using hil)]
    congr 1
    rw [List.getElem_map, (List.getElem?_eq_some_iff.mp hl').2]
   walk_at "rdi"
   walk_at "nx"
   by_cases hw : wx <= 0
   ·rw [if_pos hw]
    refine k pk ps Hx Sx hpk hxp hP ?_
    rw [Gj hw, List.append_nil] at he
    exact he
   ·rw [if_neg hw]
    walk_at "nx"
    refine ⟨_, dy, _, hdy, T.cl_Lot, T.n_Lot_pieces, _, by rfl, ?_⟩
    refine ⟨_, _, rfl, ?_⟩
    walk_at "nx"
    refine ⟨.inl ⟨rfl, _, SqL.of hxp⟩, _, dy, _, hdy, T.cl_Lot, T.n_Lot_number, _, by rfl, by rw [sizeLine_eq]; decide, fun t ht => ⟨_, Same.new ht _ _ hxp, by rw [ut, sizeLine_eq]; omega, ?_⟩⟩
    have em : (if wx < l.2.p then wx else l.2.p) = min l.2.p wx := by split <;> omega
    rw [em]
    have hnew := Same.new (o := .tup [V.int l.2.n, V.int (min l.2.p wx)]) ht
    have hpt : pk ≠ t := aN hxp ht
    refine ⟨(Sx.trans hnew).upd hpk, ps ++ [(t, l.2.n, min l.2.p wx)], ?_, fun r hr => ?_, by rw [List.length_append, hpl]; rfl, ?_⟩
    ·rw [au]; unfold qG; rw [List.map_append]; rfl
    ·rcases List.mem_append.mp hr with hr | hr
     ·have e1 := hP r hr
      exact (aF fun e => by rw [e, hxp] at e1; cases e1).trans (hnew _ _ e1)
     ·obtain rfl := List.mem_singleton.mp hr
      exact (aF hpt.symm).trans au
    ·rw [hd, fX, if_neg hw] at he
     rw [List.map_append, List.append_assoc, <- he]
     rfl
  ·rintro σ Hx ⟨ps, wx, v4, v5, rfl, Sx, hxp, hP, hpl, he⟩
   walk_at "rda"
   refine k pk ps Hx Sx hpk hxp hP ?_
   rw [List.drop_of_length_le (by rw [List.length_map, aJ]; exact Nat.le_refl _), fX, List.append_nil] at he
   exact he
def zV (A : Adr) : Sp := fun vs H Q _ => ∃ (x q : Addr) (ls : RL) (w : Int), vs = [.ref x, .ref q, .int w] /\ H q = some (.lst (aQ ls)) /\ LotAt A H ls /\ ls.length <= 100 /\ (∀ l ∈ ls, ∀ m ∈ ls, CMulU l.2.c m.2.p) /\
 ∀ pk ps H', Same H H' -> H pk = Option.none -> H' pk = some (.lst (qG ps)) -> Ms H' ps -> ps.map (·.2) = fX (ls.map (·.2)) w -> Q (.ref pk) H'
theorem oO (T : Txt K mg A D) : FnOk P w K mg base CX0 2 A.Eldest_picks D.Eldest_picks ["self", "lots", "pieces"] (zV A) := by
 refine T.F_Eldest_picks.ok pQ (fun vs H Q E h => ?_) (fun cdv A' outer s0 H vs Q E hr h => ?_)
 ·obtain ⟨x, q, ls, w, rfl, _⟩ := h; rfl
 ·obtain ⟨x, q, ls, w, rfl, hq, hL, hl, hM, k⟩ := h
  refine ⟨_, (aA (aR (aK (mC (K := K) T) (hr.mono (by decide)) (by rfl) T.m_picks_in_turn T.k_picks_in_turn (oH T) .nil aP (aj (pv 1) (aj (pv 2) aq))))), ?_⟩
  walk_at "rda"
  exact ⟨q, ls, w, rfl, hq, hL, hl, fun pk ps H' s h1 h2 h3 h4 => k pk ps H' s h1 h2 h3 h4⟩
end
end My
namespace My
open PySem L2 PyProof.Rows
section
variable {P : Program} {w : World} {K : Fg_} {mg : Str -> Option Value} {base : Heap} {A : Adr} {D : Fds}
def lN (A : Adr) : Sp := fun vs H Q _ => ∃ (x : Addr) (d : LotD) (p c : Int), vs = [.ref x, .int p, .int c] /\ IsLot A H x d /\ ∀ y H', Same H H' -> H y = Option.none -> IsLot A H' y ⟨d.n, d.s, d.p + p, d.c + c⟩ -> Q (.ref y) H'
theorem lR (T : Txt K mg A D) : FnOk P w K mg base CX0 3 A.Lot_with_more D.Lot_with_more ["self", "pieces", "cost"] (lN A) := by
 refine T.F_Lot_with_more.ok lE (fun vs H Q E h => ?_) (fun cdv A' outer s H vs Q E hr h => ?_)
 ·obtain ⟨x, d, p, c, rfl, _⟩ := h; rfl
 ·obtain ⟨x, ⟨n, s, p, c⟩, p', c', rfl, ⟨dx, hx⟩, k⟩ := h
  refine ⟨_, (aA (aR (fO T.mk_Lot (cZ (K := K) T) (hr.mono (by decide)) (by rfl) T.m_Lot (dI T) .nil aP (aj (aB (K := K) (pv 0) rfl) (aj (aB (K := K) (pv 0) rfl) (aj (aL dJ (aB (K := K) (pv 0) rfl) (pv 1)) (aj (aL dJ (aB (K := K) (pv 0) rfl) (pv 2)) aq))))))), ?_⟩
  walk_at "rda"
  refine ⟨_, dx, _, hx, T.cl_Lot, T.n_Lot_number, _, by rfl, ?_⟩
  refine ⟨_, dx, _, hx, T.cl_Lot, T.n_Lot_since, _, by rfl, ?_⟩
  refine ⟨_, dx, _, hx, T.cl_Lot, T.n_Lot_pieces, _, by rfl, ?_⟩
  refine ⟨_, rfl, _, dx, _, hx, T.cl_Lot, T.n_Lot_cost, _, by rfl, _, rfl, fun y dy hy hdy _ => ?_⟩
  exact jB ⟨n, s, p + p', c + c'⟩ hy hdy fun H' sm hL => k y H' sm hy hL
end
end My
namespace My
open PySem L2 PyProof.Rows
section
variable {P : Program} {w : World} {K : Fg_} {mg : Str -> Option Value} {base : Heap} {A : Adr} {D : Fds}
def toI : V -> Int
 | .int i => i
 | _ => 0
local macro_rules | `(tactic| walk_at "nx") => `(tactic| ((try dsimp only); rw [ap_seq]; walk_at "rdi"))
def pW (A : Adr) : Sp := fun vs H Q _ => ∃ (x : Addr) (d : LotD), vs = [.ref x] /\ IsLot A H x d /\ ∀ t, H t = Option.none -> Q (.ref t) (upd H t (.tup [.int d.s, .int d.n]))
theorem nT (T : Txt K mg A D) : FnOk P w K mg base CX0 1 A.place_in_row D.place_in_row ["lot"] (pW A) := by
 refine T.F_place_in_row.ok nY (fun vs H Q E h => ?_) (fun cdv A' outer s0 H vs Q E hr h => ?_)
 ·obtain ⟨x, d, rfl, _⟩ := h; rfl
 ·obtain ⟨x, d, rfl, ⟨dx, hx⟩, k⟩ := h
  refine ⟨_, (aA (aR (gK (aj (aB (K := K) (pv 0) rfl) (aj (aB (K := K) (pv 0) rfl) aq))))), ?_⟩
  walk_at "rda"
  refine ⟨_, dx, _, hx, T.cl_Lot, T.n_Lot_since, _, by rfl, _, dx, _, hx, T.cl_Lot, T.n_Lot_number, _, by rfl, ?_⟩
  exact ⟨by rw [sizeLine_eq]; decide, fun t ht => k t ht⟩
theorem Ah {ls : RL} {f : Addr × LotD -> Bool} {acc : List V} (hl : acc.length = ls.length) (h : ∀ (i : Nat) v, acc[i]? = some v -> ∃ l, ls[i]? = some l /\ v = .bl (f l)) : acc = (ls.map f).map V.bl := by
 refine List.ext_getElem (by simp [hl]) fun i h1 h2 => ?_
 obtain ⟨l, e1, e2⟩ := h i acc[i] (by simp)
 rw [e2]
 have h3 : i < ls.length := by omega
 have : ls[i] = l := by
  rw [List.getElem?_eq_getElem h3] at e1
  exact Option.some.inj e1
 simp [this]
def Aj (d e : LotD) : LotD := if e.n = d.n then ⟨e.n, e.s, e.p + d.p, e.c + d.c⟩ else e
def kfL (H : Hp) : V -> List Int
 | .ref b => match H b with
  | some (.ins _ _ fs) => [toI ((fs.lookup ("since" : Str)).getD .non), toI ((fs.lookup ("number" : Str)).getD .non)]
  | _ => []
 | _ => []
theorem nP {H : Hp} {b : Addr} {d : LotD} (h : IsLot A H b d) : kfL H (.ref b) = [d.s, d.n] := by
 obtain ⟨dx, e⟩ := h
 unfold kfL
 dsimp only
 rw [e]
 rfl
def wF (A : Adr) : Sp := fun vs H Q _ => ∃ (q x : Addr) (ls : RL) (d : LotD), vs = [.ref q, .ref x] /\ H q = some (.lst (aQ ls)) /\ LotAt A H ls /\ IsLot A H x d /\ ls.length <= 60 /\ (ls.map (·.2.n)).Nodup /\
 ∀ l ls' H', Same H H' -> H l = Option.none -> H' l = some (.lst (aQ ls')) -> LotAt A H' ls' ->
  (d.n ∈ ls.map (·.2.n) -> ls'.map (·.2) = (ls.map (·.2)).map (Aj d)) -> (d.n ∉ ls.map (·.2.n) -> (ls'.map (·.2)).Perm (ls.map (·.2) ++ [d]) /\ (ls'.map (·.2)).Pairwise fun a b => ig [a.s, a.n] [b.s, b.n] false = true) -> Q (.ref l) H'
theorem wj (T : Txt K mg A D) : FnOk P w K mg base CX0 4 A.row_with D.row_with ["lots", "lot"] (wF A) := by
 refine T.F_row_with.ok xj (fun vs H Q E h => ?_) (fun cdv A' outer s0 H vs Q E hr h => ?_)
 ·obtain ⟨q, x, ls, d, rfl, _⟩ := h; rfl
 ·obtain ⟨q, x, ls, d, rfl, hq, hL, ⟨dx, hx⟩, hl, hu, k⟩ := h
  refine ⟨_, (ao (fL (kZ (aV (vo (K := K) rfl) (by rfl) T.b_any (by decide +kernel) (aj (bI (cap := [Option.none, some 1]) (N' := ["one", "lot"]) rfl (by walk_at "compok") (aZ (K := K) (pv 0)) (fun _ _ _ _ => (aH (i := 0) (show (["one", "lot"] : List Str).Nodup from by decide +kernel) rfl (Or.inl rfl) (Or.inr rfl))) (fun _ _ _ _ => bH) (fun _ _ _ _ => (wu (rJ) (aB (K := K) (pv 0) rfl) (aB (K := K) (pv 1) rfl) (bC _)))) aq))) (aA (aR (bI (cap := [Option.none, some 1]) (N' := ["one", "lot"]) rfl (by walk_at "compok") (aZ (K := K) (pv 0)) (fun _ _ _ _ => (aH (i := 0) (show (["one", "lot"] : List Str).Nodup from by decide +kernel) rfl (Or.inl rfl) (Or.inr rfl))) (fun _ _ _ _ => bH) (fun _ _ _ _ => (jD (bj (rJ) (aB (K := K) (pv 0) rfl) (aB (K := K) (pv 1) rfl) (bC _)) (bJ (pv 0) (.cons T.cl_Lot T.me_Lot_with_more (lR (K := K) T) (hr.mono (by decide)) (pI T) .nil) aP (aj (aB (K := K) (pv 1) rfl) (aj (aB (K := K) (pv 1) rfl) aq))) (pv 0)))))) dg)
   (aA (aR (nU (K := K) (by rfl) (qZ (nT (K := K) T) (hr.mono (by decide)) (qw T) (by rfl) T.b_sorted (by decide +kernel) (by rfl) T.m_place_in_row (aj (aL ul (pv 0) (cY (aj (pv 1) aq))) aq)))))), ?_⟩
  simp only [start_eq]
  walk_at "nx"
  have hx0 : IsLot A H x d := ⟨dx, hx⟩
  refine ⟨⟨_, SqL.of hq⟩, ?_⟩
  refine CompP.listE (K := K) (fun σ => ∃ a, σ = [a, some (.ref x)]) (fun i v _ => ∃ l, ls[i]? = some l /\ v = .bl (decide (l.2.n = d.n))) (SqL.of hq) ⟨_, rfl⟩ (by rw [aJ, sizeLine_eq]; omega) ?_ ?_
  ·rintro Da i y hy σ H5 R ⟨_, rfl⟩ sm hD _ kk
   obtain ⟨l, hl', rfl⟩ := bW hy
   obtain ⟨dy, hdy⟩ := (hL l (get_mem hl')).same sm
   walk_at "rdi"
   refine ⟨_, dy, _, hdy, T.cl_Lot, T.n_Lot_number, _, by rfl, _, dx, _, sm _ _ hx, T.cl_Lot, T.n_Lot_number, _, by rfl, ?_⟩
   exact ⟨rfl, kk _ _ H5 ⟨_, rfl⟩ (Same.refl _) fun H' _ => ⟨l, hl', by simp⟩⟩
  ·intro Da H1 acc hD sm hA hlen hF
   have hacc : acc = (ls.map fun l => decide (l.2.n = d.n)).map V.bl := Ah (by rw [hlen, aJ]) hF
   rw [hacc] at hA
   walk_at "rdi"
   refine ⟨_, SqL.of hA, ?_⟩
   have hL1 := hL.same sm
   have hx1 := sm _ _ hx
   have hq1 := sm _ _ hq
   by_cases hm : d.n ∈ ls.map (·.2.n)
   ·obtain ⟨l0, hl0, e0⟩ := List.mem_map.mp hm
    rw [if_pos (List.any_eq_true.mpr ⟨true, List.mem_map.mpr ⟨l0, hl0, decide_eq_true e0⟩, rfl⟩)]
    refine ⟨⟨_, SqL.of hq1⟩, ?_⟩
    refine CompP.listE (K := K) (fun σ => ∃ a, σ = [a, some (.ref x)]) (fun i v H' => ∃ b l, ls[i]? = some l /\ v = .ref b /\ IsLot A H' b (Aj d l.2)) (SqL.of hq1) ⟨_, rfl⟩ (by rw [aJ, sizeLine_eq]; omega) ?_ ?_
    ·rintro Db i y hy σ H5 R ⟨_, rfl⟩ sm5 hDb ⟨Ml, hA5⟩ kk
     obtain ⟨l, hl', rfl⟩ := bW hy
     obtain ⟨dy, hdy⟩ := (hL1 l (get_mem hl')).same sm5
     have hx5 := sm5 _ _ hx1
     walk_at "rdi"
     refine ⟨_, dy, _, hdy, T.cl_Lot, T.n_Lot_number, _, by rfl, _, dx, _, hx5, T.cl_Lot, T.n_Lot_number, _, by rfl, rfl, ?_⟩
     by_cases e : l.2.n = d.n
     ·rw [if_pos (by simp [e])]
      refine ⟨_, dy, _, hdy, _, List.mem_cons_self, by rfl, _, dx, _, hx5, T.cl_Lot, T.n_Lot_pieces, _, by rfl, _, dx, _, hx5, T.cl_Lot, T.n_Lot_cost, _, by rfl, l.1, l.2, d.p, d.c, rfl, ⟨dy, hdy⟩, fun z H6 s6 hz hZ => kk (.ref z) _ H6 ⟨_, rfl⟩ s6 fun H' hb => ⟨z, l, hl', rfl, ?_⟩⟩
      unfold Aj
      rw [if_pos e]
      exact hZ.but (fun e => by rw [e, hA5] at hz; cases hz) hb
     ·rw [if_neg (by simp [e])]
      refine kk (.ref l.1) _ H5 ⟨_, rfl⟩ (Same.refl _) fun H' hb => ⟨l.1, l, hl', rfl, ?_⟩
      unfold Aj
      rw [if_neg e]
      exact IsLot.but ⟨dy, hdy⟩ (fun e => by rw [e, hA5] at hdy; cases hdy) hb
    ·intro Db H4 acc4 hDb sm4 hA4 hlen4 hF4
     rw [aJ] at hlen4
     obtain ⟨ls', q1, q2, q3⟩ := Ib (fun _ H r => IsLot A H r.1 r.2) (H := H4) (acc := acc4) (ds := (ls.map (·.2)).map (Aj d)) (by rw [hlen4, List.length_map, List.length_map]) fun i v hv => by
      obtain ⟨b, l, h1, h2, h3⟩ := hF4 i v hv
      exact ⟨b, _, by rw [List.getElem?_map, List.getElem?_map, h1]; rfl, h2, h3⟩
     exact k Db ls' H4 (sm.trans sm4) (sm.free hDb) (q1 ▸ hA4) q3 (fun _ => q2) fun h => (h hm).elim
   ·rw [if_neg (fun h => hm ?_)]
    ·obtain ⟨os, hos⟩ : ∃ os : RL, os = ls ++ [(x, d)] := ⟨_, rfl⟩
     have hosr : aQ ls ++ [V.ref x] = aQ os := by rw [hos]; unfold aQ; rw [List.map_append]; rfl
     refine ⟨by rw [sizeLine_eq]; decide, fun p hp => ⟨_, Same.new hp _ _ hq1, _, au, by rw [aJ, sizeLine_eq]; show ls.length + 1 <= _; omega, fun p1 hp1 => ?_⟩⟩
     rw [hosr]
     have s2 := sm.trans ((Same.new (o := .lst [V.ref x]) hp).trans (Same.new (o := .lst (aQ os)) hp1))
     have h2 : (upd (upd H1 p (.lst [V.ref x])) p1 (.lst (aQ os))) p1 = some (.lst (aQ os)) := au
     generalize upd (upd H1 p (.lst [V.ref x])) p1 (.lst (aQ os)) = H2 at s2 h2
     have hO : LotAt A H2 os := fun o ho => by
      rw [hos] at ho
      rcases List.mem_append.mp ho with ho | ho
      ·exact (hL o ho).same s2
      ·obtain rfl := List.mem_singleton.mp ho
       exact hx0.same s2
     have hol : os.length <= 61 := by rw [hos, List.length_append, List.length_singleton]; omega
     have hou : os.Pairwise fun a b => a.2.n ≠ b.2.n := by
      have hnd : (os.map fun r => r.2.n).Nodup := by
       rw [hos, List.map_append]
       refine List.nodup_append.mpr ⟨hu, by simp, fun y hy z hz => ?_⟩
       obtain rfl := List.mem_singleton.mp hz
       exact fun e => hm ((show y = d.n from e) ▸ hy)
      exact List.pairwise_map.mp hnd
     refine ⟨_, SqL.of h2, by rw [aJ]; omega, kfL H2, fun y hy => ?_, fun p2 zs H3 s3 hn hz hperm hord => ?_⟩
     ·obtain ⟨o, ho, rfl⟩ := List.mem_map.mp hy
      rw [nP (hO o ho)]
      refine ⟨by simp, fun H5 s5 R hR => ⟨o.1, o.2, rfl, (hO o ho).same s5, fun t ht => hR t _ (Same.new ht) ?_⟩⟩
      rw [nP (hO o ho)]
      exact au
     ·obtain ⟨os', rfl, hpm⟩ := uY (f := fun r => V.ref r.1) hperm rfl
      have hor := hord 2 (fun y hy => by
       obtain ⟨r, hr, rfl⟩ := List.mem_map.mp hy
       rw [nP (hO r hr)]
       rfl) (by
       refine List.pairwise_map.mpr (List.pairwise_map.mpr (List.Pairwise.imp_of_mem (fun {a b} ha hb hne z => hne ?_) hou))
       rw [nP (hO a ha), nP (hO b hb)] at z
       exact (List.cons.inj (List.cons.inj z).2).1)
      refine k p2 os' H3 (s2.trans s3) (s2.free hn) hz (fun r hr => (hO r (hpm.mem_iff.mp hr)).same s3) (fun h => (hm h).elim) fun _ => ⟨?_, ?_⟩
      ·have := hpm.map (·.2)
       rw [hos, List.map_append] at this
       exact this
      ·refine List.pairwise_map.mpr (List.Pairwise.imp_of_mem (fun {a b} ha hb h => ?_) (List.pairwise_map.mp hor))
       rw [nP (hO a (hpm.mem_iff.mp ha)), nP (hO b (hpm.mem_iff.mp hb))] at h
       exact h
    ·obtain ⟨b, hb, eb⟩ := List.any_eq_true.mp h
     obtain ⟨l0, hl0, e0⟩ := List.mem_map.mp hb
     have eb : b = true := eb
     rw [eb] at e0
     exact List.mem_map.mpr ⟨l0, hl0, of_decide_eq_true e0⟩
end
end My
namespace My
open PySem L2 PyProof.Rows
section
variable {P : Program} {w : World} {K : Fg_} {mg : Str -> Option Value} {base : Heap} {A : Adr} {D : Fds}
local macro_rules | `(tactic| walk_at "nx") => `(tactic| ((try dsimp only); rw [ap_seq]; walk_at "rdi"))
theorem iT {ls : RL} {f : Addr × LotD -> Int} {acc : List V} (hl : acc.length = ls.length) (h : ∀ (i : Nat) v, acc[i]? = some v -> ∃ l, ls[i]? = some l /\ v = .int (f l)) : acc = (ls.map f).map V.int := by
 refine List.ext_getElem (by simp [hl]) fun i h1 h2 => ?_
 obtain ⟨l, e1, e2⟩ := h i acc[i] (by simp)
 rw [e2]
 have h3 : i < ls.length := by omega
 have : ls[i] = l := by
  rw [List.getElem?_eq_getElem h3] at e1
  exact Option.some.inj e1
 simp [this]
def zN (A : Adr) : Sp := fun vs H Q _ => ∃ (q : Addr) (ls : RL), vs = [.ref q] /\ H q = some (.lst (aQ ls)) /\ LotAt A H ls /\ ls.length <= 100 /\ ∀ H', Same H H' -> Q (.int ((ls.map (·.2)).map LotD.c).sum) H'
theorem zu (T : Txt K mg A D) : FnOk P w K mg base CX0 1 A.cost_in D.cost_in ["lots"] (zN A) := by
 refine T.F_cost_in.ok zP (fun vs H Q E h => ?_) (fun cdv A' outer s0 H vs Q E hr h => ?_)
 ·obtain ⟨q, ls, rfl, _⟩ := h; rfl
 ·obtain ⟨q, ls, rfl, hq, hL, hl, k⟩ := h
  refine ⟨_, (aA (aR (aV (eZ (K := K) rfl) (by rfl) T.b_sum (by decide +kernel) (aj (bI (cap := [Option.none]) (N' := ["lot"]) rfl (by walk_at "compok") (aZ (K := K) (pv 0)) (fun _ _ _ _ => (aH (i := 0) (show (["lot"] : List Str).Nodup from by decide +kernel) rfl (Or.inl rfl) (Or.inr rfl))) (fun _ _ _ _ => bH) (fun _ _ _ _ => (aB (K := K) (pv 0) rfl))) aq)))), ?_⟩
  walk_at "rda"
  refine ⟨⟨_, SqL.of hq⟩, ?_⟩
  refine CompP.listE (K := K) (fun σ => ∃ a, σ = [a]) (fun i v _ => ∃ l, ls[i]? = some l /\ v = .int l.2.c) (SqL.of hq) ⟨_, rfl⟩ (by rw [aJ, sizeLine_eq]; omega) ?_ ?_
  ·rintro Da i x hx σ H5 R ⟨_, rfl⟩ sm hD _ kk
   obtain ⟨l, hl', rfl⟩ := bW hx
   obtain ⟨dx, hdx⟩ := (hL l (get_mem hl')).same sm
   walk_at "rdi"
   exact ⟨_, dx, _, hdx, T.cl_Lot, T.n_Lot_cost, _, by rfl, kk _ _ H5 ⟨_, rfl⟩ (Same.refl _) fun H' _ => ⟨l, hl', rfl⟩⟩
  ·intro Da H' acc hD sm hA hlen hF
   rw [iT (f := fun l => l.2.c) (by rw [hlen, aJ]) hF] at hA
   have ec : (ls.map (·.2)).map LotD.c = ls.map (fun l => l.2.c) := by rw [List.map_map]; rfl
   rw [ec] at k
   walk_at "rda"
   exact ⟨_, SqL.of hA, k H' sm⟩
def uc (A : Adr) : Sp := fun vs H Q _ => ∃ (q : Addr) (ls : RL), vs = [.ref q] /\ H q = some (.lst (aQ ls)) /\ LotAt A H ls /\ ls.length <= 100 /\ ∀ H', Same H H' -> Q (.int ((ls.map (·.2)).map LotD.p).sum) H'
theorem lq (T : Txt K mg A D) : FnOk P w K mg base CX0 1 A.pieces_in D.pieces_in ["lots"] (uc A) := by
 refine T.F_pieces_in.ok vI (fun vs H Q E h => ?_) (fun cdv A' outer s0 H vs Q E hr h => ?_)
 ·obtain ⟨q, ls, rfl, _⟩ := h; rfl
 ·obtain ⟨q, ls, rfl, hq, hL, hl, k⟩ := h
  refine ⟨_, (aA (aR (aV (eZ (K := K) rfl) (by rfl) T.b_sum (by decide +kernel) (aj (bI (cap := [Option.none]) (N' := ["lot"]) rfl (by walk_at "compok") (aZ (K := K) (pv 0)) (fun _ _ _ _ => (aH (i := 0) (show (["lot"] : List Str).Nodup from by decide +kernel) rfl (Or.inl rfl) (Or.inr rfl))) (fun _ _ _ _ => bH) (fun _ _ _ _ => (aB (K := K) (pv 0) rfl))) aq)))), ?_⟩
  walk_at "rda"
  refine ⟨⟨_, SqL.of hq⟩, ?_⟩
  refine CompP.listE (K := K) (fun σ => ∃ a, σ = [a]) (fun i v _ => ∃ l, ls[i]? = some l /\ v = .int l.2.p) (SqL.of hq) ⟨_, rfl⟩ (by rw [aJ, sizeLine_eq]; omega) ?_ ?_
  ·rintro Da i x hx σ H5 R ⟨_, rfl⟩ sm hD _ kk
   obtain ⟨l, hl', rfl⟩ := bW hx
   obtain ⟨dx, hdx⟩ := (hL l (get_mem hl')).same sm
   walk_at "rdi"
   exact ⟨_, dx, _, hdx, T.cl_Lot, T.n_Lot_pieces, _, by rfl, kk _ _ H5 ⟨_, rfl⟩ (Same.refl _) fun H' _ => ⟨l, hl', rfl⟩⟩
  ·intro Da H' acc hD sm hA hlen hF
   rw [iT (f := fun l => l.2.p) (by rw [hlen, aJ]) hF] at hA
   have ec : (ls.map (·.2)).map LotD.p = ls.map (fun l => l.2.p) := by rw [List.map_map]; rfl
   rw [ec] at k
   walk_at "rda"
   exact ⟨_, SqL.of hA, k H' sm⟩
end
end My
namespace My
open PySem L2 PyProof.Rows
section
variable {P : Program} {w : World} {K : Fg_} {mg : Str -> Option Value} {base : Heap} {A : Adr} {D : Fds}
structure Held (kvs : List (Key × V)) : Prop where
 k : ∀ kv ∈ kvs, ∃ (z : Str) (i : Int), kv = (Sum.inr z, .int i) /\ 1 <= i
 u : (kvs.map (·.1)).Nodup
def iz (kvs : List (Key × V)) (z : Str) : Int := match iW kvs (Sum.inr z) with
 | some (.int i) => i
 | _ => 0
theorem xK : ∀ {kvs : List (Key × V)} {k : Key} {v : V}, iW kvs k = some v -> (k, v) ∈ kvs
 | [], _, _, h => by cases h
 | p :: kvs, k, v, h => by
  by_cases e : p.1 = k
  ·rw [gM e] at h
   cases h
   rw [<- e]
   exact List.mem_cons_self
  ·rw [iI e] at h
   exact List.mem_cons_of_mem _ (xK h)
theorem Held.val {kvs : List (Key × V)} (h : Held kvs) (z : Str) : iW kvs (Sum.inr z) = if 0 < iz kvs z then some (.int (iz kvs z)) else Option.none := by
 unfold iz
 cases e : iW kvs (Sum.inr z) with
 | none => rfl
 | some v =>
  obtain ⟨y, i, ey, hi⟩ := h.k _ (xK e)
  cases ey
  rw [if_pos (show (0 : Int) < i by omega)]
theorem Held.nn {kvs : List (Key × V)} (h : Held kvs) (z : Str) : 0 <= iz kvs z := by
 have := h.val z
 by_cases e : 0 < iz kvs z
 ·omega
 ·rw [if_neg e] at this
  unfold iz
  rw [this]
  exact Int.le_refl _
theorem Ft : Held [] := ⟨fun kv h => (List.not_mem_nil h).elim, .nil⟩
theorem uP {kvs : List (Key × V)} (h : Held kvs) (z : Str) : (iW kvs (Sum.inr z)).getD (.int 0) = .int (iz kvs z) := by
 rw [h.val z]
 have := h.nn z
 split
 ·rfl
 ·show V.int 0 = V.int (iz kvs z)
  congr 1
  omega
def posK (kv : Key × V) : Bool := match kv.2 with
 | .int i => decide (0 < i)
 | _ => false
theorem Cz {kvs : List (Key × V)} {k : Key} {v : V} (hu : (kvs.map (·.1)).Nodup) : ((putK kvs k v).map (·.1)).Nodup := by
 cases e : iW kvs k with
 | none => exact Ie v hu e
 | some w =>
  unfold putK
  rw [if_pos (by rw [fV, e]; rfl), List.map_map]
  have : ((fun x : Key × V => x.1) ∘ fun kv : Key × V => if kv.1 = k then (kv.1, v) else kv) = fun x => x.1 := by
   funext kv
   show (if kv.1 = k then (kv.1, v) else kv).1 = kv.1
   split <;> rfl
  rw [this]
  exact hu
theorem Cp {kvs : List (Key × V)} {k : Key} {v : V} {p : Key × V} (h : p ∈ putK kvs k v) : p = (k, v) \/ p ∈ kvs := by
 unfold putK at h
 split at h
 ·obtain ⟨q, hq, rfl⟩ := List.mem_map.mp h
  split
  ·rename_i e
   exact .inl (by rw [e])
  ·exact .inr hq
 ·rcases List.mem_append.mp h with h | h
  ·exact .inr h
  ·exact .inl (List.mem_singleton.mp h)
theorem Ia (kvs : List (Key × V)) (k : Key) (v : V) : (putK kvs k v).length <= kvs.length + 1 := by
 unfold putK
 split
 ·rw [List.length_map]; omega
 ·rw [List.length_append]; exact Nat.le_refl _
def zJ (kvs : List (Key × V)) (z : Str) (n : Int) : List (Key × V) := (putK kvs (Sum.inr z) (.int n)).filter posK
theorem Df {kvs : List (Key × V)} (h : Held kvs) (z : Str) (n : Int) : Held (zJ kvs z n) := by
 refine ⟨fun kv hkv => ?_, List.Nodup.sublist (List.filter_sublist.map _) (Cz h.u)⟩
 obtain ⟨h1, h2⟩ := List.mem_filter.mp hkv
 rcases Cp h1 with rfl | h1
 ·have h2 : decide (0 < n) = true := h2
  exact ⟨z, n, rfl, by have := of_decide_eq_true h2; omega⟩
 ·exact h.k kv h1
theorem yC : ∀ (ps : List (Key × V)) (acc : List (Key × V)), ((acc ++ ps).map (·.1)).Nodup -> ps.foldl (fun a p => putK a p.1 p.2) acc = acc ++ ps
 | [], acc, _ => by rw [List.append_nil]; rfl
 | p :: ps, acc, hu => by
  have hno : iW acc p.1 = Option.none := by
   cases h : iW acc p.1 with
   | none => rfl
   | some v =>
    rw [List.map_append, List.map_cons] at hu
    exact absurd rfl ((List.nodup_append.mp hu).2.2 p.1 (List.mem_map.mpr ⟨(p.1, v), xK h, rfl⟩) p.1 List.mem_cons_self)
  rw [List.foldl_cons]
  have e : putK acc p.1 p.2 = acc ++ [p] := by
   unfold putK
   rw [if_neg (by rw [fV, hno]; simp)]
  rw [e, yC ps (acc ++ [p]) (by rw [List.append_assoc]; exact hu), List.append_assoc]
  rfl
def vK : V -> Key
 | .str z => Sum.inr z
 | .int i => Sum.inl i
 | _ => Sum.inl 0
theorem Mu (k : Key) : vK (kV k) = k := by cases k <;> rfl
def kfD (H : Hp) : V -> Key
 | .ref b => match H b with
  | some (.tup [x, _]) => vK x
  | _ => Sum.inl 0
 | _ => Sum.inl 0
def vfD (H : Hp) : V -> V
 | .ref b => match H b with
  | some (.tup [_, y]) => y
  | _ => .non
 | _ => .non
theorem CT {H : Hp} {b : Addr} {kv : Key × V} (h : H b = some (.tup [kV kv.1, kv.2])) : kfD H (.ref b) = kv.1 := by
 unfold kfD
 dsimp only
 rw [h]
 exact Mu _
theorem Az {H : Hp} {b : Addr} {kv : Key × V} (h : H b = some (.tup [kV kv.1, kv.2])) : vfD H (.ref b) = kv.2 := by
 unfold vfD
 dsimp only
 rw [h]
theorem Ck {H : Hp} {ps : List (Key × V)} {acc : List V} (hl : acc.length = ps.length) (h : ∀ (i : Nat) v, acc[i]? = some v -> ∃ kv, ps[i]? = some kv /\ ∃ b, v = .ref b /\ H b = some (.tup [kV kv.1, kv.2])) (hu : (ps.map (·.1)).Nodup) : rN (kfD H) (vfD H) acc = ps := by
 have e : acc.map (fun y => (kfD H y, vfD H y)) = ps := by
  refine List.ext_getElem? fun i => ?_
  rw [List.getElem?_map]
  by_cases hi : i < acc.length
  ·obtain ⟨kv, h1, b, h2, h3⟩ := h i _ (List.getElem?_eq_getElem hi)
   rw [List.getElem?_eq_getElem hi, h2, h1]
   show some (kfD H (.ref b), vfD H (.ref b)) = some kv
   rw [CT h3, Az h3]
  ·rw [List.getElem?_eq_none (by omega), List.getElem?_eq_none (by omega)]
   rfl
 have := yC (acc.map fun y => (kfD H y, vfD H y)) [] (by rw [List.nil_append, e]; exact hu)
 rw [List.foldl_map, List.nil_append] at this
 unfold rN
 rw [this, e]
end
end My
namespace My
open PySem L2 PyProof.Rows
section
variable {P : Program} {w : World} {K : Fg_} {mg : Str -> Option Value} {base : Heap} {A : Adr} {D : Fds}
local macro_rules | `(tactic| walk_at "nx") => `(tactic| ((try dsimp only); rw [ap_seq]; walk_at "rdi"))
def uf : Sp := fun vs H Q _ => ∃ (a : Addr) (kvs : List (Key × V)) (z : Str) (n : Int), vs = [.ref a, .str z, .int n] /\ Rd H a (.dK kvs) /\ Held kvs /\ kvs.length <= 100 /\
 ∀ p H', Same H H' -> H p = Option.none -> H' p = some (.dK (zJ kvs z n)) -> Q (.ref p) H'
theorem kO (T : Txt K mg A D) : FnOk P w K mg base CX0 1 A.held_with D.held_with ["held", "ware", "pieces"] (uf) := by
 refine T.F_held_with.ok sc_held_with (fun vs H Q E h => ?_) (fun cdv A' outer s0 H vs Q E hr h => ?_)
 ·obtain ⟨a, kvs, z, n, rfl, _⟩ := h; rfl
 ·obtain ⟨a, kvs, z, n, rfl, ha, hH, hl, k⟩ := h
  refine ⟨_, (ao (aO (i := 3) sc_held_with.nd rfl (Or.inl rfl) (bB vY (by rfl) T.b_dict (by decide +kernel) (aj (pv 0) aq)))
   (ao (wA (wV hr) (pv 3) (pv 1) (pv 2) rfl)
   (aA (aR (bB (fQ (K := K) rfl) (by rfl) T.b_dict (by decide +kernel) (aj (bI (cap := [Option.none, Option.none]) (N' := ["name", "count"]) rfl (by walk_at "compok") (yd (wW (K := K) PySem.F.plainAttrs_dict PySem.F.slot_dict_items PySem.F.type_dict_items xR (pv 3))) (fun _ _ _ _ => (gW (K := K) (n := 2) rfl (aU (aH (i := 0) (show (["name", "count"] : List Str).Nodup from by decide +kernel) rfl (Or.inl rfl) (Or.inr rfl)) (aU (aH (i := 1) (show (["name", "count"] : List Str).Nodup from by decide +kernel) rfl (Or.inl rfl) (Or.inr rfl)) fW)))) (fun _ _ _ _ => (Dj (bj (vH) (pv 1) aG (bC _)))) (fun _ _ _ _ => (gK (aj (pv 0) (aj (pv 1) aq))))) aq)))))), ?_⟩
  simp only [start_eq]
  walk_at "nx"
  refine ⟨_, ha, fun pc hpc => ?_⟩
  have n1 := Same.new (o := .dK kvs) hpc
  have h1 : (upd H pc (.dK kvs)) pc = some (.dK kvs) := au
  generalize upd H pc (.dK kvs) = H1 at n1 h1
  walk_at "nx"
  obtain ⟨P, hP⟩ : ∃ P, putK kvs (Sum.inr z) (.int n) = P := ⟨_, rfl⟩
  have hPl : P.length <= 101 := by rw [<- hP]; have := Ia kvs (Sum.inr z) (.int n); omega
  have hPi : ∀ kv ∈ P, ∃ (y : Str) (i : Int), kv = (Sum.inr y, .int i) := fun kv hkv => by
   rw [<- hP] at hkv
   rcases Cp hkv with rfl | h0
   ·exact ⟨z, n, rfl⟩
   ·obtain ⟨y, i, e, _⟩ := hH.k kv h0
    exact ⟨y, i, e⟩
  refine ⟨_, DPut.k (k := Sum.inr z) h1 (by rw [sizeLine_eq]; omega), ?_⟩
  rw [hP]
  have s2 : Same H (upd H1 pc (.dK P)) := n1.upd hpc
  have h2 : (upd H1 pc (.dK P)) pc = some (.dK P) := au
  generalize upd H1 pc (.dK P) = H2 at s2 h2
  refine ⟨.inr (.inr (.inl ⟨rfl, .inl ⟨_, h2⟩⟩)), _, h2, fun v hv => ⟨pc, au, P, ?_, fun o => ?_⟩⟩
  ·exact (aF (aN h2 hv)).trans h2
  have s3 : Same H (upd (upd H2 v (mF v pc)) pc (.frz o (.dK P))) := (s2.trans (Same.new hv)).upd hpc
  have h3 : (upd (upd H2 v (mF v pc)) pc (.frz o (.dK P))) pc = some (.frz o (.dK P)) := au
  generalize upd (upd H2 v (mF v pc)) pc (.frz o (.dK P)) = H3 at s3 h3
  refine CompP.itemsF (fun σ => ∃ a b, σ = [a, b]) posK (fun kv v H' => ∃ b, v = .ref b /\ H' b = some (.tup [kV kv.1, kv.2])) h3 ⟨_, _, rfl⟩ (by rw [sizeLine_eq]; omega) ?_ ?_
  ·rintro D i kv hkv σ H5 p R1 R2 ⟨_, _, rfl⟩ s5 hD ⟨acc, hA⟩ hp k1 k2
   obtain ⟨y, j, rfl⟩ := hPi kv (List.mem_of_getElem? hkv)
   have h6 : (upd H5 p (.tup [kV (Sum.inr y), .int j])) p = some (.tup [.str y, .int j]) := au
   have hA6 := Same.new (o := .tup [kV (Sum.inr y), .int j]) hp _ _ hA
   generalize upd H5 p (.tup [kV (Sum.inr y), .int j]) = H6 at h6 hA6 k1 k2
   walk_at "rdi"
   refine ⟨_, SqT.of h6, rfl, _, _, rfl, _, _, rfl, rfl, _, rfl, ?_⟩
   by_cases hj : 0 < j
   ·rw [if_pos hj]
    exact ⟨by rw [sizeLine_eq]; decide, fun t ht => k1 (decide_eq_true hj) _ _ _ ⟨_, _, rfl⟩ (Same.new ht) fun H' hb => ⟨t, rfl, hb _ _ (fun e => by rw [e, hA6] at ht; cases ht) au⟩⟩
   ·rw [if_neg hj]
    exact k2 (decide_eq_false hj) _ _ ⟨_, _, rfl⟩ (Same.refl _)
  ·intro D H4 acc hD s4 hA hlen hF
   have hF' : ∀ (i : Nat) v, acc[i]? = some v -> ∃ kv, (P.filter posK)[i]? = some kv /\ ∃ b, v = .ref b /\ H4 b = some (.tup [kV kv.1, kv.2]) := hF
   have hnd : ((P.filter posK).map (·.1)).Nodup := by
    have := (Df hH z n).u
    unfold zJ at this
    rwa [hP] at this
   have hle : (P.filter posK).length <= 101 := Nat.le_trans (List.length_filter_le _ _) hPl
   rw [ap_dictPairs]
   refine ⟨acc, kfD H4, vfD H4, SqL.of hA, by omega, fun y hy => ?_, fun p hp => ?_⟩
   ·obtain ⟨i, hi, e⟩ := List.getElem_of_mem hy
    obtain ⟨kv, _, b, rfl, hb⟩ := hF' i y (by rw [List.getElem?_eq_getElem hi, e])
    exact ⟨b, rfl, by rw [CT hb, Az hb]; exact SqT.of hb⟩
   ·rw [Ck hlen hF' hnd]
    have S := s3.trans s4
    refine k p _ (S.trans (Same.new hp)) (S.free hp) ?_
    rw [au]
    unfold zJ
    rw [hP]
def jR : Sp := fun vs H Q _ => ∃ (a : Addr) (kvs : List (Key × V)) (z : Str) (n : Int), vs = [.ref a, .str z, .int n] /\ Rd H a (.dK kvs) /\ Held kvs /\ kvs.length <= 100 /\
 ∀ p H', Same H H' -> H p = Option.none -> H' p = some (.dK (zJ kvs z (iz kvs z + n))) -> Q (.ref p) H'
theorem gB (T : Txt K mg A D) : FnOk P w K mg base CX0 2 A.held_with_more D.held_with_more ["held", "ware", "pieces"] (jR) := by
 refine T.F_held_with_more.ok jQ (fun vs H Q E h => ?_) (fun cdv A' outer s0 H vs Q E hr h => ?_)
 ·obtain ⟨a, kvs, z, n, rfl, _⟩ := h; rfl
 ·obtain ⟨a, kvs, z, n, rfl, ha, hH, hl, k⟩ := h
  refine ⟨_, (aA (aR (aK (kO (K := K) T) (hr.mono (by decide)) (by rfl) T.m_held_with T.k_held_with (pA T) .nil aP (aj (pv 0) (aj (pv 1) (aj (aL dJ (rm (wV hr) (pv 0) (pv 1) aG ⟨rfl, rfl, rfl, rfl⟩) (pv 2)) aq)))))), ?_⟩
  walk_at "rda"
  exact ⟨.inl ⟨_, ha⟩, _, .inl ⟨kvs, Sum.inr z, ha, rfl, rfl⟩, iz kvs z, uP hH z, a, kvs, z, _, rfl, ha, hH, hl, k⟩
def jl : Sp := fun vs H Q _ => ∃ (a : Addr) (kvs : List (Key × V)) (z : Str) (n : Int), vs = [.ref a, .str z, .int n] /\ Rd H a (.dK kvs) /\ Held kvs /\ kvs.length <= 100 /\
 (iz kvs z < n -> Q .non H) /\ (n <= iz kvs z -> ∀ p H', Same H H' -> H p = Option.none -> H' p = some (.dK (zJ kvs z (iz kvs z - n))) -> Q (.ref p) H')
theorem jx (T : Txt K mg A D) : FnOk P w K mg base CX0 2 A.held_with_fewer D.held_with_fewer ["held", "ware", "pieces"] (jl) := by
 refine T.F_held_with_fewer.ok sc_held_with_fewer (fun vs H Q E h => ?_) (fun cdv A' outer s0 H vs Q E hr h => ?_)
 ·obtain ⟨a, kvs, z, n, rfl, _⟩ := h; rfl
 ·obtain ⟨a, kvs, z, n, rfl, ha, hH, hl, k1, k2⟩ := h
  refine ⟨_, (ao (aO (i := 3) sc_held_with_fewer.nd rfl (Or.inl rfl) (rm (wV hr) (pv 0) (pv 1) aG ⟨rfl, rfl, rfl, rfl⟩))
   (ao (fL (bj (Aa) (pv 3) (pv 2) (bC _)) (aA (aR fM)) dg)
   (aA (aR (aK (kO (K := K) T) (hr.mono (by decide)) (by rfl) T.m_held_with T.k_held_with (pA T) .nil aP (aj (pv 0) (aj (pv 1) (aj (aL gF (pv 3) (pv 2)) aq)))))))), ?_⟩
  simp only [start_eq]
  walk_at "nx"
  refine ⟨.inl ⟨_, ha⟩, _, .inl ⟨kvs, Sum.inr z, ha, rfl, rfl⟩, ?_⟩
  rw [uP hH z]
  walk_at "nx"
  by_cases c : iz kvs z < n
  ·rw [if_pos c]
   exact k1 c
  ·rw [if_neg c]
   exact ⟨a, kvs, z, _, rfl, ha, hH, hl, k2 (by omega)⟩
end
end My
namespace My
open PySem L2 PyProof.Rows
section
variable {P : Program} {w : World} {K : Fg_} {mg : Str -> Option Value} {base : Heap} {A : Adr} {D : Fds}
def cB : List LotD -> Int -> List LotD
 | [], _ => []
 | d :: ds, w => if w <= 0 then [] else ⟨d.n, d.s, min d.p w, d.c * min d.p w / d.p⟩ :: cB ds (w - min d.p w)
def iw : List LotD -> Int -> List LotD
 | [], _ => []
 | d :: ds, w => if w <= 0 then d :: ds else if d.p <= w then iw ds (w - d.p) else ⟨d.n, d.s, d.p - w, d.c - d.c * w / d.p⟩ :: ds
def pcD (ds : List LotD) : Int := (ds.map LotD.p).sum
def csD (ds : List LotD) : Int := (ds.map LotD.c).sum
structure RowG (m : Nat) (ds : List LotD) : Prop where
 b : ds.Pairwise Bef
 u : (ds.map LotD.n).Nodup
 g : ∀ d ∈ ds, (0 <= d.n /\ d.n < m) /\ (1 <= d.p /\ d.p <= 1000000000) /\ 0 <= d.c /\ d.c <= 2000000000000000000
 l : ds.length <= m
theorem RowG.ok {m : Nat} {ds : List LotD} (h : RowG m ds) (hm : m <= 61) : RowOk ds := ⟨h.u, fun d hd => by have := h.g d hd; omega, by have := h.l; omega⟩
theorem mK : ∀ {ds : List LotD} {w : Int} {k : Int × Int}, k ∈ fX ds w -> ∃ d ∈ ds, d.n = k.1 /\ k.2 <= d.p /\ (0 < d.p -> 1 <= k.2)
 | [], _, _, h => by cases h
 | d :: ds, w, k, h => by
  rw [fX] at h
  split at h
  ·cases h
  ·rcases List.mem_cons.mp h with rfl | h
   ·exact ⟨d, List.mem_cons_self, rfl, by show min d.p w <= d.p; omega, fun h => by show 1 <= min d.p w; omega⟩
   ·obtain ⟨e, he, r⟩ := mK h
    exact ⟨e, List.mem_cons_of_mem _ he, r⟩
theorem Dl : ∀ {ds : List LotD} {w : Int}, (ds.map LotD.n).Nodup -> ((fX ds w).map (·.1)).Nodup
 | [], _, _ => .nil
 | d :: ds, w, h => by
  rw [List.map_cons, List.nodup_cons] at h
  rw [fX]
  split
  ·exact .nil
  ·rw [List.map_cons, List.nodup_cons]
   refine ⟨fun hm => ?_, Dl h.2⟩
   obtain ⟨k, hk, e⟩ := List.mem_map.mp hm
   obtain ⟨e', he', en, _⟩ := mK hk
   exact h.1 (by rw [show d.n = k.1 from e.symm, <- en]; exact List.mem_map.mpr ⟨e', he', rfl⟩)
theorem Hv {m : Nat} {ds : List LotD} {w : Int} (h : RowG m ds) : PkOk ds (fX ds w) := ⟨Dl h.u, fun k hk => by
 obtain ⟨d, hd, e1, e2, e3⟩ := mK hk
 exact ⟨d, hd, e1, e3 (by have := (h.g d hd).2.1; omega), e2⟩⟩
theorem Dd {d : LotD} {ds : List LotD} {k : Int × Int} (h : d.n ≠ k.1) : rE (d :: ds) k = rE ds k := by
 unfold rE
 rw [List.find?_cons_of_neg (by simpa using h)]
theorem Bg : ∀ {ds : List LotD} {w : Int}, (ds.map LotD.n).Nodup -> (fX ds w).map (rE ds) = cB ds w
 | [], _, _ => rfl
 | d :: ds, w, h => by
  have h' := h
  rw [List.map_cons, List.nodup_cons] at h
  rw [fX, cB]
  split
  ·rfl
  ·rw [List.map_cons, <- Bg h.2]
   congr 1
   ·exact some_at h' List.mem_cons_self
   ·refine List.map_congr_left fun k hk => Dd fun e => ?_
    obtain ⟨e', he', en, _⟩ := mK hk
    exact h.1 (by rw [e, <- en]; exact List.mem_map.mpr ⟨e', he', rfl⟩)
theorem zW {ks : Pk} {n w : Int} {d : LotD} (h : d.n ≠ n) : gU ((n, w) :: ks) d = gU ks d := by
 unfold gU
 rw [List.lookup_cons, show (d.n == n) = false by simpa using h]
theorem Cd {ds : List LotD} (h : ∀ d ∈ ds, 1 <= d.p) : zY [] ds = ds := by
 unfold zY
 have : ds.map (gU []) = ds := (List.map_congr_left fun d _ => rfl).trans (List.map_id ds)
 rw [this]
 exact List.filter_eq_self.mpr fun d hd => decide_eq_true (by have := h d hd; omega)
theorem BV : ∀ {ds : List LotD} {w : Int}, (ds.map LotD.n).Nodup -> (∀ d ∈ ds, 1 <= d.p) -> zY (fX ds w) ds = iw ds w
 | [], _, _, _ => rfl
 | d :: ds, w, h, hp => by
  rw [List.map_cons, List.nodup_cons] at h
  have hd := hp d List.mem_cons_self
  have hp' : ∀ e ∈ ds, 1 <= e.p := fun e he => hp e (List.mem_cons_of_mem _ he)
  rw [fX, iw]
  split
  ·exact Cd hp
  ·rename_i hw
   have e1 : ds.map (gU ((d.n, min d.p w) :: fX ds (w - min d.p w))) = ds.map (gU (fX ds (w - min d.p w))) := List.map_congr_left fun e he => zW fun c => h.1 (by rw [<- c]; exact List.mem_map.mpr ⟨e, he, rfl⟩)
   have e2 : gU ((d.n, min d.p w) :: fX ds (w - min d.p w)) d = ⟨d.n, d.s, d.p - min d.p w, d.c - d.c * min d.p w / d.p⟩ := by
    unfold gU
    rw [List.lookup_cons, show (d.n == d.n) = true by simp]
   have ih := BV (ds := ds) (w := w - min d.p w) h.2 hp'
   unfold zY at ih ⊢
   rw [List.map_cons, e1, e2]
   by_cases c : d.p <= w
   ·rw [if_pos c, List.filter_cons_of_neg (by rw [decide_eq_true_eq]; show ¬ 0 < d.p - min d.p w; omega), ih, show min d.p w = d.p by omega]
   ·rw [if_neg c, List.filter_cons_of_pos (by rw [decide_eq_true_eq]; show 0 < d.p - min d.p w; omega), show min d.p w = w by omega]
    congr 1
    rw [show min d.p w = w by omega] at ih
    rw [ih]
    have : w - w <= 0 := by omega
    cases ds with
    | nil => rfl
    | cons e ds => rw [iw, if_pos this]
theorem DN : ∀ {ds : List LotD} {w : Int}, 0 <= w -> w <= pcD ds -> (∀ d ∈ ds, 1 <= d.p) -> pcD (cB ds w) = w
 | [], w, h0, h1, _ => by
  have : w <= 0 := h1
  show 0 = w
  omega
 | d :: ds, w, h0, h1, hp => by
  have hd := hp d List.mem_cons_self
  have h1 : w <= d.p + pcD ds := h1
  rw [cB]
  split
  ·show 0 = w; omega
  ·show min d.p w + pcD (cB ds (w - min d.p w)) = w
   by_cases c : d.p <= w
   ·rw [DN (by omega) (by omega) fun e he => hp e (List.mem_cons_of_mem _ he)]; omega
   ·rw [show w - min d.p w = 0 by omega]
    have : cB ds 0 = [] := by cases ds with | nil => rfl | cons e ds => rw [cB, if_pos (by omega)]
    rw [this]
    show min d.p w + 0 = w
    omega
theorem Gr : ∀ {ds : List LotD} {w : Int}, (∀ d ∈ ds, 1 <= d.p) -> ∀ d ∈ cB ds w, 1 <= d.p
 | [], _, _, d, h => by cases h
 | e :: ds, w, hp, d, h => by
  rw [cB] at h
  split at h
  ·cases h
  ·rcases List.mem_cons.mp h with rfl | h
   ·have := hp e List.mem_cons_self
    show 1 <= min e.p w
    omega
   ·exact Gr (fun e he => hp e (List.mem_cons_of_mem _ he)) d h
theorem yD : ∀ (ds : List LotD) (w : Int), (cB ds w).length <= ds.length
 | [], _ => Nat.le_refl _
 | e :: ds, w => by
  rw [cB]
  split
  ·exact Nat.zero_le _
  ·exact Nat.succ_le_succ (yD ds _)
theorem wI {c w p : Int} (hc : 0 <= c) (hw : 0 <= w) (hp : w <= p) (h1 : 1 <= p) : 0 <= c * w / p /\ c * w / p <= c := by
 refine ⟨Int.ediv_nonneg (Int.mul_nonneg hc hw) (by omega), ?_⟩
 refine Int.ediv_le_of_le_mul (by omega) ?_
 exact Int.mul_le_mul_of_nonneg_left hp hc
theorem Hh {m : Nat} : ∀ {ds : List LotD} {w : Int}, RowG m ds -> RowG m (iw ds w)
 | [], _, h => h
 | d :: ds, w, h => by
  have hb := List.pairwise_cons.mp h.b
  have hu := h.u
  rw [List.map_cons, List.nodup_cons] at hu
  have hl := h.l
  rw [List.length_cons] at hl
  have ht : RowG m ds := ⟨hb.2, hu.2, fun e he => h.g e (List.mem_cons_of_mem _ he), by omega⟩
  rw [iw]
  split
  ·exact h
  ·split
   ·exact Hh ht
   ·rename_i h1 h2
    have hd := h.g d List.mem_cons_self
    have hpl := wI (c := d.c) (w := w) (p := d.p) (by omega) (by omega) (by omega) (by omega)
    refine ⟨List.pairwise_cons.mpr ⟨fun e he => hb.1 e he, hb.2⟩, by rw [List.map_cons, List.nodup_cons]; exact hu, fun e he => ?_, h.l⟩
    rcases List.mem_cons.mp he with rfl | he
    ·refine ⟨hd.1, ⟨?_, ?_⟩, ?_, ?_⟩
     ·show 1 <= d.p - w; omega
     ·show d.p - w <= _; omega
     ·show 0 <= d.c - d.c * w / d.p; omega
     ·show d.c - d.c * w / d.p <= _; omega
    ·exact h.g e (List.mem_cons_of_mem _ he)
theorem RowG.mono {m n : Nat} {ds : List LotD} (h : RowG m ds) (hn : m <= n) : RowG n ds := ⟨h.b, h.u, fun d hd => by have := h.g d hd; omega, by have := h.l; omega⟩
def xV (d : LotD) : List LotD -> List LotD
 | [] => [d]
 | x :: xs => if d.s < x.s \/ (d.s = x.s /\ d.n < x.n) then d :: x :: xs else x :: xV d xs
theorem jF (d : LotD) : ∀ ds : List LotD, (xV d ds).Perm (ds ++ [d])
 | [] => .refl _
 | x :: xs => by
  rw [xV]
  split
  ·exact (List.perm_append_singleton d (x :: xs)).symm
  ·exact (jF d xs).cons x
theorem vR {d : LotD} : ∀ {ds : List LotD}, ds.Pairwise Bef -> d.n ∉ ds.map LotD.n -> (xV d ds).Pairwise Bef
 | [], _, _ => List.pairwise_singleton _ _
 | x :: xs, h, hn => by
  have h' := List.pairwise_cons.mp h
  have hn1 : x.n ≠ d.n := fun z => hn (by rw [List.map_cons, z]; exact List.mem_cons_self)
  rw [xV]
  split
  ·rename_i c
   refine List.pairwise_cons.mpr ⟨fun y hy => ?_, h⟩
   rcases List.mem_cons.mp hy with rfl | hy
   ·exact c
   ·have := h'.1 y hy
    unfold Bef at *
    omega
  ·rename_i c
   refine List.pairwise_cons.mpr ⟨fun y hy => ?_, vR h'.2 fun z => hn (by rw [List.map_cons]; exact List.mem_cons_of_mem _ z)⟩
   rcases List.mem_append.mp ((jF d xs).mem_iff.mp hy) with hy | hy
   ·exact h'.1 y hy
   ·rw [List.mem_singleton.mp hy]
    unfold Bef
    omega
theorem Ls {m : Nat} {d : LotD} {ds : List LotD} (h : RowG m ds) (hd : d.n = m /\ (1 <= d.p /\ d.p <= 1000000000) /\ 0 <= d.c /\ d.c <= 2000000000000000000) : RowG (m + 1) (xV d ds) := by
 have hn : d.n ∉ ds.map LotD.n := fun hm => by
  obtain ⟨e, he, c⟩ := List.mem_map.mp hm
  have := (h.g e he).1
  omega
 have hp := jF d ds
 refine ⟨vR h.b hn, (hp.map LotD.n).nodup_iff.mpr ?_, fun e he => ?_, ?_⟩
 ·rw [List.map_append]
  refine List.nodup_append.mpr ⟨h.u, by simp, fun y hy z hz => ?_⟩
  obtain rfl := List.mem_singleton.mp hz
  exact fun c => hn (c ▸ hy)
 ·rcases List.mem_append.mp (hp.mem_iff.mp he) with he | he
  ·have := h.g e he; omega
  ·rw [List.mem_singleton.mp he]; omega
 ·rw [hp.length_eq, List.length_append, List.length_singleton]
  have := h.l
  omega
theorem GP {d : LotD} {ds es : List LotD} (h1 : es.Perm (ds ++ [d])) (h2 : es.Pairwise Bef) (h3 : ds.Pairwise Bef) (h4 : d.n ∉ ds.map LotD.n) : es = xV d ds :=
 List.Perm.eq_of_pairwise (le := Bef) (fun a b _ _ p q => by unfold Bef at p q; omega) h2 (vR h3 h4) (h1.trans (jF d ds).symm)
def stE (s : List LotD × List (Int × Int)) : E3 -> List LotD × List (Int × Int)
 | .sell _ n _ p r f => (iw s.1 p, s.2 ++ [(n, p * r - f - csD (cB s.1 p))])
 | e => (xV e.lot s.1, s.2)
def lu (es : List E3) : List LotD × List (Int × Int) := es.foldl stE ([], [])
theorem rP (es : List E3) (e : E3) : lu (es ++ [e]) = stE (lu es) e := by
 unfold lu
 rw [List.foldl_append]
 rfl
def okS (ds : List LotD) : E3 -> Prop
 | .sell _ _ _ p _ _ => 1 <= p /\ p <= pcD ds
 | _ => True
structure Hst (es : List E3) : Prop where
 g : ∀ e ∈ es, e.good /\ e.ware = Str.ofString "cup"
 b : es.Pairwise fun d e => d.day < e.day \/ (d.day = e.day /\ d.num < e.num)
 n : ∀ (j : Nat) e, es[j]? = some e -> e.num = j
 r : ∀ j, j <= es.length -> RowG j (lu (es.take j)).1
 v : ∀ (j : Nat) e, es[j]? = some e -> okS (lu (es.take j)).1 e
theorem HD : Hst [] := ⟨fun e h => (List.not_mem_nil h).elim, .nil, fun j e h => by simp at h, fun j hj => by
 obtain rfl : j = 0 := by simpa using hj
 exact ⟨.nil, .nil, fun d h => (List.not_mem_nil h).elim, Nat.le_refl _⟩, fun j e h => by simp at h⟩
theorem Ba {e : E3} (h : e.good) (hk : e.kd ≠ 2) : e.lot.n = e.num /\ (1 <= e.lot.p /\ e.lot.p <= 1000000000) /\ 0 <= e.lot.c /\ e.lot.c <= 2000000000000000000 := by
 cases e with
 | buy d n w p r f =>
  obtain ⟨_, ⟨p0, p1⟩, ⟨r0, r1⟩, f0, f1⟩ := h
  have h1 : 0 <= p * r := Int.mul_nonneg (by omega) r0
  have h2 : p * r <= 1000000000 * 1000000000 := Int.mul_le_mul p1 r1 r0 (by decide)
  refine ⟨rfl, ⟨p0, p1⟩, ?_, ?_⟩
  ·show 0 <= p * r + f; omega
  ·show p * r + f <= _; omega
 | gift d n w p c s =>
  obtain ⟨_, ⟨p0, p1⟩, ⟨c0, c1⟩, _⟩ := h
  exact ⟨rfl, ⟨p0, p1⟩, c0, by show c <= _; omega⟩
 | sell => exact (hk rfl).elim
theorem Hst.snoc {es : List E3} {e : E3} (h : Hst es) (hg : e.good /\ e.ware = Str.ofString "cup") (hn : e.num = es.length) (hd : ∀ d ∈ es, d.day <= e.day) (hv : okS (lu es).1 e) : Hst (es ++ [e]) := by
 have ht : ∀ j, j <= es.length -> (es ++ [e]).take j = es.take j := fun j hj => List.take_append_of_le_length hj
 have hall : (es ++ [e]).take (es.length + 1) = es ++ [e] := List.take_of_length_le (by rw [List.length_append]; exact Nat.le_refl _)
 refine ⟨fun d hd' => ?_, List.pairwise_append.mpr ⟨h.b, List.pairwise_singleton _ _, fun a ha b hb => ?_⟩, fun j d hj => ?_, fun j hj => ?_, fun j d hj => ?_⟩
 ·rcases List.mem_append.mp hd' with hd' | hd'
  ·exact h.g d hd'
  ·rw [List.mem_singleton.mp hd']; exact hg
 ·rw [List.mem_singleton.mp hb]
  obtain ⟨j, hj, ej⟩ := List.getElem_of_mem ha
  have := h.n j a (by rw [List.getElem?_eq_getElem hj, ej])
  have h2 := hd a ha
  omega
 ·by_cases c : j < es.length
  ·rw [List.getElem?_append_left c] at hj
   exact h.n j d hj
  ·rw [List.getElem?_append_right (by omega)] at hj
   obtain ⟨q, rfl⟩ : ∃ q, j - es.length = q := ⟨_, rfl⟩
   have : j - es.length = 0 := by
    have := (List.getElem?_eq_some_iff.mp hj).1
    simpa using this
   rw [this] at hj
   cases hj
   rw [hn]
   omega
 ·by_cases c : j <= es.length
  ·rw [ht j c]; exact h.r j c
  ·obtain rfl : j = es.length + 1 := by rw [List.length_append, List.length_singleton] at hj; omega
   rw [hall, rP]
   have hR := h.r es.length (Nat.le_refl _)
   rw [List.take_length] at hR
   cases e with
   | sell d n w p r f => exact (Hh hR).mono (Nat.le_succ _)
   | buy d n w p r f => exact Ls hR (by have := Ba hg.1 (fun c => by cases c); rw [hn] at this; exact this)
   | gift d n w p c s => exact Ls hR (by have := Ba hg.1 (fun c => by cases c); rw [hn] at this; exact this)
 ·by_cases c : j < es.length
  ·rw [List.getElem?_append_left c] at hj
   rw [ht j (by omega)]
   exact h.v j d hj
  ·rw [List.getElem?_append_right (by omega)] at hj
   have h0 : j - es.length = 0 := by
    have := (List.getElem?_eq_some_iff.mp hj).1
    simpa using this
   rw [h0] at hj
   cases hj
   rw [ht j (by omega), List.take_of_length_le (by omega)]
   exact hv
end
end My
namespace My
open PySem L2 PyProof.Rows
section
variable {P : Program} {w : World} {K : Fg_} {mg : Str -> Option Value} {base : Heap} {A : Adr} {D : Fds}
abbrev SP5 := List (Addr × LotD × Int)
def oN (ps : SP5) : List V := ps.map fun r => V.ref r.1
theorem pB (ps : SP5) : (oN ps).length = ps.length := by unfold oN; rw [List.length_map]
theorem Bh {rs : SP5} {i : Nat} {y : V} (h : (oN rs)[i]? = some y) : ∃ r, rs[i]? = some r /\ y = .ref r.1 := by
 unfold oN at h
 rw [List.getElem?_map] at h
 cases e : rs[i]? with
 | none => rw [e] at h; cases h
 | some r => rw [e] at h; exact ⟨r, rfl, (Option.some.inj h).symm⟩
structure SaleD where
 n : Int
 d : Int
 pr : Int
 pl : Addr
 ps : SP5
def SaleD.fs (s : SaleD) : List (Str × V) := [("number", .int s.n), ("day", .int s.d), ("ware", .str (Str.ofString "cup")), ("proceeds", .int s.pr), ("parts", .ref s.pl), ("laid_on", .non)]
def SaleD.co (s : SaleD) : Int := (s.ps.map fun r => r.2.1.c).sum
def SaleD.gn (s : SaleD) : Int × Int := (s.n, s.pr - s.co)
def P5At (H : Hp) (ps : SP5) : Prop := ∀ r ∈ ps, H r.1 = some (.tup (r.2.1.vs ++ [.int r.2.2]))
structure IsSale (A : Adr) (H : Hp) (x : Addr) (s : SaleD) : Prop where
 i : ∃ dx, H x = some (.ins A.C_Sale dx s.fs)
 p : H s.pl = some (.lst (oN s.ps))
 t : P5At H s.ps
 l : s.ps.length <= 61
theorem P5At.same {H H' : Hp} {ps : SP5} (h : P5At H ps) (s : Same H H') : P5At H' ps := fun r hr => s _ _ (h r hr)
theorem IsSale.same {H H' : Hp} {x : Addr} {d : SaleD} (h : IsSale A H x d) (s : Same H H') : IsSale A H' x d := ⟨let ⟨dx, e⟩ := h.i; ⟨dx, s _ _ e⟩, s _ _ h.p, h.t.same s, h.l⟩
def Kin (o : HO) : Prop := (∃ C dx fs, o = .ins C dx fs) \/ (∃ xs, o = .lst xs) \/ ∃ xs, o = .tup xs
theorem Ce {C dx : Addr} {fs : List (Str × V)} : Kin (.ins C dx fs) := .inl ⟨_, _, _, rfl⟩
theorem wD {xs : List V} : Kin (.lst xs) := .inr (.inl ⟨_, rfl⟩)
theorem IV {xs : List V} : Kin (.tup xs) := .inr (.inr ⟨_, rfl⟩)
def gQ (sl : List (Addr × SaleD)) : List V := sl.map fun t => V.ref t.1
structure BkD where
 way : Addr
 rows : Addr
 sales : Addr
 givs : Addr
 q : Addr
 row : RL
 last : Option (Addr × Int × Int)
 paid : Int
 brought : Int
 sl : List (Addr × SaleD)
def kv1 (q : Addr) : RL -> List (Key × V)
 | [] => []
 | _ :: _ => [(Sum.inr (Str.ofString "cup"), .ref q)]
def wX : Option (Addr × Int × Int) -> V
 | Option.none => .non
 | some t => .ref t.1
def BkD.fs (k : BkD) : List (Str × V) := [("way", .ref k.way), ("rows", .ref k.rows), ("last_place", wX k.last), ("paid", .int k.paid), ("brought", .int k.brought), ("sales_done", .ref k.sales), ("givings_done", .ref k.givs)]
structure BkAt (A : Adr) (H : Hp) (b : Addr) (k : BkD) : Prop where
 b : ∃ dx, H b = some (.ins A.C_Book dx k.fs)
 w : ∃ dw, H k.way = some (.ins A.C_Eldest dw [])
 r : H k.rows = some (.dK (kv1 k.q k.row))
 l : k.row ≠ [] -> H k.q = some (.lst (aQ k.row)) /\ k.q ≠ k.sales
 a : LotAt A H k.row
 p : ∀ t, k.last = some t -> H t.1 = some (.tup [.int t.2.1, .int t.2.2])
 s : H k.sales = some (.lst (gQ k.sl))
 sa : ∀ t ∈ k.sl, IsSale A H t.1 t.2 /\ t.2.pl ≠ k.sales
 g : H k.givs = some (.lst []) /\ k.givs ≠ k.sales
theorem BkAt.fr {H H' : Hp} {b : Addr} {k : BkD} (h : BkAt A H b k) (s : ∀ a o, Kin o -> a ≠ k.sales -> H a = some o -> H' a = some o) (hr : H' k.rows = some (.dK (kv1 k.q k.row))) (hs : H' k.sales = some (.lst (gQ k.sl))) : BkAt A H' b k := by
 have ni : ∀ {a C dx : Addr} {fs : List (Str × V)}, H a = some (.ins C dx fs) -> H' a = some (.ins C dx fs) := fun e => s _ _ Ce (fun c => by rw [c, h.s] at e; cases e) e
 have nt : ∀ {a : Addr} {xs : List V}, H a = some (.tup xs) -> H' a = some (.tup xs) := fun e => s _ _ IV (fun c => by rw [c, h.s] at e; cases e) e
 exact ⟨let ⟨dx, e⟩ := h.b; ⟨dx, ni e⟩, let ⟨dx, e⟩ := h.w; ⟨dx, ni e⟩, hr, fun c => ⟨s _ _ wD (h.l c).2 (h.l c).1, (h.l c).2⟩, fun l hl => let ⟨dx, e⟩ := h.a l hl; ⟨dx, ni e⟩, fun t ht => nt (h.p t ht), hs,
  fun t ht => ⟨⟨let ⟨dx, e⟩ := (h.sa t ht).1.i; ⟨dx, ni e⟩, s _ _ wD (h.sa t ht).2 (h.sa t ht).1.p, fun r hr => nt ((h.sa t ht).1.t r hr), (h.sa t ht).1.l⟩, (h.sa t ht).2⟩, s _ _ wD h.g.2 h.g.1, h.g.2⟩
theorem BkAt.same {H H' : Hp} {b : Addr} {k : BkD} (h : BkAt A H b k) (s : Same H H') : BkAt A H' b k := h.fr (fun a o _ _ e => s a o e) (s _ _ h.r) (s _ _ h.s)
theorem Ov {H : Hp} {r : Addr} {kv : List (Key × V)} {u : HO} (hr : H r = some (.dK kv)) : ∀ a o, Kin o -> H a = some o -> (upd H r u) a = some o := fun a o k h => by
 refine (aF (fun e => ?_)).trans h
 rw [e, hr] at h
 cases h
 rcases k with ⟨_, _, _, k⟩ | ⟨_, k⟩ | ⟨_, k⟩ <;> cases k
def Off3 (b r s : Addr) (H H' : Hp) : Prop := ∀ a o, a ≠ b -> a ≠ r -> a ≠ s -> H a = some o -> H' a = some o
theorem Off3.of {b r s : Addr} {H H' : Hp} (h : Same H H') : Off3 b r s H H' := fun a o _ _ _ e => h a o e
theorem Off3.trans {b r s : Addr} {H H' H'' : Hp} (h : Off3 b r s H H') (h' : Off3 b r s H' H'') : Off3 b r s H H'' := fun a o h1 h2 h3 e => h' a o h1 h2 h3 (h a o h1 h2 h3 e)
theorem Off3.b {b r s : Addr} {H : Hp} {o : HO} : Off3 b r s H (upd H b o) := fun a _ h _ _ e => (aF h).trans e
theorem Off3.r {b r s : Addr} {H : Hp} {o : HO} : Off3 b r s H (upd H r o) := fun a _ _ h _ e => (aF h).trans e
theorem Off3.s {b r s : Addr} {H : Hp} {o : HO} : Off3 b r s H (upd H s o) := fun a _ _ _ h e => (aF h).trans e
theorem Iv {q p : Addr} {row ls : RL} (h : ls ≠ []) : putK (kv1 q row) (Sum.inr (Str.ofString "cup")) (.ref p) = kv1 p ls := by
 cases ls with
 | nil => exact (h rfl).elim
 | cons l ls => cases row with
  | nil => rfl
  | cons a row =>
   show putK [((Sum.inr (Str.ofString "cup") : Key), V.ref q)] _ _ = _
   unfold putK
   rw [if_pos (by simp)]
   simp [kv1]
theorem Bq (q : Addr) (row : RL) : (kv1 q row).length <= 1 := by cases row <;> simp [kv1]
theorem Gm (q : Addr) (row : RL) : vW (kv1 q row) (Sum.inr (Str.ofString "cup")) = [] := by cases row <;> simp [kv1, vW]
theorem CV (q : Addr) (row : RL) : iW (kv1 q row) (Sum.inr (Str.ofString "cup")) = if row.isEmpty = true then Option.none else some (.ref q) := by
 cases row with
 | nil => rfl
 | cons a row => exact gM rfl
theorem Gu {H : Hp} {b : Addr} {k : BkD} (h : BkAt A H b k) {p : Addr} {ls : RL} (hp : ls ≠ [] -> H p = some (.lst (aQ ls)) /\ p ≠ k.sales) (hL : LotAt A H ls) : BkAt A (upd H k.rows (.dK (kv1 p ls))) b { k with row := ls, q := p } := by
 have f := Ov (u := .dK (kv1 p ls)) h.r
 have hs : (upd H k.rows (.dK (kv1 p ls))) k.sales = some (.lst (gQ k.sl)) := f _ _ wD h.s
 exact ⟨let ⟨dx, e⟩ := h.b; ⟨dx, f _ _ Ce e⟩, let ⟨dx, e⟩ := h.w; ⟨dx, f _ _ Ce e⟩, au, fun c => ⟨f _ _ wD (hp c).1, (hp c).2⟩, fun l hl => let ⟨dx, e⟩ := hL l hl; ⟨dx, f _ _ Ce e⟩, fun t ht => f _ _ IV (h.p t ht), hs,
  fun t ht => ⟨⟨let ⟨dx, e⟩ := (h.sa t ht).1.i; ⟨dx, f _ _ Ce e⟩, f _ _ wD (h.sa t ht).1.p, fun r hr => f _ _ IV ((h.sa t ht).1.t r hr), (h.sa t ht).1.l⟩, (h.sa t ht).2⟩, f _ _ wD h.g.1, h.g.2⟩
theorem yM {k : BkD} {x : Str} {v : V} {fs : List (Str × V)} (hx : x ≠ Str.ofString "way") (h : (x, v) :: fs = k.fs) : False := hx (Prod.mk.inj (List.cons.inj h).1).1
theorem Np {k : BkD} (h : ([] : List (Str × V)) = k.fs) : False := by cases h
theorem BP {H : Hp} {b dx : Addr} {k k' : BkD} (h : BkAt A H b k) (e : k'.way = k.way /\ k'.rows = k.rows /\ k'.sales = k.sales /\ k'.givs = k.givs /\ k'.q = k.q /\ k'.row = k.row /\ k'.sl = k.sl) (e5 : ∀ t, k'.last = some t -> H t.1 = some (.tup [.int t.2.1, .int t.2.2])) : BkAt A (upd H b (.ins A.C_Book dx k'.fs)) b k' := by
 obtain ⟨e1, e2, e3, e4, e6, e7, e8⟩ := e
 obtain ⟨db, hb⟩ := h.b
 have ni : ∀ {a C d : Addr} {fs : List (Str × V)}, H a = some (.ins C d fs) -> (∀ _ : fs = k.fs, False) -> (upd H b (.ins A.C_Book dx k'.fs)) a = some (.ins C d fs) := fun e hf => (aF (fun c => by
  rw [c, hb] at e
  injection e with e
  injection e with _ _ e
  exact hf e.symm)).trans e
 have nl : ∀ {a : Addr} {xs : List V}, H a = some (.lst xs) -> (upd H b (.ins A.C_Book dx k'.fs)) a = some (.lst xs) := fun e => (aF (fun c => by rw [c, hb] at e; cases e)).trans e
 have nt : ∀ {a : Addr} {xs : List V}, H a = some (.tup xs) -> (upd H b (.ins A.C_Book dx k'.fs)) a = some (.tup xs) := fun e => (aF (fun c => by rw [c, hb] at e; cases e)).trans e
 have nd : ∀ {a : Addr} {xs : List (Key × V)}, H a = some (.dK xs) -> (upd H b (.ins A.C_Book dx k'.fs)) a = some (.dK xs) := fun e => (aF (fun c => by rw [c, hb] at e; cases e)).trans e
 refine ⟨⟨dx, au⟩, ?_, ?_, ?_, ?_, fun t ht => nt (e5 t ht), ?_, ?_, ?_⟩
 ·rw [e1]; obtain ⟨dw, hw⟩ := h.w; exact ⟨dw, ni hw Np⟩
 ·rw [e2, e6, e7]; exact nd h.r
 ·rw [e7, e6, e3]; exact fun c => ⟨nl (h.l c).1, (h.l c).2⟩
 ·rw [e7]
  intro l hl
  obtain ⟨dl, hl'⟩ := h.a l hl
  exact ⟨dl, ni hl' fun c => yM (by decide +kernel) c⟩
 ·rw [e3, e8]; exact nl h.s
 ·rw [e8, e3]
  intro t ht
  obtain ⟨dt, h1⟩ := (h.sa t ht).1.i
  exact ⟨⟨⟨dt, ni h1 fun c => yM (by decide +kernel) c⟩, nl (h.sa t ht).1.p, fun r hr => nt ((h.sa t ht).1.t r hr), (h.sa t ht).1.l⟩, (h.sa t ht).2⟩
 ·rw [e4, e3]; exact ⟨nl h.g.1, h.g.2⟩
theorem Jr {H : Hp} {b x : Addr} {k : BkD} {s : SaleD} (h : BkAt A H b k) (hx : IsSale A H x s) (hp : s.pl ≠ k.sales) : BkAt A (upd H k.sales (.lst (gQ (k.sl ++ [(x, s)])))) b { k with sl := k.sl ++ [(x, s)] } := by
 have f : ∀ a o, a ≠ k.sales -> H a = some o -> (upd H k.sales (.lst (gQ (k.sl ++ [(x, s)])))) a = some o := fun a o c e => (aF c).trans e
 have ni : ∀ {a C dx : Addr} {fs : List (Str × V)}, H a = some (.ins C dx fs) -> (upd H k.sales (.lst (gQ (k.sl ++ [(x, s)])))) a = some (.ins C dx fs) := fun e => f _ _ (fun c => by rw [c, h.s] at e; cases e) e
 have nt : ∀ {a : Addr} {xs : List V}, H a = some (.tup xs) -> (upd H k.sales (.lst (gQ (k.sl ++ [(x, s)])))) a = some (.tup xs) := fun e => f _ _ (fun c => by rw [c, h.s] at e; cases e) e
 have fS : ∀ {y : Addr} {d : SaleD}, IsSale A H y d -> d.pl ≠ k.sales -> IsSale A (upd H k.sales (.lst (gQ (k.sl ++ [(x, s)])))) y d := fun hy c => ⟨let ⟨dx, e⟩ := hy.i; ⟨dx, ni e⟩, f _ _ c hy.p, fun r hr => nt (hy.t r hr), hy.l⟩
 refine ⟨let ⟨dx, e⟩ := h.b; ⟨dx, ni e⟩, let ⟨dx, e⟩ := h.w; ⟨dx, ni e⟩, f _ _ (fun c => by have := h.r; rw [c, h.s] at this; cases this) h.r, fun c => ⟨f _ _ (h.l c).2 (h.l c).1, (h.l c).2⟩, fun l hl => let ⟨dx, e⟩ := h.a l hl; ⟨dx, ni e⟩, fun t ht => nt (h.p t ht), au, fun t ht => ?_, f _ _ h.g.2 h.g.1, h.g.2⟩
 rcases List.mem_append.mp ht with ht | ht
 ·exact ⟨fS (h.sa t ht).1 (h.sa t ht).2, (h.sa t ht).2⟩
 ·rw [List.mem_singleton.mp ht]; exact ⟨fS hx hp, hp⟩
theorem vA (k : BkD) (i : Int) : mZ (Str.ofString "brought") (.int i) k.fs = { k with brought := i }.fs := by cases k; rfl
theorem Cq (k : BkD) (i : Int) : mZ (Str.ofString "paid") (.int i) k.fs = { k with paid := i }.fs := by cases k; rfl
theorem Bk (k : BkD) (t : Option (Addr × Int × Int)) : mZ (Str.ofString "last_place") (wX t) k.fs = { k with last := t }.fs := by cases k; rfl
theorem xP {t u : TS} {D : Ends} {σ : L2.St} {H : Hp} (P : L2.St -> Hp -> Prop) (k : ∀ σ' H', P σ' H' -> u D σ' H') (h : ∀ N : L2.St -> Hp -> Prop, (∀ σ' H', P σ' H' -> N σ' H') -> t { D with nx := N } σ H) : JS t u D σ H := h (u D) k
def dsR (ls : RL) : List LotD := ls.map (·.2)
def hl1 (row : RL) : List (Key × V) := match row with
 | [] => []
 | _ :: _ => [(Sum.inr (Str.ofString "cup"), .int (pcD (dsR row)))]
theorem yh : ∀ {ds : List LotD}, (∀ d ∈ ds, 1 <= d.p) -> (ds.length : Int) <= pcD ds
 | [], _ => Int.le_refl _
 | d :: ds, h => by
  have h1 := yh fun x hx => h x (List.mem_cons_of_mem _ hx)
  have h2 := h d List.mem_cons_self
  show ((ds.length + 1 : Nat) : Int) <= d.p + pcD ds
  omega
theorem Ez {row : RL} (h : ∀ d ∈ dsR row, 1 <= d.p) : Held (hl1 row) := by
 cases row with
 | nil => exact Ft
 | cons r row =>
  refine ⟨fun kv hkv => ⟨_, _, List.mem_singleton.mp hkv, ?_⟩, by simp [hl1]⟩
  have := yh h
  simp [dsR] at this
  unfold dsR
  simp
  omega
theorem Ja {row : RL} : iz (hl1 row) (Str.ofString "cup") = pcD (dsR row) := by
 cases row with
 | nil => rfl
 | cons r row =>
  unfold iz hl1
  rw [gM rfl]
theorem Lf {e : E3} {k : BkD} (h : e.fs = k.fs) : False := by
 cases e with
 | buy => exact yM (by decide +kernel) h
 | gift => exact yM (by decide +kernel) h
 | sell => exact yM (by decide +kernel) h
theorem Le {H : Hp} {b x : Addr} {k : BkD} {e : E3} (h : BkAt A H b k) (hx : IsE3 A H x e) : x ≠ b /\ x ≠ k.rows /\ x ≠ k.sales := by
 obtain ⟨dx, hx⟩ := hx
 refine ⟨fun c => ?_, fun c => (by rw [c, h.r] at hx; cases hx), fun c => (by rw [c, h.s] at hx; cases hx)⟩
 obtain ⟨db, hb⟩ := h.b
 rw [c, hb] at hx
 injection hx with hx
 injection hx with _ _ hx
 exact Lf hx.symm
end
end My
namespace My
open PySem L2 PyProof.Rows
section
variable {P : Program} {w : World} {K : Fg_} {mg : Str -> Option Value} {base : Heap} {A : Adr} {D : Fds}
local macro_rules | `(tactic| walk_at "nx") => `(tactic| ((try dsimp only); rw [ap_seq]; walk_at "rdi"))
def ou (A : Adr) (b : Nat) : Sp := fun vs H Q _ => ∃ (x a : Addr) (e : E3) (kvs : List (Key × V)), e.kd = b /\ vs = [.ref x, .ref a] /\ IsE3 A H x e /\ Rd H a (.dK kvs) /\ Held kvs /\ kvs.length <= 100 /\ (∀ d n w p r f, e = .sell d n w p r f -> p <= iz kvs w) /\
 ∀ p H', Same H H' -> H p = Option.none -> Q (.ref p) H'
theorem jG (T : Txt K mg A D) : FnOk P w K mg base CX0 3 A.Buy_held_behind D.Buy_held_behind ["self", "held"] (ou A 0) := by
 refine T.F_Buy_held_behind.ok jC (fun vs H Q E h => ?_) (fun cdv A' outer s0 H vs Q E hr h => ?_)
 ·obtain ⟨x, a, e, kvs, _, rfl, _⟩ := h; rfl
 ·obtain ⟨x, a, e, kvs, hk, rfl, ⟨dx, hx⟩, ha, hH, hl, _, k⟩ := h
  refine ⟨_, (aA (aR (aK (gB (K := K) T) (hr.mono (by decide)) (by rfl) T.m_held_with_more T.k_held_with_more (gY T) .nil aP (aj (pv 1) (aj (aB (K := K) (pv 0) rfl) (aj (aB (K := K) (pv 0) rfl) aq)))))), ?_⟩
  cases e with
  | buy d n w p r f =>
   walk_at "rda"
   exact ⟨_, dx, _, hx, T.cl_Buy, T.n_Buy_ware, _, by rfl, _, dx, _, hx, T.cl_Buy, T.n_Buy_pieces, _, by rfl, a, kvs, w, p, rfl, ha, hH, hl, fun q H' s h1 h2 => k q H' s h1⟩
  | _ => cases hk
theorem iZ (T : Txt K mg A D) : FnOk P w K mg base CX0 3 A.Gift_held_behind D.Gift_held_behind ["self", "held"] (ou A 1) := by
 refine T.F_Gift_held_behind.ok je (fun vs H Q E h => ?_) (fun cdv A' outer s0 H vs Q E hr h => ?_)
 ·obtain ⟨x, a, e, kvs, _, rfl, _⟩ := h; rfl
 ·obtain ⟨x, a, e, kvs, hk, rfl, ⟨dx, hx⟩, ha, hH, hl, _, k⟩ := h
  refine ⟨_, (aA (aR (aK (gB (K := K) T) (hr.mono (by decide)) (by rfl) T.m_held_with_more T.k_held_with_more (gY T) .nil aP (aj (pv 1) (aj (aB (K := K) (pv 0) rfl) (aj (aB (K := K) (pv 0) rfl) aq)))))), ?_⟩
  cases e with
  | gift d n w p c s =>
   walk_at "rda"
   exact ⟨_, dx, _, hx, T.cl_Gift, T.n_Gift_ware, _, by rfl, _, dx, _, hx, T.cl_Gift, T.n_Gift_pieces, _, by rfl, a, kvs, w, p, rfl, ha, hH, hl, fun q H' s h1 h2 => k q H' s h1⟩
  | _ => cases hk
theorem jf (T : Txt K mg A D) : FnOk P w K mg base CX0 3 A.Sell_held_behind D.Sell_held_behind ["self", "held"] (ou A 2) := by
 refine T.F_Sell_held_behind.ok jd (fun vs H Q E h => ?_) (fun cdv A' outer s0 H vs Q E hr h => ?_)
 ·obtain ⟨x, a, e, kvs, _, rfl, _⟩ := h; rfl
 ·obtain ⟨x, a, e, kvs, hk, rfl, ⟨dx, hx⟩, ha, hH, hl, hs, k⟩ := h
  refine ⟨_, (aA (aR (aK (jx (K := K) T) (hr.mono (by decide)) (by rfl) T.m_held_with_fewer T.k_held_with_fewer (jP T) .nil aP (aj (pv 1) (aj (aB (K := K) (pv 0) rfl) (aj (aB (K := K) (pv 0) rfl) aq)))))), ?_⟩
  cases e with
  | sell d n w p r f =>
   have hp := hs d n w p r f rfl
   walk_at "rda"
   exact ⟨_, dx, _, hx, T.cl_Sell, T.n_Sell_ware, _, by rfl, _, dx, _, hx, T.cl_Sell, T.n_Sell_pieces, _, by rfl, a, kvs, w, p, rfl, ha, hH, hl, fun c => absurd c (by omega), fun _ q H' s h1 h2 => k q H' s h1⟩
  | _ => cases hk
def lA (A : Adr) : Sp := fun vs H Q _ => ∃ (x w : Addr) (B : Hp) (dx dw : Addr), vs = [.ref x, .ref w] /\ New B H x A.C_Book dx [] /\ H w = some (.ins A.C_Eldest dw []) /\ w ≠ x /\ ∀ H' k, Same B H' -> BkAt A H' x k -> B k.rows = Option.none -> B k.sales = Option.none -> k.row = [] -> k.last = Option.none -> k.sl = [] -> Q .non H'
theorem lQ (T : Txt K mg A D) : FnOk P w K mg base CX0 1 A.Book___init__ D.Book___init__ ["self", "way"] (lA A) := by
 refine T.F_Book___init__.ok lV (fun vs H Q E h => ?_) (fun cdv A' outer s0 H vs Q E hr h => ?_)
 ·obtain ⟨x, w, B, dx, dw, rfl, _⟩ := h; rfl
 ·obtain ⟨x, w, B, dx, dw, rfl, hN, hw, hwx, k⟩ := h
  refine ⟨_, (ao (aY (K := K) (pv 0) (pv 1) rfl)
   (ao (aY (K := K) (pv 0) Fp rfl)
   (ao (aY (K := K) (pv 0) fM rfl)
   (ao (aY (K := K) (pv 0) aG rfl)
   (ao (aY (K := K) (pv 0) aG rfl)
   (ao (aY (K := K) (pv 0) (cY aq) rfl)
   (aA (aY (K := K) (pv 0) (cY aq) rfl)))))))), ?_⟩
  walk_at "rda"
  refine ⟨_, dx, _, hN.h, T.cl_Book, T.n_Book_way, by decide, fun pr hpr => ?_⟩
  rw [iJ _ _ (by decide +kernel)] at hpr ⊢
  have hN := (hN.put (gs := [] ++ [(Str.ofString "way", V.ref w)]) rfl)
  have hw := (aF (o := HO.ins A.C_Book dx ([] ++ [(Str.ofString "way", V.ref w)])) hwx).trans hw
  have hprn := hN.s.free hpr
  have hxr : pr ≠ x := fun e => by rw [e, hN.h] at hpr; cases hpr
  have hN := hN.same (Same.new (o := .dK []) hpr)
  have hw := Same.new (o := .dK []) hpr _ _ hw
  have hr : (upd (upd H x (HO.ins A.C_Book dx ([] ++ [(Str.ofString "way", V.ref w)]))) pr (HO.dK [])) pr = some (.dK []) := au
  generalize upd (upd H x (HO.ins A.C_Book dx ([] ++ [(Str.ofString "way", V.ref w)]))) pr (HO.dK []) = H2 at hN hr hw ⊢
  refine ⟨_, dx, _, hN.h, T.cl_Book, T.n_Book_rows, by simp, ?_⟩
  rw [bx (f := Str.ofString "rows") ["way"] (by rfl) (by decide +kernel)]
  have hN := hN.put (gs := ([] ++ [(Str.ofString "way", V.ref w)]) ++ [(Str.ofString "rows", V.ref pr)]) rfl
  have hk : ∀ {a : Addr} {o u : HO}, a ≠ x -> H2 a = some o -> (upd H2 x u) a = some o := fun c e => (aF c).trans e
  have hr := hk (u := HO.ins A.C_Book dx (([] ++ [(Str.ofString "way", V.ref w)]) ++ [(Str.ofString "rows", V.ref pr)])) hxr hr
  have hw := hk (u := HO.ins A.C_Book dx (([] ++ [(Str.ofString "way", V.ref w)]) ++ [(Str.ofString "rows", V.ref pr)])) hwx hw
  generalize upd H2 x _ = H3 at hN hr hw ⊢
  refine ⟨_, dx, _, hN.h, T.cl_Book, T.n_Book_last_place, by simp, ?_⟩
  rw [bx (f := Str.ofString "last_place") ["way", "rows"] (by rfl) (by decide +kernel)]
  have hN := hN.put (gs := (([] ++ [(Str.ofString "way", V.ref w)]) ++ [(Str.ofString "rows", V.ref pr)]) ++ [(Str.ofString "last_place", V.non)]) rfl
  have hk : ∀ {a : Addr} {o u : HO}, a ≠ x -> H3 a = some o -> (upd H3 x u) a = some o := fun c e => (aF c).trans e
  have hr := hk (u := HO.ins A.C_Book dx ((([] ++ [(Str.ofString "way", V.ref w)]) ++ [(Str.ofString "rows", V.ref pr)]) ++ [(Str.ofString "last_place", V.non)])) hxr hr
  have hw := hk (u := HO.ins A.C_Book dx ((([] ++ [(Str.ofString "way", V.ref w)]) ++ [(Str.ofString "rows", V.ref pr)]) ++ [(Str.ofString "last_place", V.non)])) hwx hw
  generalize upd H3 x _ = H4 at hN hr hw ⊢
  refine ⟨_, dx, _, hN.h, T.cl_Book, T.n_Book_paid, by simp, ?_⟩
  rw [bx (f := Str.ofString "paid") ["way", "rows", "last_place"] (by rfl) (by decide +kernel)]
  have hN := hN.put (gs := ((([] ++ [(Str.ofString "way", V.ref w)]) ++ [(Str.ofString "rows", V.ref pr)]) ++ [(Str.ofString "last_place", V.non)]) ++ [(Str.ofString "paid", V.int 0)]) rfl
  have hk : ∀ {a : Addr} {o u : HO}, a ≠ x -> H4 a = some o -> (upd H4 x u) a = some o := fun c e => (aF c).trans e
  have hr := hk (u := HO.ins A.C_Book dx (((([] ++ [(Str.ofString "way", V.ref w)]) ++ [(Str.ofString "rows", V.ref pr)]) ++ [(Str.ofString "last_place", V.non)]) ++ [(Str.ofString "paid", V.int 0)])) hxr hr
  have hw := hk (u := HO.ins A.C_Book dx (((([] ++ [(Str.ofString "way", V.ref w)]) ++ [(Str.ofString "rows", V.ref pr)]) ++ [(Str.ofString "last_place", V.non)]) ++ [(Str.ofString "paid", V.int 0)])) hwx hw
  generalize upd H4 x _ = H5 at hN hr hw ⊢
  refine ⟨_, dx, _, hN.h, T.cl_Book, T.n_Book_brought, by simp, ?_⟩
  rw [bx (f := Str.ofString "brought") ["way", "rows", "last_place", "paid"] (by rfl) (by decide +kernel)]
  have hN := hN.put (gs := (((([] ++ [(Str.ofString "way", V.ref w)]) ++ [(Str.ofString "rows", V.ref pr)]) ++ [(Str.ofString "last_place", V.non)]) ++ [(Str.ofString "paid", V.int 0)]) ++ [(Str.ofString "brought", V.int 0)]) rfl
  have hk : ∀ {a : Addr} {o u : HO}, a ≠ x -> H5 a = some o -> (upd H5 x u) a = some o := fun c e => (aF c).trans e
  have hr := hk (u := HO.ins A.C_Book dx ((((([] ++ [(Str.ofString "way", V.ref w)]) ++ [(Str.ofString "rows", V.ref pr)]) ++ [(Str.ofString "last_place", V.non)]) ++ [(Str.ofString "paid", V.int 0)]) ++ [(Str.ofString "brought", V.int 0)])) hxr hr
  have hw := hk (u := HO.ins A.C_Book dx ((((([] ++ [(Str.ofString "way", V.ref w)]) ++ [(Str.ofString "rows", V.ref pr)]) ++ [(Str.ofString "last_place", V.non)]) ++ [(Str.ofString "paid", V.int 0)]) ++ [(Str.ofString "brought", V.int 0)])) hwx hw
  generalize upd H5 x _ = H6 at hN hr hw ⊢
  refine ⟨by rw [sizeLine_eq]; decide, fun ps hps => ?_⟩
  have hxs : ps ≠ x := fun e => by rw [e, hN.h] at hps; cases hps
  have hpsn := hN.s.free hps
  have hN := hN.same (Same.new (o := .lst []) hps)
  have hr := Same.new (o := .lst []) hps _ _ hr
  have hw := Same.new (o := .lst []) hps _ _ hw
  have hs : (upd H6 ps (.lst [])) ps = some (.lst []) := au
  generalize upd H6 ps (HO.lst []) = H7 at hN hr hs hw ⊢
  refine ⟨_, dx, _, hN.h, T.cl_Book, T.n_Book_sales_done, by simp, ?_⟩
  rw [bx (f := Str.ofString "sales_done") ["way", "rows", "last_place", "paid", "brought"] (by rfl) (by decide +kernel)]
  have hN := hN.put (gs := ((((([] ++ [(Str.ofString "way", V.ref w)]) ++ [(Str.ofString "rows", V.ref pr)]) ++ [(Str.ofString "last_place", V.non)]) ++ [(Str.ofString "paid", V.int 0)]) ++ [(Str.ofString "brought", V.int 0)]) ++ [(Str.ofString "sales_done", V.ref ps)]) rfl
  have hk : ∀ {a : Addr} {o u : HO}, a ≠ x -> H7 a = some o -> (upd H7 x u) a = some o := fun c e => (aF c).trans e
  have hr := hk (u := HO.ins A.C_Book dx (((((([] ++ [(Str.ofString "way", V.ref w)]) ++ [(Str.ofString "rows", V.ref pr)]) ++ [(Str.ofString "last_place", V.non)]) ++ [(Str.ofString "paid", V.int 0)]) ++ [(Str.ofString "brought", V.int 0)]) ++ [(Str.ofString "sales_done", V.ref ps)])) hxr hr
  have hs := hk (u := HO.ins A.C_Book dx (((((([] ++ [(Str.ofString "way", V.ref w)]) ++ [(Str.ofString "rows", V.ref pr)]) ++ [(Str.ofString "last_place", V.non)]) ++ [(Str.ofString "paid", V.int 0)]) ++ [(Str.ofString "brought", V.int 0)]) ++ [(Str.ofString "sales_done", V.ref ps)])) hxs hs
  have hw := hk (u := HO.ins A.C_Book dx (((((([] ++ [(Str.ofString "way", V.ref w)]) ++ [(Str.ofString "rows", V.ref pr)]) ++ [(Str.ofString "last_place", V.non)]) ++ [(Str.ofString "paid", V.int 0)]) ++ [(Str.ofString "brought", V.int 0)]) ++ [(Str.ofString "sales_done", V.ref ps)])) hwx hw
  generalize upd H7 x _ = H8 at hN hr hs hw ⊢
  refine ⟨by rw [sizeLine_eq]; decide, fun pg hpg => ?_⟩
  have hxg : pg ≠ x := fun e => by rw [e, hN.h] at hpg; cases hpg
  have hgs : pg ≠ ps := fun e => by rw [e, hs] at hpg; cases hpg
  have hN := hN.same (Same.new (o := .lst []) hpg)
  have hr := Same.new (o := .lst []) hpg _ _ hr
  have hs := Same.new (o := .lst []) hpg _ _ hs
  have hw := Same.new (o := .lst []) hpg _ _ hw
  have hg : (upd H8 pg (.lst [])) pg = some (.lst []) := au
  generalize upd H8 pg (HO.lst []) = H9 at hN hr hs hg hw ⊢
  refine ⟨_, dx, _, hN.h, T.cl_Book, T.n_Book_givings_done, by simp, ?_⟩
  rw [bx (f := Str.ofString "givings_done") ["way", "rows", "last_place", "paid", "brought", "sales_done"] (by rfl) (by decide +kernel)]
  exact k _ ⟨w, pr, ps, pg, pg, [], Option.none, 0, 0, []⟩ (hN.s.upd hN.n) ⟨⟨dx, au⟩, ⟨dw, (aF hwx).trans hw⟩, (aF hxr).trans hr, fun c => (c rfl).elim, fun l h => (List.not_mem_nil h).elim, fun t h => (by cases h), (aF hxs).trans hs, fun t h => (List.not_mem_nil h).elim, (aF hxg).trans hg, hgs⟩ hprn hpsn rfl rfl rfl
def qp (A : Adr) : Sp := fun vs H Q _ => ∃ (b : Addr) (k : BkD), vs = [.ref b, .str (Str.ofString "cup")] /\ BkAt A H b k /\ ∀ l H', Same H H' -> H l = Option.none -> H' l = some (.lst (aQ k.row)) -> LotAt A H' k.row -> Q (.ref l) H'
theorem fY (T : Txt K mg A D) : FnOk P w K mg base CX0 1 A.Book_row_of D.Book_row_of ["self", "ware"] (qp A) := by
 refine T.F_Book_row_of.ok qe (fun vs H Q E h => ?_) (fun cdv A' outer s0 H vs Q E hr h => ?_)
 ·obtain ⟨b, k, rfl, _⟩ := h; rfl
 ·obtain ⟨b, kb, rfl, hB, k⟩ := h
  refine ⟨_, (aA (aR (bB (iR (K := K)) (by rfl) T.b_list (by decide +kernel) (aj (rm (wV hr) (aB (K := K) (pv 0) rfl) (pv 1) (cY aq) ⟨rfl, rfl, rfl, rfl⟩) aq)))), ?_⟩
  walk_at "rda"
  obtain ⟨dx, hb⟩ := hB.b
  refine ⟨_, dx, _, hb, T.cl_Book, T.n_Book_rows, _, by rfl, kb.rows, rfl, .inl ⟨_, .inl hB.r⟩, by rw [sizeLine_eq]; decide, fun p hp => ?_⟩
  have s1 := Same.new (o := .lst []) hp
  refine ⟨_, .inl ⟨_, Sum.inr (Str.ofString "cup"), .inl (s1 _ _ hB.r), rfl, rfl⟩, ?_⟩
  have hl := hB.l
  have ha := hB.a
  rw [CV]
  cases hrow : kb.row with
  | nil =>
   rw [hrow] at k
   show oG K [.ref p] _ Q
   rw [ap_rListOf]
   exact ⟨_, .inl (SqL.of au), fun l hl => k l _ (s1.trans (Same.new hl)) (s1.free hl) au fun l h => (List.not_mem_nil h).elim⟩
  | cons r rs =>
   have g1 := (hl (by rw [hrow]; exact List.cons_ne_nil _ _)).1
   show oG K [.ref kb.q] _ Q
   rw [ap_rListOf]
   refine ⟨_, .inl (SqL.of (s1 _ _ g1)), fun l hl => ?_⟩
   have s2 := s1.trans (Same.new (o := .lst (aQ kb.row)) hl)
   exact k l _ s2 (s1.free hl) au (ha.same s2)
def vD (A : Adr) : Sp := fun vs H Q _ => ∃ (b : Addr) (k : BkD), vs = [.ref b] /\ BkAt A H b k /\ k.row.length <= 100 /\ ∀ p H', Same H H' -> H p = Option.none -> H' p = some (.dK (hl1 k.row)) -> Q (.ref p) H'
theorem lw (T : Txt K mg A D) : FnOk P w K mg base CX0 2 A.Book_held D.Book_held ["self"] (vD A) := by
 refine T.F_Book_held.ok uJ (fun vs H Q E h => ?_) (fun cdv A' outer s0 H vs Q E hr h => ?_)
 ·obtain ⟨b, k, rfl, _⟩ := h; rfl
 ·obtain ⟨b, kb, rfl, hB, hlen0, k⟩ := h
  refine ⟨_, (aA (aR (HB (bB (fQ (K := K) rfl) (by rfl) T.b_dict (by decide +kernel) (aj (bI (cap := [Option.none, Option.none]) (N' := ["ware", "row"]) rfl (by walk_at "compok") (yd (wW (K := K) PySem.F.plainAttrs_dict PySem.F.slot_dict_items PySem.F.type_dict_items xR (aB (K := K) (pv 0) rfl))) (fun _ _ _ _ => (gW (K := K) (n := 2) rfl (aU (aH (i := 0) (show (["ware", "row"] : List Str).Nodup from by decide +kernel) rfl (Or.inl rfl) (Or.inr rfl)) (aU (aH (i := 1) (show (["ware", "row"] : List Str).Nodup from by decide +kernel) rfl (Or.inl rfl) (Or.inr rfl)) fW)))) (fun _ _ _ _ => bH) (fun _ _ _ _ => (gK (aj (pv 0) (aj (aK (lq (K := K) T) (hr.mono (by decide)) (by rfl) T.m_pieces_in T.k_pieces_in (nQ T) .nil aP (aj (pv 1) aq)) aq))))) aq))))), ?_⟩
  walk_at "rda"
  obtain ⟨dx, hb⟩ := hB.b
  refine ⟨_, dx, _, hb, T.cl_Book, T.n_Book_rows, .ref kb.rows, by rfl, .inr (.inr (.inl ⟨rfl, .inl ⟨_, hB.r⟩⟩)), ?_⟩
  refine ⟨_, _, rfl, rfl, hB.r, fun v hv => ⟨v, rfl, kb.rows, au, kv1 kb.q kb.row, (aF (aN hB.r hv)).trans hB.r, fun o => ?_⟩⟩
  have h3 : (upd (upd H v (mF v kb.rows)) kb.rows (.frz o (.dK (kv1 kb.q kb.row)))) kb.rows = some (.frz o (.dK (kv1 kb.q kb.row))) := au
  have o3 : ∀ a o', a ≠ kb.rows -> H a = some o' -> (upd (upd H v (mF v kb.rows)) kb.rows (.frz o (.dK (kv1 kb.q kb.row)))) a = some o' := fun a o' hne h => (aF hne).trans (Same.new hv _ _ h)
  generalize upd (upd H v (mF v kb.rows)) kb.rows (.frz o (.dK (kv1 kb.q kb.row))) = H3 at h3 o3 ⊢
  have nr : ∀ {a : Addr} {o' : HO}, H a = some o' -> (∀ kv, o' ≠ .dK kv) -> H3 a = some o' := fun e c => o3 _ _ (fun z => by rw [z, hB.r] at e; exact c _ (Option.some.inj e).symm) e
  have hkl : (kv1 kb.q kb.row).length <= 1 := Bq _ _
  have hhl : (hl1 kb.row).length = (kv1 kb.q kb.row).length := by cases kb.row <;> rfl
  refine CompP.itemsF (fun σ => ∃ a b, σ = [a, b]) (fun _ => true) (fun kv v H' => ∃ b, v = .ref b /\ H' b = some (.tup [kV kv.1, .int (pcD (dsR kb.row))])) h3 ⟨_, _, rfl⟩ (by rw [sizeLine_eq]; omega) ?_ ?_
  ·rintro D i kv hkv σ H5 p R1 R2 ⟨_, _, rfl⟩ s5 hD ⟨acc, hA⟩ hp k1 k2
   obtain ⟨hne, rfl⟩ : kb.row ≠ [] /\ kv = (Sum.inr (Str.ofString "cup"), .ref kb.q) := by
    cases e : kb.row with
    | nil => rw [e] at hkv; cases hkv
    | cons r rs =>
     rw [e] at hkv
     refine ⟨List.cons_ne_nil _ _, ?_⟩
     have := List.mem_of_getElem? hkv
     exact List.mem_singleton.mp this
   have hq := s5 _ _ (nr (hB.l hne).1 fun _ c => by cases c)
   have hL5 : LotAt A H5 kb.row := fun l hl => let ⟨dl, e⟩ := hB.a l hl; ⟨dl, s5 _ _ (nr e fun _ c => by cases c)⟩
   have s6 := Same.new (o := .tup [kV (Sum.inr (Str.ofString "cup")), .ref kb.q]) hp
   have h6 : (upd H5 p (.tup [kV (Sum.inr (Str.ofString "cup")), .ref kb.q])) p = some (.tup [.str (Str.ofString "cup"), .ref kb.q]) := au
   have hA6 := s6 _ _ hA
   have hq6 := s6 _ _ hq
   have hL6 := hL5.same s6
   generalize upd H5 p (.tup [kV (Sum.inr (Str.ofString "cup")), .ref kb.q]) = H6 at h6 hA6 hq6 hL6 k1 k2 ⊢
   walk_at "rdi"
   refine ⟨_, SqT.of h6, rfl, _, _, rfl, _, _, rfl, rfl, kb.q, kb.row, rfl, hq6, hL6, hlen0, fun H7 s7 => ?_⟩
   exact ⟨by rw [sizeLine_eq]; decide, fun u hu => k1 rfl _ _ _ ⟨_, _, rfl⟩ (s7.trans (Same.new hu)) fun H' hb => ⟨u, rfl, hb _ _ (fun e => by rw [e, s7 _ _ hA6] at hu; cases hu) au⟩⟩
  ·intro D H4 acc hD s4 hA hlen hF
   rw [show (kv1 kb.q kb.row).filter (fun _ => true) = kv1 kb.q kb.row from List.filter_eq_self.mpr fun _ _ => rfl] at hlen hF
   have hF' : ∀ (i : Nat) v, acc[i]? = some v -> ∃ kv, (hl1 kb.row)[i]? = some kv /\ ∃ b, v = .ref b /\ H4 b = some (.tup [kV kv.1, kv.2]) := fun i v hv => by
    obtain ⟨kv, h1, b, h2, h4⟩ := hF i v hv
    cases e : kb.row with
    | nil => rw [e] at h1; cases h1
    | cons r rs =>
     rw [e] at h1 h4
     have hi : i = 0 := by
      have := (List.getElem?_eq_some_iff.mp h1).1
      have h5 : (kv1 kb.q (r :: rs)).length = 1 := rfl
      omega
     subst hi
     cases h1
     exact ⟨_, rfl, b, h2, h4⟩
   have hu : ((hl1 kb.row).map (·.1)).Nodup := by cases kb.row <;> simp [hl1]
   rw [ap_dictPairs]
   refine ⟨acc, kfD H4, vfD H4, SqL.of hA, by omega, fun y hy => ?_, fun p hp => ?_⟩
   ·obtain ⟨i, hi, e⟩ := List.getElem_of_mem hy
    obtain ⟨kv, _, b, rfl, hb⟩ := hF' i y (by rw [List.getElem?_eq_getElem hi, e])
    exact ⟨b, rfl, by rw [CT hb, Az hb]; exact SqT.of hb⟩
   ·rw [Ck (by omega) hF' hu]
    have s5 := s4.trans (Same.new (o := .dK (hl1 kb.row)) hp)
    have hpr : p ≠ kb.rows := fun e => by rw [e, s4 _ _ h3] at hp; cases hp
    have hpH : H p = Option.none := by
     cases e : H p with
     | none => rfl
     | some o' => rw [s4 _ _ (o3 _ _ hpr e)] at hp; cases hp
    refine ⟨kb.rows, o, kv1 kb.q kb.row, s5 _ _ h3, fun o u e => ?_, k p _ (fun a o' h => ?_) hpH ((aF hpr).trans au)⟩
    ·have e : H kb.rows = some (.frz o u) := e
     rw [hB.r] at e
     cases e
    ·by_cases c : a = kb.rows
     ·rw [c, hB.r] at h
      rw [c, au]
      exact h
     ·rw [aF c]
      exact s5 _ _ (o3 _ _ c h)
def lW (A : Adr) : Sp := fun vs H Q _ => ∃ (b q : Addr) (k : BkD) (ls : RL), vs = [.ref b, .str (Str.ofString "cup"), .ref q] /\ BkAt A H b k /\ H q = some (.lst (aQ ls)) /\ LotAt A H ls /\ q ≠ k.sales /\ (ls = [] -> k.row ≠ []) /\
 ∀ H', Off3 b k.rows k.sales H H' -> BkAt A H' b { k with row := ls, q := q } -> Q .non H'
theorem ir (T : Txt K mg A D) : FnOk P w K mg base CX0 1 A.Book_keep_row D.Book_keep_row ["self", "ware", "row"] (lW A) := by
 refine T.F_Book_keep_row.ok lF (fun vs H Q E h => ?_) (fun cdv A' outer s0 H vs Q E hr h => ?_)
 ·obtain ⟨b, q, k, ls, rfl, _⟩ := h; rfl
 ·obtain ⟨b, q, kb, ls, rfl, hB, hq, hL, hs, hne, k⟩ := h
  refine ⟨_, (aA (fL (bj (vH) (aV (jt (K := K)) (by rfl) T.b_len (by decide +kernel) (aj (pv 2) aq)) aG (bC _)) (aA (wA (wV hr) (aB (K := K) (pv 0) rfl) (pv 1) (pv 2) rfl)) (aA (aW (Eg (aB (K := K) (pv 0) rfl) (pv 1) fM ⟨rfl, rfl, rfl, rfl⟩))))), ?_⟩
  walk_at "rda"
  obtain ⟨dx, hb⟩ := hB.b
  refine ⟨_, .inl (SqL.of hq), ?_⟩
  rw [aJ]
  have hkl : (kv1 kb.q kb.row).length <= 1 := Bq _ _
  by_cases hl : ls = []
  ·rw [if_neg (by rw [hl]; decide)]
   unfold GC
   walk_at "rdi"
   refine ⟨_, dx, _, hb, T.cl_Book, T.n_Book_rows, _, by rfl, kb.rows, rfl, .inl ⟨_, .inl hB.r⟩, _, hB.r, Sum.inr (Str.ofString "cup"), rfl, fun v hv => ?_, fun hn => ?_⟩
   ·rw [Gm]
    have h1 := Gu hB (p := q) (ls := ls) (fun c => (c hl).elim) hL
    rw [hl] at h1 k
    exact k _ Off3.r h1
   ·rw [CV] at hn
    cases e : kb.row with
    | nil => exact (hne hl e).elim
    | cons r rs => rw [e] at hn; cases hn
  ·have hl0 : 0 < ls.length := List.length_pos_iff.mpr hl
   rw [if_pos (by omega)]
   refine ⟨_, dx, _, hb, T.cl_Book, T.n_Book_rows, _, by rfl, kb.rows, rfl, _, DPut.k (k := Sum.inr (Str.ofString "cup")) hB.r (by rw [sizeLine_eq]; omega), ?_⟩
   rw [Iv hl]
   exact k _ Off3.r (Gu hB (fun _ => ⟨hq, hs⟩) hL)
def xu (A : Adr) : Sp := fun vs H Q _ => ∃ (b q x : Addr) (k : BkD) (d : LotD), vs = [.ref b, .str (Str.ofString "cup"), .ref q] /\ BkAt A H b k /\ H q = some (.lst [.ref x]) /\ IsLot A H x d /\ k.row.length <= 60 /\ ((dsR k.row).map LotD.n).Nodup /\ d.n ∉ (dsR k.row).map LotD.n /\ (dsR k.row).Pairwise Bef /\
 ∀ q' ls H', Off3 b k.rows k.sales H H' -> BkAt A H' b { k with row := ls, q := q' } -> dsR ls = xV d (dsR k.row) -> Q .non H'
theorem nW (T : Txt K mg A D) : FnOk P w K mg base CX0 5 A.Book_put D.Book_put ["self", "ware", "lots"] (xu A) := by
 refine T.F_Book_put.ok sc_Book_put (fun vs H Q E h => ?_) (fun cdv A' outer s0 H vs Q E hr h => ?_)
 ·obtain ⟨b, q, x, k, d, rfl, _⟩ := h; rfl
 ·obtain ⟨b, q, x, kb, d, rfl, hB, hq, hx, hl, hu, hn, hbf, k⟩ := h
  refine ⟨_, (ao (aO (i := 3) sc_Book_put.nd rfl (Or.inl rfl) (bJ (pv 0) (.cons T.cl_Book T.me_Book_row_of (fY (K := K) T) (hr.mono (by decide)) (gR T) .nil) aP (aj (pv 1) aq)))
   (ao (jg PassesOwn.never rfl (aZ (K := K) (pv 2)) (aH (i := 4) sc_Book_put.nd rfl (Or.inl rfl))
    (aA (aO (i := 3) sc_Book_put.nd rfl (Or.inl rfl) (aK (wj (K := K) T) (hr.mono (by decide)) (by rfl) T.m_row_with T.k_row_with (yO T) .nil aP (aj (pv 3) (aj (pv 4) aq))))))
   (aA (aW (bJ (pv 0) (.cons T.cl_Book T.me_Book_keep_row (ir (K := K) T) (hr.mono (by decide)) (iC T) .nil) aP (aj (pv 1) (aj (pv 3) aq))))))), ?_⟩
  simp only [start_eq]
  walk_at "nx"
  obtain ⟨dx, hb⟩ := hB.b
  have e1 : ∀ xs : RL, xs.map (·.2.n) = (dsR xs).map LotD.n := fun xs => by unfold dsR; rw [List.map_map]; rfl
  refine ⟨_, dx, _, hb, _, List.mem_cons_self, by rfl, b, kb, rfl, hB, fun r H1 s1 hr1 hr2 hr3 => ?_⟩
  try dsimp only
  rw [ap_seq, ap_for]
  walk_at "rdi"
  have hq1 := s1 _ _ hq
  have hB1 := hB.same s1
  have hx1 := hx.same s1
  refine ⟨⟨_, SqL.of hq1⟩, ?_⟩
  refine ForP.list (K := K) (a := q) (xs := [.ref x]) (fun i σ H2 => ∃ (r' : Addr) (v4 : Option V), σ = [some (.ref b), some (.str (Str.ofString "cup")), some (.ref q), some (.ref r'), v4] /\ Same H1 H2 /\ ((i = 0 /\ r' = r) \/ (i = 1 /\ H1 r' = Option.none /\ ∃ ls : RL, H2 r' = some (.lst (aQ ls)) /\ LotAt A H2 ls /\ dsR ls = xV d (dsR kb.row))))
   ⟨r, _, rfl, Same.refl _, .inl ⟨rfl, rfl⟩⟩ (fun i σ H2 _ ⟨_, _, _, s, _⟩ => s.seq (SqL.of hq1)) ?_ ?_
  ·rintro i y σ H2 hi ⟨r', v4, rfl, s2, hc⟩
   have hi0 : i = 0 := by
    have := (List.getElem?_eq_some_iff.mp hi).1
    simpa using this
   subst hi0
   cases hi
   rcases hc with ⟨_, rfl⟩ | ⟨h, _⟩
   ·walk_at "rdi"
    refine ⟨r', x, kb.row, d, rfl, s2 _ _ hr2, hr3.same s2, hx1.same s2, hl, by rw [e1]; exact hu, fun l ls' H3 s3 hl3 h3 hL3 _ hh => ?_⟩
    obtain ⟨p1, p2⟩ := hh (by rw [e1]; exact hn)
    exact ⟨l, rfl, s2.trans s3, .inr ⟨s2.free hl3, ls', h3, hL3, GP p1 (p2.imp fun {a b} h => Io h) hbf hn⟩⟩
   ·cases h
  ·rintro σ H2 ⟨r', v4, rfl, s2, hc⟩
   rcases hc with ⟨h, _⟩ | ⟨_, hrn, ls, h3, hL3, p1⟩
   ·cases h
   ·have hB2 := hB1.same s2
    obtain ⟨dx2, hb2⟩ := hB2.b
    try dsimp only
    walk_at "rdi"
    have hlen : ls.length = kb.row.length + 1 := by
     have h1 := congrArg List.length p1
     rw [(jF d (dsR kb.row)).length_eq, List.length_append] at h1
     unfold dsR at h1
     rw [List.length_map, List.length_map] at h1
     exact h1
    refine ⟨_, dx2, _, hb2, _, List.mem_cons_self, by rfl, b, r', kb, ls, rfl, hB2, h3, hL3, fun e => (by rw [e, hB1.s] at hrn; cases hrn), fun e => (by rw [e] at hlen; simp at hlen), fun H4 o4 hB4 => ?_⟩
    exact k r' ls H4 ((Off3.of (s1.trans s2)).trans o4) hB4 p1
def qI : Sp := fun vs H Q _ => ∃ b x : Addr, vs = [.ref b, .ref x] /\ Q (.int 0) H
theorem qj (T : Txt K mg A D) : FnOk P w K mg base CX0 1 A.Book_lay_on D.Book_lay_on ["self", "entry"] qI := by
 refine T.F_Book_lay_on.ok qi (fun vs H Q E h => ?_) (fun cdv A' outer s0 H vs Q E hr h => ?_)
 ·obtain ⟨b, x, rfl, _⟩ := h; rfl
 ·obtain ⟨b, x, rfl, k⟩ := h
  refine ⟨_, (aA (aR aG)), ?_⟩
  walk_at "rda"
  exact k
structure Can3 (k : BkD) (e : E3) (m : Nat) : Prop where
 g : e.good
 w : e.ware = Str.ofString "cup"
 r : RowG m (dsR k.row)
 le : m <= 60
 n : e.num = m
 v : okS (dsR k.row) e
 sl : k.sl.length <= 60
def gnS (sl : List (Addr × SaleD)) : List (Int × Int) := sl.map fun t => t.2.gn
def Nxt (k k' : BkD) (e : E3) : Prop := k'.rows = k.rows /\ k'.sales = k.sales /\ (dsR k'.row, gnS k'.sl) = stE (dsR k.row, gnS k.sl) e
def Ik (A : Adr) (b : Nat) : Sp := fun vs H Q _ => ∃ (bk x : Addr) (k : BkD) (e : E3) (m : Nat), e.kd = b /\ vs = [.ref bk, .ref x] /\ BkAt A H bk k /\ IsE3 A H x e /\ Can3 k e m /\
 ∀ k' H', Off3 bk k.rows k.sales H H' -> BkAt A H' bk k' -> Nxt k k' e -> Q .non H'
theorem Kg {k : BkD} {e : E3} {m : Nat} (h : Can3 k e m) (hk : e.kd ≠ 2) : e.lot.n ∉ (dsR k.row).map LotD.n := fun hm => by
 obtain ⟨d, hd, c⟩ := List.mem_map.mp hm
 have h1 := (h.r.g d hd).1
 have h2 := (Ba h.g hk).1
 have h3 := h.n
 omega
theorem rC {k : BkD} {m : Nat} (h : RowG m (dsR k.row)) : k.row.length <= m := by
 have := h.l
 unfold dsR at this
 rwa [List.length_map] at this
theorem nj (T : Txt K mg A D) : FnOk P w K mg base CX0 6 A.Book_do_gift D.Book_do_gift ["self", "entry"] (Ik A 1) := by
 refine T.F_Book_do_gift.ok mR (fun vs H Q E h => ?_) (fun cdv A' outer s0 H vs Q E hr h => ?_)
 ·obtain ⟨bk, x, k, e, m, _, rfl, _⟩ := h; rfl
 ·obtain ⟨bk, x, kb, e, m, hk, rfl, hB, ⟨dx, hx⟩, hC, k⟩ := h
  cases e with
  | buy => cases hk
  | sell => cases hk
  | gift d n w p c s =>
   have hw := hC.w
   have hnn := Kg hC (fun c => by cases c)
   cases hw
   refine ⟨_, (ao (aW (bJ (pv 0) (.cons T.cl_Book T.me_Book_put (nW (K := K) T) (hr.mono (by decide)) (qX T) .nil) aP (aj (aB (K := K) (pv 1) rfl) (aj (cY (aj (fO T.mk_Lot (cZ (K := K) T) (hr.mono (by decide)) (by rfl) T.m_Lot (dI T) .nil aP (aj (aB (K := K) (pv 1) rfl) (aj (aB (K := K) (pv 1) rfl) (aj (aB (K := K) (pv 1) rfl) (aj (aB (K := K) (pv 1) rfl) aq))))) aq)) aq))))
   (aA (aY (K := K) (pv 0) (aL dJ (aB (K := K) (pv 0) rfl) (aB (K := K) (pv 1) rfl)) rfl))), ?_⟩
   simp only [start_eq]
   walk_at "nx"
   obtain ⟨db, hb⟩ := hB.b
   refine ⟨_, db, _, hb, _, List.mem_cons_self, by rfl, _, dx, _, hx, T.cl_Gift, T.n_Gift_ware, _, by rfl, _, dx, _, hx, T.cl_Gift, T.n_Gift_number, _, by rfl, _, dx, _, hx, T.cl_Gift, T.n_Gift_since, _, by rfl, _, dx, _, hx, T.cl_Gift, T.n_Gift_pieces, _, by rfl, _, dx, _, hx, T.cl_Gift, T.n_Gift_cost, _, by rfl, fun y dy hy hdy _ => ?_⟩
   refine jB ⟨n, s, p, c⟩ hy hdy fun H1 s1 hL => ⟨by rw [sizeLine_eq]; decide, fun q hq => ?_⟩
   have s2 := s1.trans (Same.new (o := .lst [.ref y]) hq)
   have hq2 : (upd H1 q (.lst [.ref y])) q = some (.lst [.ref y]) := au
   have hL2 := hL.same (Same.new (o := .lst [.ref y]) hq)
   generalize upd H1 q (HO.lst [.ref y]) = H2 at s2 hq2 hL2 ⊢
   have hB2 := hB.same s2
   refine ⟨bk, q, y, kb, ⟨n, s, p, c⟩, rfl, hB2, hq2, hL2, by have := rC hC.r; have := hC.le; omega, hC.r.u, hnn, hC.r.b, fun q' ls H3 o3 hB3 p1 => ?_⟩
   obtain ⟨n1, n2, n3⟩ := Le (e := .gift d n (Str.ofString "cup") p c s) hB2 ⟨dx, s2 _ _ hx⟩
   have hx3 := o3 _ _ n1 n2 n3 (s2 _ _ hx)
   obtain ⟨db3, hb3⟩ := hB3.b
   try dsimp only
   refine ⟨_, db3, _, hb3, T.cl_Book, T.n_Book_brought, _, by rfl, _, dx, _, hx3, T.cl_Gift, T.n_Gift_cost, _, by rfl, _, rfl, _, rfl, _, db3, _, hb3, T.cl_Book, T.n_Book_brought, (show (7 : Nat) < 1000 by decide), ?_⟩
   rw [vA]
   exact k _ _ ((Off3.of s2).trans (o3.trans Off3.b)) (BP hB3 ⟨rfl, rfl, rfl, rfl, rfl, rfl, rfl⟩ hB3.p) ⟨rfl, rfl, by show (dsR ls, gnS kb.sl) = (xV _ _, _); rw [p1]; rfl⟩
theorem qO (T : Txt K mg A D) : FnOk P w K mg base CX0 6 A.Book_do_buy D.Book_do_buy ["self", "entry"] (Ik A 0) := by
 refine T.F_Book_do_buy.ok sc_Book_do_buy (fun vs H Q E h => ?_) (fun cdv A' outer s0 H vs Q E hr h => ?_)
 ·obtain ⟨bk, x, k, e, m, _, rfl, _⟩ := h; rfl
 ·obtain ⟨bk, x, kb, e, m, hk, rfl, hB, ⟨dx, hx⟩, hC, k⟩ := h
  cases e with
  | gift => cases hk
  | sell => cases hk
  | buy d n w p r f =>
   have hw := hC.w
   have hnn := Kg hC (fun c => by cases c)
   cases hw
   refine ⟨_, (ao (aO (i := 2) sc_Book_do_buy.nd rfl (Or.inl rfl) (aL dJ (aB (K := K) (pv 1) rfl) (bJ (pv 0) (.cons T.cl_Book T.me_Book_lay_on (qj (K := K) T) (hr.mono (by decide)) (sU T) .nil) aP (aj (pv 1) aq))))
   (ao (aW (bJ (pv 0) (.cons T.cl_Book T.me_Book_put (nW (K := K) T) (hr.mono (by decide)) (qX T) .nil) aP (aj (aB (K := K) (pv 1) rfl) (aj (cY (aj (fO T.mk_Lot (cZ (K := K) T) (hr.mono (by decide)) (by rfl) T.m_Lot (dI T) .nil aP (aj (aB (K := K) (pv 1) rfl) (aj (aB (K := K) (pv 1) rfl) (aj (aB (K := K) (pv 1) rfl) (aj (pv 2) aq))))) aq)) aq))))
   (aA (aY (K := K) (pv 0) (aL dJ (aB (K := K) (pv 0) rfl) (aB (K := K) (pv 1) rfl)) rfl)))), ?_⟩
   simp only [start_eq]
   walk_at "nx"
   obtain ⟨db, hb⟩ := hB.b
   refine ⟨_, dx, _, hx, T.cl_Buy, T.n_Buy_cost, _, by rfl, _, db, _, hb, _, List.mem_cons_self, by rfl, bk, x, rfl, _, rfl, _, rfl, ?_⟩
   walk_at "nx"
   refine ⟨_, db, _, hb, _, List.mem_cons_self, by rfl, _, dx, _, hx, T.cl_Buy, T.n_Buy_ware, _, by rfl, _, dx, _, hx, T.cl_Buy, T.n_Buy_number, _, by rfl, _, dx, _, hx, T.cl_Buy, T.n_Buy_day, _, by rfl, _, dx, _, hx, T.cl_Buy, T.n_Buy_pieces, _, by rfl, fun y dy hy hdy _ => ?_⟩
   rw [Int.add_zero]
   refine jB ⟨n, d, p, p * r + f⟩ hy hdy fun H1 s1 hL => ⟨by rw [sizeLine_eq]; decide, fun q hq => ?_⟩
   have s2 := s1.trans (Same.new (o := .lst [.ref y]) hq)
   have hq2 : (upd H1 q (.lst [.ref y])) q = some (.lst [.ref y]) := au
   have hL2 := hL.same (Same.new (o := .lst [.ref y]) hq)
   generalize upd H1 q (HO.lst [.ref y]) = H2 at s2 hq2 hL2 ⊢
   have hB2 := hB.same s2
   refine ⟨bk, q, y, kb, ⟨n, d, p, p * r + f⟩, rfl, hB2, hq2, hL2, by have := rC hC.r; have := hC.le; omega, hC.r.u, hnn, hC.r.b, fun q' ls H3 o3 hB3 p1 => ?_⟩
   obtain ⟨n1, n2, n3⟩ := Le (e := .buy d n (Str.ofString "cup") p r f) hB2 ⟨dx, s2 _ _ hx⟩
   have hx3 := o3 _ _ n1 n2 n3 (s2 _ _ hx)
   obtain ⟨db3, hb3⟩ := hB3.b
   try dsimp only
   refine ⟨_, db3, _, hb3, T.cl_Book, T.n_Book_paid, _, by rfl, _, dx, _, hx3, T.cl_Buy, T.n_Buy_cost, _, by rfl, _, rfl, _, rfl, _, db3, _, hb3, T.cl_Book, T.n_Book_paid, (show (7 : Nat) < 1000 by decide), ?_⟩
   rw [Cq]
   exact k _ _ ((Off3.of s2).trans (o3.trans Off3.b)) (BP hB3 ⟨rfl, rfl, rfl, rfl, rfl, rfl, rfl⟩ hB3.p) ⟨rfl, rfl, by show (dsR ls, gnS kb.sl) = (xV _ _, _); rw [p1]; rfl⟩
end
end My
namespace My
open PySem L2 PyProof.Rows
section
variable {P : Program} {w : World} {K : Fg_} {mg : Str -> Option Value} {base : Heap} {A : Adr} {D : Fds}
local macro_rules | `(tactic| walk_at "nx") => `(tactic| ((try dsimp only); rw [ap_seq]; walk_at "rdi"))
theorem Ml {ps : SP5} {acc : List V} (hl : acc.length = ps.length) (h : ∀ (i : Nat) v, acc[i]? = some v -> ∃ r, ps[i]? = some r /\ v = .int r.2.1.c) : acc = (ps.map fun r => r.2.1.c).map V.int := by
 refine List.ext_getElem (by simp [hl]) fun i h1 h2 => ?_
 obtain ⟨l, e1, e2⟩ := h i acc[i] (by simp)
 rw [e2]
 have h3 : i < ps.length := by omega
 have : ps[i] = l := by
  rw [List.getElem?_eq_getElem h3] at e1
  exact Option.some.inj e1
 simp [this]
def lH : Sp := fun vs H Q _ => ∃ (p : Addr) (ps : SP5), vs = [.ref p] /\ H p = some (.lst (oN ps)) /\ P5At H ps /\ ps.length <= 61 /\ ∀ H', Same H H' -> Q (.int (ps.map fun r => r.2.1.c).sum) H'
theorem lB (T : Txt K mg A D) : FnOk P w K mg base CX0 1 A.cost_of_parts D.cost_of_parts ["parts"] lH := by
 refine T.F_cost_of_parts.ok mz (fun vs H Q E h => ?_) (fun cdv A' outer s0 H vs Q E hr h => ?_)
 ·obtain ⟨p, ps, rfl, _⟩ := h; rfl
 ·obtain ⟨p, ps, rfl, hp, hT, hl, k⟩ := h
  refine ⟨_, (aA (aR (aV (eZ (K := K) rfl) (by rfl) T.b_sum (by decide +kernel) (aj (bI (cap := [Option.none, Option.none, Option.none, Option.none, Option.none]) (N' := ["lot", "since", "pieces", "cost", "share"]) rfl (by walk_at "compok") (aZ (K := K) (pv 0)) (fun _ _ _ _ => (gW (K := K) (n := 5) rfl (aU (aH (i := 0) (show (["lot", "since", "pieces", "cost", "share"] : List Str).Nodup from by decide +kernel) rfl (Or.inl rfl) (Or.inr rfl)) (aU (aH (i := 1) (show (["lot", "since", "pieces", "cost", "share"] : List Str).Nodup from by decide +kernel) rfl (Or.inl rfl) (Or.inr rfl)) (aU (aH (i := 2) (show (["lot", "since", "pieces", "cost", "share"] : List Str).Nodup from by decide +kernel) rfl (Or.inl rfl) (Or.inr rfl)) (aU (aH (i := 3) (show (["lot", "since", "pieces", "cost", "share"] : List Str).Nodup from by decide +kernel) rfl (Or.inl rfl) (Or.inr rfl)) (aU (aH (i := 4) (show (["lot", "since", "pieces", "cost", "share"] : List Str).Nodup from by decide +kernel) rfl (Or.inl rfl) (Or.inr rfl)) fW))))))) (fun _ _ _ _ => bH) (fun _ _ _ _ => (pv 3))) aq)))), ?_⟩
  walk_at "rda"
  refine ⟨⟨_, SqL.of hp⟩, ?_⟩
  refine CompP.listE (K := K) (fun σ => ∃ a b c d e, σ = [a, b, c, d, e]) (fun i v _ => ∃ r, ps[i]? = some r /\ v = .int r.2.1.c) (SqL.of hp) ⟨_, _, _, _, _, rfl⟩ (by rw [pB, sizeLine_eq]; omega) ?_ ?_
  ·rintro Da i x hx σ H5 R ⟨_, _, _, _, _, rfl⟩ sm hD _ kk
   obtain ⟨r, hr', rfl⟩ := Bh hx
   have ht := sm _ _ (hT r (List.mem_of_getElem? hr'))
   walk_at "rdi"
   exact ⟨_, SqT.of ht, rfl, _, _, rfl, _, _, rfl, _, _, rfl, _, _, rfl, _, _, rfl, rfl, kk _ _ H5 ⟨_, _, _, _, _, rfl⟩ (Same.refl _) fun H' _ => ⟨r, hr', rfl⟩⟩
  ·intro Da H' acc hD sm hA hlen hF
   rw [Ml (by rw [hlen, pB]) hF] at hA
   walk_at "rda"
   exact ⟨_, SqL.of hA, k H' sm⟩
def lM (A : Adr) : Sp := fun vs H Q _ => ∃ (x p : Addr) (n d pr : Int) (ps : SP5) (B : Hp) (dx : Addr), vs = [.ref x, .int n, .int d, .str (Str.ofString "cup"), .int pr, .ref p, .non] /\ New B H x A.C_Sale dx [] /\ B p = some (.lst (oN ps)) /\ P5At B ps /\ ps.length <= 61 /\
 ∀ pl H', Same B H' -> B pl = Option.none -> IsSale A H' x ⟨n, d, pr, pl, ps⟩ -> Q .non H'
theorem iu (T : Txt K mg A D) : FnOk P w K mg base CX0 1 A.Sale___init__ D.Sale___init__ ["self", "number", "day", "ware", "proceeds", "parts", "laid_on"] (lM A) := by
 refine T.F_Sale___init__.ok mq (fun vs H Q E h => ?_) (fun cdv A' outer s0 H vs Q E hr h => ?_)
 ·obtain ⟨x, p, n, d, pr, ps, B, dx, rfl, _⟩ := h; rfl
 ·obtain ⟨x, p, n, d, pr, ps, B, dx, rfl, hN, hp, hT, hl, k⟩ := h
  refine ⟨_, (ao (aY (K := K) (pv 0) (pv 1) rfl)
   (ao (aY (K := K) (pv 0) (pv 2) rfl)
   (ao (aY (K := K) (pv 0) (pv 3) rfl)
   (ao (aY (K := K) (pv 0) (pv 4) rfl)
   (ao (aY (K := K) (pv 0) (bB (iR (K := K)) (by rfl) T.b_list (by decide +kernel) (aj (pv 5) aq)) rfl)
   (aA (aY (K := K) (pv 0) (pv 6) rfl))))))), ?_⟩
  walk_at "rda"
  refine ⟨_, dx, _, hN.h, T.cl_Sale, T.n_Sale_number, by decide, ?_⟩
  rw [iJ _ _ (by decide +kernel)]
  have hN := hN.put (gs := [] ++ [(Str.ofString "number", V.int n)]) rfl
  generalize upd H x _ = H1 at hN ⊢
  refine ⟨_, dx, _, hN.h, T.cl_Sale, T.n_Sale_day, by simp, ?_⟩
  rw [bx (f := Str.ofString "day") ["number"] (by rfl) (by decide +kernel)]
  have hN := hN.put (gs := ([] ++ [(Str.ofString "number", V.int n)]) ++ [(Str.ofString "day", V.int d)]) rfl
  generalize upd H1 x _ = H2 at hN ⊢
  refine ⟨_, dx, _, hN.h, T.cl_Sale, T.n_Sale_ware, by simp, ?_⟩
  rw [bx (f := Str.ofString "ware") ["number", "day"] (by rfl) (by decide +kernel)]
  have hN := hN.put (gs := (([] ++ [(Str.ofString "number", V.int n)]) ++ [(Str.ofString "day", V.int d)]) ++ [(Str.ofString "ware", V.str (Str.ofString "cup"))]) rfl
  generalize upd H2 x _ = H3 at hN ⊢
  refine ⟨_, dx, _, hN.h, T.cl_Sale, T.n_Sale_proceeds, by simp, ?_⟩
  rw [bx (f := Str.ofString "proceeds") ["number", "day", "ware"] (by rfl) (by decide +kernel)]
  have hN := hN.put (gs := ((([] ++ [(Str.ofString "number", V.int n)]) ++ [(Str.ofString "day", V.int d)]) ++ [(Str.ofString "ware", V.str (Str.ofString "cup"))]) ++ [(Str.ofString "proceeds", V.int pr)]) rfl
  generalize upd H3 x _ = H4 at hN ⊢
  refine ⟨_, .inl (SqL.of (hN.s _ _ hp)), fun pl hpl => ?_⟩
  have hxl : pl ≠ x := fun e => by rw [e, hN.h] at hpl; cases hpl
  have hpn := hN.s.free hpl
  have hN := hN.same (Same.new (o := .lst (oN ps)) hpl)
  have hq : (upd H4 pl (.lst (oN ps))) pl = some (.lst (oN ps)) := au
  generalize upd H4 pl _ = H5 at hN hq ⊢
  refine ⟨_, dx, _, hN.h, T.cl_Sale, T.n_Sale_parts, by simp, ?_⟩
  rw [bx (f := Str.ofString "parts") ["number", "day", "ware", "proceeds"] (by rfl) (by decide +kernel)]
  have hN := hN.put (gs := (((([] ++ [(Str.ofString "number", V.int n)]) ++ [(Str.ofString "day", V.int d)]) ++ [(Str.ofString "ware", V.str (Str.ofString "cup"))]) ++ [(Str.ofString "proceeds", V.int pr)]) ++ [(Str.ofString "parts", V.ref pl)]) rfl
  have hq := (aF (o := HO.ins A.C_Sale dx ((((([] ++ [(Str.ofString "number", V.int n)]) ++ [(Str.ofString "day", V.int d)]) ++ [(Str.ofString "ware", V.str (Str.ofString "cup"))]) ++ [(Str.ofString "proceeds", V.int pr)]) ++ [(Str.ofString "parts", V.ref pl)])) hxl).trans hq
  generalize upd H5 x _ = H6 at hN hq ⊢
  refine ⟨_, dx, _, hN.h, T.cl_Sale, T.n_Sale_laid_on, by simp, ?_⟩
  rw [bx (f := Str.ofString "laid_on") ["number", "day", "ware", "proceeds", "parts"] (by rfl) (by decide +kernel)]
  have S := hN.s.upd (o := HO.ins A.C_Sale dx (((((([] ++ [(Str.ofString "number", V.int n)]) ++ [(Str.ofString "day", V.int d)]) ++ [(Str.ofString "ware", V.str (Str.ofString "cup"))]) ++ [(Str.ofString "proceeds", V.int pr)]) ++ [(Str.ofString "parts", V.ref pl)]) ++ [(Str.ofString "laid_on", V.non)])) hN.n
  exact k pl _ S hpn ⟨⟨dx, au⟩, (aF hxl).trans hq, hT.same S, hl⟩
def Gz (A : Adr) : Sp := fun vs H Q _ => ∃ (x : Addr) (s : SaleD), vs = [.ref x] /\ IsSale A H x s /\ ∀ H', Same H H' -> Q (.int (s.pr - s.co)) H'
theorem uU (T : Txt K mg A D) : FnOk P w K mg base CX0 2 A.Sale_gain D.Sale_gain ["self"] (Gz A) := by
 refine T.F_Sale_gain.ok tY (fun vs H Q E h => ?_) (fun cdv A' outer s0 H vs Q E hr h => ?_)
 ·obtain ⟨x, s, rfl, _⟩ := h; rfl
 ·obtain ⟨x, s, rfl, hx, k⟩ := h
  refine ⟨_, (aA (aR (aL gF (aB (K := K) (pv 0) rfl) (aK (lB (K := K) T) (hr.mono (by decide)) (by rfl) T.m_cost_of_parts T.k_cost_of_parts (mW T) .nil aP (aj (aB (K := K) (pv 0) rfl) aq))))), ?_⟩
  obtain ⟨dx, hi⟩ := hx.i
  walk_at "rda"
  exact ⟨_, dx, _, hi, T.cl_Sale, T.n_Sale_proceeds, _, by rfl, _, dx, _, hi, T.cl_Sale, T.n_Sale_parts, _, by rfl, s.pl, s.ps, rfl, hx.p, hx.t, hx.l, fun H' s' => ⟨_, rfl, _, rfl, k H' s'⟩⟩
theorem iD (T : Txt K mg A D) : FnOk P w K mg base CX0 3 A.Sale_counted D.Sale_counted ["self"] (Gz A) := by
 refine T.F_Sale_counted.ok oY (fun vs H Q E h => ?_) (fun cdv A' outer s0 H vs Q E hr h => ?_)
 ·obtain ⟨x, s, rfl, _⟩ := h; rfl
 ·obtain ⟨x, s, rfl, hx, k⟩ := h
  refine ⟨_, (aA (aR (jD (bj (nG) (aB (K := K) (pv 0) rfl) fM (bC _)) (gb (pv 0) (.cons T.cl_Sale T.me_Sale_gain (uU (K := K) T) (hr.mono (by decide)) (xF T) .nil) aP) aG))), ?_⟩
  obtain ⟨dx, hi⟩ := hx.i
  walk_at "rda"
  refine ⟨_, dx, _, hi, T.cl_Sale, T.n_Sale_laid_on, .non, by rfl, ?_⟩
  rw [if_pos rfl]
  exact ⟨_, dx, _, hi, _, List.mem_cons_self, by rfl, x, s, rfl, hx, k⟩
def pK (A : Adr) : Sp := fun vs H Q _ => ∃ (x : Addr) (s : SaleD), vs = [.ref x] /\ IsSale A H x s /\ ∀ y pl H', Same H H' -> H y = Option.none -> H pl = Option.none -> IsSale A H' y { s with pl := pl } -> Q (.ref y) H'
theorem oR (T : Txt K mg A D) : FnOk P w K mg base CX0 3 A.copy_of_sale D.copy_of_sale ["sale"] (pK A) := by
 refine T.F_copy_of_sale.ok oJ (fun vs H Q E h => ?_) (fun cdv A' outer s0 H vs Q E hr h => ?_)
 ·obtain ⟨x, s, rfl, _⟩ := h; rfl
 ·obtain ⟨x, s, rfl, hx, k⟩ := h
  refine ⟨_, (aA (aR (fO T.mk_Sale (iu (K := K) T) (hr.mono (by decide)) (by rfl) T.m_Sale (iB T) .nil aP (aj (aB (K := K) (pv 0) rfl) (aj (aB (K := K) (pv 0) rfl) (aj (aB (K := K) (pv 0) rfl) (aj (aB (K := K) (pv 0) rfl) (aj (aB (K := K) (pv 0) rfl) (aj (aB (K := K) (pv 0) rfl) aq))))))))), ?_⟩
  obtain ⟨dx, hi⟩ := hx.i
  walk_at "rda"
  refine ⟨_, dx, _, hi, T.cl_Sale, T.n_Sale_number, _, by rfl, _, dx, _, hi, T.cl_Sale, T.n_Sale_day, _, by rfl, _, dx, _, hi, T.cl_Sale, T.n_Sale_ware, _, by rfl, _, dx, _, hi, T.cl_Sale, T.n_Sale_proceeds, _, by rfl, _, dx, _, hi, T.cl_Sale, T.n_Sale_parts, _, by rfl, _, dx, _, hi, T.cl_Sale, T.n_Sale_laid_on, _, by rfl, fun y dy hy hdy _ => ?_⟩
  exact ⟨y, s.pl, s.n, s.d, s.pr, s.ps, H, dy, rfl, kY hy hdy, hx.p, hx.t, hx.l, fun pl H' s' hpl hS => ⟨rfl, k y pl H' s' hy hpl hS⟩⟩
def tW (A : Adr) : Sp := fun vs H Q _ => ∃ (x dx q : Addr) (ls : RL) (w : Int) (m : Nat), vs = [.ref x, .ref q, .int w, .non] /\ H x = some (.ins A.C_Eldest dx []) /\ H q = some (.lst (aQ ls)) /\ LotAt A H ls /\ RowG m (dsR ls) /\ m <= 61 /\
 ∀ t la lb l1 l2 H', Same H H' -> H' t = some (.tup [.ref la, .ref lb]) -> H' la = some (.lst (aQ l1)) -> H' lb = some (.lst (aQ l2)) -> LotAt A H' l1 -> LotAt A H' l2 -> dsR l1 = cB (dsR ls) w -> dsR l2 = iw (dsR ls) w -> H la = Option.none -> H lb = Option.none -> Q (.ref t) H'
theorem uZ (T : Txt K mg A D) : FnOk P w K mg base CX0 5 A.gone_from D.gone_from ["way", "lots", "pieces", "named"] (tW A) := by
 refine T.F_gone_from.ok sc_gone_from (fun vs H Q E h => ?_) (fun cdv A' outer s0 H vs Q E hr h => ?_)
 ·obtain ⟨x, dx, q, ls, w, m, rfl, _⟩ := h; rfl
 ·obtain ⟨x, dx, q, ls, w, m, rfl, hx, hq, hL, hR, hm, k⟩ := h
  refine ⟨_, (ao (aO (i := 4) sc_gone_from.nd rfl (Or.inl rfl) (bJ (pv 0) (.cons T.cl_Eldest T.me_Eldest_levelled (nu (K := K) T) (hr.mono (by decide)) (qL T) .nil) aP (aj (pv 1) aq)))
   (ao (aO (i := 5) sc_gone_from.nd rfl (Or.inl rfl) (jD (bj (nG) (pv 3) fM (bC _)) (bJ (pv 0) (.cons T.cl_Eldest T.me_Eldest_picks (oO (K := K) T) (hr.mono (by decide)) (qt T) .nil) aP (aj (pv 4) (aj (pv 2) aq))) (pv 3)))
   (aA (aR (aK (qM (K := K) T) (hr.mono (by decide)) (by rfl) T.m_row_without T.k_row_without (rM T) .nil aP (aj (pv 4) (aj (pv 5) aq))))))), ?_⟩
  simp only [start_eq]
  walk_at "nx"
  refine ⟨_, dx, _, hx, _, List.mem_cons_self, by rfl, x, q, _, rfl, hq, fun l hl => ?_⟩
  have s1 := Same.new (o := .lst (aQ ls)) hl
  have h1 : (upd H l (.lst (aQ ls))) l = some (.lst (aQ ls)) := au
  generalize upd H l _ = H1 at s1 h1 ⊢
  have hL1 := hL.same s1
  have hll : ls.length <= 61 := by
   have := hR.l
   unfold dsR at this
   rw [List.length_map] at this
   omega
  walk_at "nx"
  refine ⟨_, dx, _, s1 _ _ hx, _, List.mem_cons_self, by rfl, x, l, ls, w, rfl, h1, hL1, by omega, fun a ha b hb => ?_, fun pk ps H2 s2 hpk hk2 hP2 he2 => ?_⟩
  ·have g1 := hR.g a.2 (List.mem_map.mpr ⟨a, ha, rfl⟩)
   have g2 := hR.g b.2 (List.mem_map.mpr ⟨b, hb, rfl⟩)
   exact Bd.mul ⟨by omega, by omega⟩ ⟨by omega, by omega⟩
  have hK := Hv (w := w) hR
  refine ⟨l, pk, ls, ps, rfl, s2 _ _ h1, hL1.same s2, hk2, hP2, hR.ok hm, he2 ▸ hK, fun t la lb l1 l2 H3 s3 ht h5 h6 h7 h8 h9 h10 h11 h12 h13 => ?_⟩
  have S := s1.trans s2
  rw [he2] at h9 h10
  refine k t la lb l1 l2 H3 (S.trans s3) ht h5 h6 h7 h8 ?_ ?_ (S.free h11) (S.free h12)
  ·rw [<- Bg hR.u]; exact h9
  ·rw [<- BV hR.u fun d hd => (hR.g d hd).2.1.1]; exact h10
theorem rY {f : LotD -> Int} (ls : RL) : ls.map (fun l => f l.2) = (dsR ls).map f := by unfold dsR; rw [List.map_map]; rfl
theorem yx {B : Int} : ∀ {l : List Int}, (∀ x ∈ l, 0 <= x /\ x <= B) -> 0 <= l.sum /\ l.sum <= l.length * B
 | [], _ => by simp
 | x :: r, h => by
  have h1 := h x List.mem_cons_self
  have h2 := yx (l := r) fun y hy => h y (List.mem_cons_of_mem _ hy)
  rw [List.sum_cons, List.length_cons, Int.natCast_add, Int.add_mul]
  omega
theorem yH {B : Int} : ∀ {ds : List LotD} {w : Int}, (∀ d ∈ ds, d.p <= B) -> ∀ d ∈ cB ds w, d.p <= B
 | [], _, _, d, h => by cases h
 | e :: ds, w, hp, d, h => by
  rw [cB] at h
  split at h
  ·cases h
  ·rcases List.mem_cons.mp h with rfl | h
   ·have := hp e List.mem_cons_self
    show min e.p w <= B
    omega
   ·exact yH (fun e he => hp e (List.mem_cons_of_mem _ he)) d h
theorem yJ {H : Hp} : ∀ {acc : List V} {ls : RL}, acc.length = ls.length -> (∀ (i : Nat) v, acc[i]? = some v -> ∃ b l c, ls[i]? = some l /\ v = .ref b /\ H b = some (.tup (l.2.vs ++ [.int c]))) -> ∃ ps : SP5, acc = oN ps /\ ps.map (fun r => r.2.1) = dsR ls /\ P5At H ps
 | [], [], _, _ => ⟨[], rfl, rfl, fun r h => (List.not_mem_nil h).elim⟩
 | [], _ :: _, h, _ => by simp at h
 | _ :: _, [], h, _ => by simp at h
 | v :: acc, l :: ls, hl, h => by
  obtain ⟨b, l', c, e, rfl, hb⟩ := h 0 v rfl
  cases e
  obtain ⟨ps, e1, e2, e3⟩ := yJ (acc := acc) (ls := ls) (by simpa using hl) fun i v hv => h (i + 1) v hv
  refine ⟨(b, l.2, c) :: ps, by rw [e1]; rfl, by rw [List.map_cons, e2]; rfl, fun r hr => ?_⟩
  rcases List.mem_cons.mp hr with rfl | hr
  ·exact hb
  ·exact e3 r hr
def yL (A : Adr) : Sp := fun vs H Q _ => ∃ (x q : Addr) (d n p r f : Int) (ls : RL), vs = [.ref x, .ref q] /\ IsE3 A H x (.sell d n (Str.ofString "cup") p r f) /\ H q = some (.lst (aQ ls)) /\ LotAt A H ls /\ ls ≠ [] /\ ls.length <= 61 /\ (∀ e ∈ dsR ls, 1 <= e.p /\ e.p <= 1000000000) /\ (p * r - f).natAbs < 2 ^ 300 /\
 ∀ y s H', Same H H' -> H y = Option.none -> H s.pl = Option.none -> IsSale A H' y s -> s.n = n -> s.pr = p * r - f -> s.co = csD (dsR ls) -> Q (.ref y) H'
theorem yP (T : Txt K mg A D) : FnOk P w K mg base CX0 3 A.sale_of D.sale_of ["entry", "lots"] (yL A) := by
 refine T.F_sale_of.ok sc_sale_of (fun vs H Q E h => ?_) (fun cdv A' outer s0 H vs Q E hr h => ?_)
 ·obtain ⟨x, q, d, n, p, r, f, ls, rfl, _⟩ := h; rfl
 ·obtain ⟨x, q, d, n, p, r, f, ls, rfl, ⟨dx, hx⟩, hq, hL, hne, hl, hp, hb, k⟩ := h
  refine ⟨_, (ao (aO (i := 2) sc_sale_of.nd rfl (Or.inl rfl) (aK (El (K := K) T) (hr.mono (by decide)) (by rfl) T.m_dealt T.k_dealt (Jk T) .nil aP (aj (aB (K := K) (pv 0) rfl) (aj (bI (cap := [Option.none]) (N' := ["lot"]) rfl (by walk_at "compok") (aZ (K := K) (pv 1)) (fun _ _ _ _ => (aH (i := 0) (show (["lot"] : List Str).Nodup from by decide +kernel) rfl (Or.inl rfl) (Or.inr rfl))) (fun _ _ _ _ => bH) (fun _ _ _ _ => (aB (K := K) (pv 0) rfl))) aq))))
   (ao (qU (i := 3) sc_sale_of.nd rfl rfl (cap := [Option.none, Option.none]) (N' := ["lot", "share"]) rfl (by walk_at "compok") (Hg (K := K) (by rfl) T.b_zip (aj (pv 1) (aj (pv 2) aq))) (fun _ _ _ _ => (gW (K := K) (n := 2) rfl (aU (aH (i := 0) (show (["lot", "share"] : List Str).Nodup from by decide +kernel) rfl (Or.inl rfl) (Or.inr rfl)) (aU (aH (i := 1) (show (["lot", "share"] : List Str).Nodup from by decide +kernel) rfl (Or.inl rfl) (Or.inr rfl)) fW)))) (fun _ _ _ _ => bH) (fun _ _ _ _ => (gK (aj (aB (K := K) (pv 0) rfl) (aj (aB (K := K) (pv 0) rfl) (aj (aB (K := K) (pv 0) rfl) (aj (aB (K := K) (pv 0) rfl) (aj (pv 1) aq))))))))
   (aA (aR (fO T.mk_Sale (iu (K := K) T) (hr.mono (by decide)) (by rfl) T.m_Sale (iB T) .nil aP (aj (aB (K := K) (pv 0) rfl) (aj (aB (K := K) (pv 0) rfl) (aj (aB (K := K) (pv 0) rfl) (aj (aB (K := K) (pv 0) rfl) (aj (pv 3) (aj fM aq))))))))))), ?_⟩
  simp only [start_eq]
  walk_at "nx"
  refine ⟨_, dx, _, hx, T.cl_Sell, T.n_Sell_proceeds, _, by rfl, ⟨_, SqL.of hq⟩, ?_⟩
  refine CompP.listE (K := K) (fun σ => ∃ a, σ = [a]) (fun i v _ => ∃ l, ls[i]? = some l /\ v = .int l.2.p) (SqL.of hq) ⟨_, rfl⟩ (by rw [aJ, sizeLine_eq]; omega) ?_ ?_
  ·rintro Da i y hy σ H5 R ⟨_, rfl⟩ sm hD _ kk
   obtain ⟨l, hl', rfl⟩ := bW hy
   obtain ⟨dl, hdl⟩ := (hL l (get_mem hl')).same sm
   walk_at "rdi"
   exact ⟨_, dl, _, hdl, T.cl_Lot, T.n_Lot_pieces, _, by rfl, kk _ _ H5 ⟨_, rfl⟩ (Same.refl _) fun H' _ => ⟨l, hl', rfl⟩⟩
  ·intro D1 H1 acc hD1 s1 hA hlen hF
   rw [iT (f := fun l => l.2.p) (by rw [hlen, aJ]) hF] at hA
   rw [rY] at hA
   have hws : ∀ y ∈ (dsR ls).map LotD.p, 0 <= y /\ y <= 1000000000 := fun y hy => by
    obtain ⟨e, he, rfl⟩ := List.mem_map.mp hy
    have := hp e he
    omega
   have hsb := yx hws
   have hln : ((dsR ls).map LotD.p).length = ls.length := by unfold dsR; rw [List.length_map, List.length_map]
   have hpos : 0 < ((dsR ls).map LotD.p).sum := by
    have := yh fun e he => (hp e he).1
    have h2 : 0 < ls.length := List.length_pos_iff.mpr hne
    unfold pcD at this
    have h3 : (dsR ls).length = ls.length := by unfold dsR; rw [List.length_map]
    omega
   refine ⟨_, D1, (dsR ls).map LotD.p, rfl, SqL.of hA, fun y hy => (hws y hy).1, hpos, by omega, hb, ?_, fun p2 H2 s2 hp2 h2 => ?_⟩
   ·have : ((dsR ls).map LotD.p).sum.natAbs <= 2 ^ 40 := by
     rw [hln] at hsb
     omega
    exact Nat.lt_of_le_of_lt this (Nat.pow_lt_pow_right (by decide) (by decide))
   have S2 := s1.trans s2
   walk_at "nx"
   refine ⟨⟨_, SqL.of (S2 _ _ hq)⟩, ⟨_, SqL.of h2⟩, ?_⟩
   refine CompP.zipE (K := K) (fun σ => ∃ a b, σ = [a, b]) (fun i v H' => ∃ b l c, ls[i]? = some l /\ v = .ref b /\ H' b = some (.tup (l.2.vs ++ [.int c]))) (SqL.of (S2 _ _ hq)) (SqL.of h2) (by rw [aJ, List.length_map, jK, hln]) ⟨_, _, rfl⟩ (by rw [aJ, sizeLine_eq]; omega) ?_ ?_
   ·rintro Db i y z hy hz σ H5 pp R ⟨_, _, rfl⟩ sm5 hDb ⟨Ml, hA5⟩ hpp kk
    obtain ⟨l, hl', rfl⟩ := bW hy
    obtain ⟨c, rfl, hc⟩ := sH hz
    obtain ⟨dl, hdl⟩ := (hL l (get_mem hl')).same (S2.trans sm5)
    have hdl := Same.new (o := .tup [V.ref l.1, V.int c]) hpp _ _ hdl
    have hpt : (upd H5 pp (.tup [V.ref l.1, V.int c])) pp = some (.tup [V.ref l.1, V.int c]) := au
    have hA6 := Same.new (o := .tup [V.ref l.1, V.int c]) hpp _ _ hA5
    generalize upd H5 pp (.tup [V.ref l.1, V.int c]) = H6 at hdl hpt hA6 kk
    walk_at "rdi"
    refine ⟨_, SqT.of hpt, rfl, _, _, rfl, _, _, rfl, rfl, ?_⟩
    refine ⟨_, rfl, _, dl, _, hdl, T.cl_Lot, T.n_Lot_number, _, by rfl, _, rfl, _, dl, _, hdl, T.cl_Lot, T.n_Lot_since, _, by rfl, _, rfl, _, dl, _, hdl, T.cl_Lot, T.n_Lot_pieces, _, by rfl, _, rfl, _, dl, _, hdl, T.cl_Lot, T.n_Lot_cost, _, by rfl, by rw [sizeLine_eq]; decide, fun t ht => ?_⟩
    exact kk (.ref t) _ _ ⟨_, _, rfl⟩ (Same.new ht) fun H' hb => ⟨t, l, c, hl', rfl, hb _ _ (fun e => by rw [e, hA6] at ht; cases ht) au⟩
   ·intro D3 H3 acc3 hD3 s3 hA3 hlen3 hF3
    rw [aJ] at hlen3
    obtain ⟨ps, e1, e2, e3⟩ := yJ hlen3 hF3
    rw [e1] at hA3
    have hx3 := s3 _ _ (S2 _ _ hx)
    have hpl : ps.length = ls.length := by
     have := congrArg List.length e1
     rw [pB] at this
     omega
    refine ⟨_, dx, _, hx3, T.cl_Sell, T.n_Sell_number, _, by rfl, _, dx, _, hx3, T.cl_Sell, T.n_Sell_day, _, by rfl, _, dx, _, hx3, T.cl_Sell, T.n_Sell_ware, _, by rfl, _, dx, _, hx3, T.cl_Sell, T.n_Sell_proceeds, _, by rfl, fun y dy hy hdy _ => ?_⟩
    have S3 := S2.trans s3
    refine ⟨y, D3, n, d, p * r - f, ps, H3, dy, rfl, kY hy hdy, hA3, e3, by omega, fun pl H4 s4 hpl4 hS4 => ⟨rfl, k y _ H4 (S3.trans s4) (S3.free hy) (S3.free hpl4) hS4 rfl rfl ?_⟩⟩
    show (ps.map fun r => r.2.1.c).sum = ((dsR ls).map LotD.c).sum
    rw [<- e2, List.map_map]
    rfl
def kE (A : Adr) : Sp := fun vs H Q _ => ∃ (bk x : Addr) (k : BkD) (d n p r f : Int) (m : Nat), vs = [.ref bk, .ref x] /\ BkAt A H bk k /\ IsE3 A H x (.sell d n (Str.ofString "cup") p r f) /\ RowG m (dsR k.row) /\ m <= 60 /\ k.row ≠ [] /\
 ∀ la l1 q ls H', Off3 bk k.rows k.sales H H' -> BkAt A H' bk { k with row := ls, q := q } -> H' la = some (.lst (aQ l1)) -> LotAt A H' l1 -> dsR l1 = cB (dsR k.row) p -> dsR ls = iw (dsR k.row) p -> Q (.ref la) H'
theorem kI (T : Txt K mg A D) : FnOk P w K mg base CX0 6 A.Book_taken_for D.Book_taken_for ["self", "entry"] (kE A) := by
 refine T.F_Book_taken_for.ok sc_Book_taken_for (fun vs H Q E h => ?_) (fun cdv A' outer s0 H vs Q E hr h => ?_)
 ·obtain ⟨bk, x, k, d, n, p, r, f, m, rfl, _⟩ := h; rfl
 ·obtain ⟨bk, x, kb, d, n, p, r, f, m, rfl, hB, ⟨dx, hx⟩, hR, hm, hne, k⟩ := h
  refine ⟨_, (ao (zm ((aA (aO (i := 2) sc_Book_taken_for.nd rfl (Or.inl rfl) (aK (uZ (K := K) T) (hr.mono (by decide)) (by rfl) T.m_gone_from T.k_gone_from (xM T) .nil aP (aj (aB (K := K) (pv 0) rfl) (aj (bJ (pv 0) (.cons T.cl_Book T.me_Book_row_of (fY (K := K) T) (hr.mono (by decide)) (gR T) .nil) aP (aj (aB (K := K) (pv 1) rfl) aq)) (aj (aB (K := K) (pv 1) rfl) (aj (aB (K := K) (pv 1) rfl) aq)))))))))
   (ao (aW (bJ (pv 0) (.cons T.cl_Book T.me_Book_keep_row (ir (K := K) T) (hr.mono (by decide)) (iC T) .nil) aP (aj (aB (K := K) (pv 1) rfl) (aj (jy (jb (K := K)) (pv 2) aG (fun _ _ => rfl)) aq))))
   (aA (aR (jy (jb (K := K)) (pv 2) aG (fun _ _ => rfl)))))), ?_⟩
  simp only [start_eq]
  walk_at "nx"
  obtain ⟨db, hb⟩ := hB.b
  obtain ⟨dw, hw⟩ := hB.w
  refine ⟨_, db, _, hb, T.cl_Book, T.n_Book_way, _, by rfl, _, db, _, hb, _, List.mem_cons_self, by rfl, _, dx, _, hx, T.cl_Sell, T.n_Sell_ware, _, by rfl, bk, kb, rfl, hB, fun l H1 s1 hl1 h1 hL1 => ?_⟩
  have hx1 := s1 _ _ hx
  refine ⟨_, dx, _, hx1, T.cl_Sell, T.n_Sell_pieces, _, by rfl, _, dx, _, hx1, T.cl_Sell, T.n_Sell_named, _, by rfl, kb.way, dw, l, kb.row, p, m, rfl, s1 _ _ hw, h1, hL1, hR, by omega, fun t la lb l1 l2 H2 s2 ht h5 h6 h7 h8 h9 h10 h11 h12 => ?_⟩
  have S2 := s1.trans s2
  have hB2 := hB.same S2
  obtain ⟨db2, hb2⟩ := hB2.b
  have hx2 := s2 _ _ hx1
  walk_at "nx"
  refine ⟨_, db2, _, hb2, _, List.mem_cons_self, by rfl, _, dx, _, hx2, T.cl_Sell, T.n_Sell_ware, _, by rfl, _, SqT.of ht, .ref lb, rfl, bk, lb, kb, l2, rfl, hB2, h6, h8, fun e => (by rw [e, (hB.same s1).s] at h12; cases h12), fun _ => hne, fun H3 o3 hB3 => ?_⟩
  have nt : t ≠ bk /\ t ≠ kb.rows /\ t ≠ kb.sales := ⟨fun e => (by rw [e, hb2] at ht; cases ht), fun e => (by rw [e, hB2.r] at ht; cases ht), fun e => (by rw [e, hB2.s] at ht; cases ht)⟩
  have na : la ≠ bk /\ la ≠ kb.rows /\ la ≠ kb.sales := ⟨fun e => (by rw [e, hb2] at h5; cases h5), fun e => (by rw [e, hB2.r] at h5; cases h5), fun e => (by rw [e, (hB.same s1).s] at h11; cases h11)⟩
  refine ⟨_, SqT.of (o3 _ _ nt.1 nt.2.1 nt.2.2 ht), .ref la, rfl, k la l1 lb l2 H3 ((Off3.of S2).trans o3) hB3 (o3 _ _ na.1 na.2.1 na.2.2 h5) (fun l hl => ?_) h9 h10⟩
  obtain ⟨dl, hdl⟩ := h7 l hl
  refine ⟨dl, o3 _ _ (fun e => ?_) (fun e => by rw [e, hB2.r] at hdl; cases hdl) (fun e => by rw [e, hB2.s] at hdl; cases hdl) hdl⟩
  rw [e, hb2] at hdl
  injection hdl with hdl
  injection hdl with _ _ hdl
  exact yM (by decide +kernel) hdl.symm
theorem mX (T : Txt K mg A D) : FnOk P w K mg base CX0 7 A.Book_do_sell D.Book_do_sell ["self", "entry"] (Ik A 2) := by
 refine T.F_Book_do_sell.ok oF (fun vs H Q E h => ?_) (fun cdv A' outer s0 H vs Q E hr h => ?_)
 ·obtain ⟨bk, x, k, e, m, _, rfl, _⟩ := h; rfl
 ·obtain ⟨bk, x, kb, e, m, hk, rfl, hB, hx, hC, k⟩ := h
  cases e with
  | gift => cases hk
  | buy => cases hk
  | sell d n w p r f =>
   have hw := hC.w
   cases hw
   refine ⟨_, (aA (aW (gq (K := K) PySem.F.plainAttrs_list PySem.F.slot_list_append PySem.F.type_list_append dN (aB (K := K) (pv 0) rfl) (aj (aK (yP (K := K) T) (hr.mono (by decide)) (by rfl) T.m_sale_of T.k_sale_of (Dz T) .nil aP (aj (pv 1) (aj (bJ (pv 0) (.cons T.cl_Book T.me_Book_taken_for (kI (K := K) T) (hr.mono (by decide)) (lU T) .nil) aP (aj (pv 1) aq)) aq))) aq)))), ?_⟩
   obtain ⟨hv1, hv2⟩ := hC.v
   have hp1 : ∀ e ∈ dsR kb.row, 1 <= e.p := fun e he => (hC.r.g e he).2.1.1
   have hne : kb.row ≠ [] := fun e => by
    rw [e] at hv2
    have : p <= 0 := hv2
    omega
   obtain ⟨db, hb⟩ := hB.b
   walk_at "rda"
   refine ⟨_, db, _, hb, T.cl_Book, T.n_Book_sales_done, .ref kb.sales, by rfl, tyL (SqL.of hB.s), ?_⟩
   refine ⟨_, db, _, hb, _, List.mem_cons_self, by rfl, bk, x, kb, d, n, p, r, f, m, rfl, hB, hx, hC.r, hC.le, hne, fun la l1 q ls H1 o1 hB1 h1 hL1 hg1 hg2 => ?_⟩
   obtain ⟨n1, n2, n3⟩ := Le hB hx
   have hx1 : IsE3 A H1 x (.sell d n (Str.ofString "cup") p r f) := let ⟨dx, e⟩ := hx; ⟨dx, o1 _ _ n1 n2 n3 e⟩
   have hpc : pcD (dsR l1) = p := by rw [hg1]; exact DN (by omega) hv2 hp1
   have hl1 : l1 ≠ [] := fun e => by
    rw [e] at hpc
    have : (0 : Int) = p := hpc
    omega
   have hln : l1.length <= 61 := by
    have h2 := congrArg List.length hg1
    have h3 := yD (dsR kb.row) p
    unfold dsR at h2 h3
    rw [List.length_map] at h2
    rw [List.length_map] at h3
    have := rC hC.r
    have := hC.le
    omega
   have hgp : ∀ e ∈ dsR l1, 1 <= e.p /\ e.p <= 1000000000 := fun e he => by
    rw [hg1] at he
    exact ⟨Gr hp1 e he, yH (fun e he => (hC.r.g e he).2.1.2) e he⟩
   obtain ⟨_, ⟨p0, p1⟩, ⟨r0, r1⟩, f0, f1⟩ := hC.g
   have hbd : (p * r - f).natAbs < 2 ^ 300 := by
    have q1 : 0 <= p * r := Int.mul_nonneg (by omega) r0
    have q2 : p * r <= 1000000000 * 1000000000 := Int.mul_le_mul p1 r1 r0 (by decide)
    have : (p * r - f).natAbs <= 2 ^ 70 := by omega
    exact Nat.lt_of_le_of_lt this (Nat.pow_lt_pow_right (by decide) (by decide))
   refine ⟨x, la, d, n, p, r, f, l1, rfl, hx1, h1, hL1, hl1, hln, hgp, hbd, fun y s H2 s2 hy hpl hS e1 e2 e3 => ?_⟩
   have hB2 := hB1.same s2
   show sX (V.ref kb.sales) [V.ref y] H2 _
   rw [ap_append]
   refine ⟨_, hB2.s, ?_, ?_⟩
   ·unfold gQ
    rw [List.length_map, sizeLine_eq]
    have := hC.sl
    show kb.sl.length < _
    omega
   rw [show gQ kb.sl ++ [V.ref y] = gQ (kb.sl ++ [(y, s)]) by unfold gQ; rw [List.map_append]; rfl]
   refine k { kb with row := ls, q := q, sl := kb.sl ++ [(y, s)] } _ (o1.trans ((Off3.of s2).trans Off3.s)) (Jr hB2 hS fun e => ?_) ⟨rfl, rfl, ?_⟩
   ·have := hB1.s
    rw [e] at hpl
    rw [hpl] at this
    cases this
   ·show (dsR ls, gnS (kb.sl ++ [(y, s)])) = (iw _ _, _ ++ [_])
    unfold gnS
    rw [hg2, List.map_append]
    have : s.gn = (n, p * r - f - csD (cB (dsR kb.row) p)) := by unfold SaleD.gn; rw [e1, e2, e3, hg1]
    show (_, _ ++ [s.gn]) = _
    rw [this]
def jh (A : Adr) : Sp := fun vs H Q _ => ∃ (bk x : Addr) (k : BkD) (e : E3) (m : Nat), vs = [.ref bk, .ref x] /\ BkAt A H bk k /\ IsE3 A H x e /\ Can3 k e m /\
 ∀ k' H', Off3 bk k.rows k.sales H H' -> BkAt A H' bk k' -> Nxt k k' e -> Q .non H'
theorem jj (T : Txt K mg A D) : FnOk P w K mg base CX0 8 A.Book_do_by_kind D.Book_do_by_kind ["self", "entry"] (jh A) := by
 refine T.F_Book_do_by_kind.ok jE (fun vs H Q E h => ?_) (fun cdv A' outer s0 H vs Q E hr h => ?_)
 ·obtain ⟨bk, x, k, e, m, rfl, _⟩ := h; rfl
 ·obtain ⟨bk, x, kb, e, m, rfl, hB, ⟨dx, hx⟩, hC, k⟩ := h
  obtain ⟨db, hb⟩ := hB.b
  refine ⟨_, (aA (fL (kZ (aV (pU (K := K)) (by rfl) T.b_isinstance (by decide +kernel) (aj (pv 1) (aj (fj (v := V.ref A.C_Buy) (by rfl) T.m_Buy rfl) aq)))) (aA (aW (bJ (pv 0) (.cons T.cl_Book T.me_Book_do_buy (qO (K := K) T) (hr.mono (by decide)) (rn T) .nil) aP (aj (pv 1) aq)))) (aA (fL (kZ (aV (pU (K := K)) (by rfl) T.b_isinstance (by decide +kernel) (aj (pv 1) (aj (fj (v := V.ref A.C_Gift) (by rfl) T.m_Gift rfl) aq)))) (aA (aW (bJ (pv 0) (.cons T.cl_Book T.me_Book_do_gift (nj (K := K) T) (hr.mono (by decide)) (qK T) .nil) aP (aj (pv 1) aq)))) (aA (fL (kZ (aV (pU (K := K)) (by rfl) T.b_isinstance (by decide +kernel) (aj (pv 1) (aj (fj (v := V.ref A.C_Sell) (by rfl) T.m_Sell rfl) aq)))) (aA (aW (bJ (pv 0) (.cons T.cl_Book T.me_Book_do_sell (mX (K := K) T) (hr.mono (by decide)) (qP T) .nil) aP (aj (pv 1) aq)))) (aA (dj)))))))), ?_⟩
  walk_at "rda"
  cases e with
  | buy d n w p r f =>
   refine ⟨_, T.ty_Buy.of hx, _, T.ki_BB, ?_⟩
   rw [if_pos rfl]
   exact ⟨_, db, _, hb, _, List.mem_cons_self, by rfl, bk, x, kb, _, m, rfl, rfl, hB, ⟨dx, hx⟩, hC, k⟩
  | gift d n w p c s =>
   refine ⟨_, T.ty_Gift.of hx, _, T.ki_GB, ?_⟩
   rw [if_neg (by decide)]
   refine ⟨_, T.ty_Gift.of hx, _, T.ki_GG, ?_⟩
   rw [if_pos rfl]
   exact ⟨_, db, _, hb, _, List.mem_cons_self, by rfl, bk, x, kb, _, m, rfl, rfl, hB, ⟨dx, hx⟩, hC, k⟩
  | sell d n w p r f =>
   refine ⟨_, T.ty_Sell.of hx, _, T.ki_SB, ?_⟩
   rw [if_neg (by decide)]
   refine ⟨_, T.ty_Sell.of hx, _, T.ki_SG, ?_⟩
   rw [if_neg (by decide)]
   refine ⟨_, T.ty_Sell.of hx, _, T.ki_SS, ?_⟩
   rw [if_pos rfl]
   exact ⟨_, db, _, hb, _, List.mem_cons_self, by rfl, bk, x, kb, _, m, rfl, rfl, hB, ⟨dx, hx⟩, hC, k⟩
def Aft (k : BkD) (e : E3) : Prop := ∀ t, k.last = some t -> t.2.1 < e.day \/ (t.2.1 = e.day /\ t.2.2 < e.num)
theorem Kp {a b c d : Int} (h : c < a \/ (c = a /\ d < b)) : HT.lexLe [a, b] [c, d] = false := by
 unfold HT.lexLe
 by_cases e : a = c
 ·rw [if_pos e]
  unfold HT.lexLe
  rw [if_neg (by omega)]
  exact decide_eq_false (by omega)
 ·rw [if_neg e]
  exact decide_eq_false (by omega)
def zT (A : Adr) : Sp := fun vs H Q _ => ∃ (bk x : Addr) (k : BkD) (e : E3) (m : Nat), vs = [.ref bk, .ref x] /\ BkAt A H bk k /\ IsE3 A H x e /\ Can3 k e m /\ Aft k e /\
 ∀ k' t H', Off3 bk k.rows k.sales H H' -> BkAt A H' bk k' -> Nxt k k' e -> k'.last = some (t, e.day, e.num) -> Q .non H'
theorem yQ (T : Txt K mg A D) : FnOk P w K mg base CX0 9 A.Book_do D.Book_do ["self", "entry"] (zT A) := by
 refine T.F_Book_do.ok zc (fun vs H Q E h => ?_) (fun cdv A' outer s0 H vs Q E hr h => ?_)
 ·obtain ⟨bk, x, k, e, m, rfl, _⟩ := h; rfl
 ·obtain ⟨bk, x, kb, e, m, rfl, hB, hx, hC, hA, k⟩ := h
  obtain ⟨db, hb⟩ := hB.b
  refine ⟨_, (ao (fL (PW.pt (zZ (bj (Ai) (aB (K := K) (pv 0) rfl) fM (bC _)) (wN (bj ((Iu (K := K) hr)) (aK (jc (K := K) T) (hr.mono (by decide)) (by rfl) T.m_place_of T.k_place_of (jZ T) .nil aP (aj (pv 1) aq)) (aB (K := K) (pv 0) rfl) (bC _))))) (aA (dj)) dg)
   (ao (fL (bj (nG) (bJ (pv 1) (.cons T.cl_Buy T.me_Buy_held_behind (jG (K := K) T) (hr.mono (by decide)) (kj T) (.cons T.cl_Gift T.me_Gift_held_behind (iZ (K := K) T) (hr.mono (by decide)) (jn T) (.cons T.cl_Sell T.me_Sell_held_behind (jf (K := K) T) (hr.mono (by decide)) (jz T) .nil))) aP (aj (gb (pv 0) (.cons T.cl_Book T.me_Book_held (lw (K := K) T) (hr.mono (by decide)) (oh T) .nil) aP) aq)) fM (bC _)) (aA (dj)) dg)
   (ao (aW (bJ (pv 0) (.cons T.cl_Book T.me_Book_do_by_kind (jj (K := K) T) (hr.mono (by decide)) (jT T) .nil) aP (aj (pv 1) aq)))
   (aA (aY (K := K) (pv 0) (aK (jc (K := K) T) (hr.mono (by decide)) (by rfl) T.m_place_of T.k_place_of (jZ T) .nil aP (aj (pv 1) aq)) rfl))))), ?_⟩
  simp only [start_eq]
  refine xP (fun σ' H' => σ' = [some (.ref bk), some (.ref x)] /\ Same H H') ?_ ?_
  ·rintro σ1 H1 ⟨rfl, s1⟩
   refine xP (fun σ' H' => σ' = [some (.ref bk), some (.ref x)] /\ Same H H') ?_ ?_
   ·rintro σ2 H2 ⟨rfl, s2⟩
    have hB2 := hB.same s2
    have hx2 := hx.same s2
    obtain ⟨db2, hb2⟩ := hB2.b
    walk_at "nx"
    refine ⟨_, db2, _, hb2, _, List.mem_cons_self, by rfl, bk, x, kb, e, m, rfl, hB2, hx2, hC, fun k3 H3 o3 hB3 hp3 => ?_⟩
    obtain ⟨n1, n2, n3⟩ := Le hB2 hx2
    have hx3 : IsE3 A H3 x e := let ⟨dx, h⟩ := hx2; ⟨dx, o3 _ _ n1 n2 n3 h⟩
    try dsimp only
    refine ⟨x, e, rfl, hx3, fun t ht => ?_⟩
    have s4 := Same.new (o := .tup [V.int e.day, V.int e.num]) ht
    have hB4 := hB3.same s4
    have ht4 : (upd H3 t (.tup [V.int e.day, V.int e.num])) t = some (.tup [V.int e.day, V.int e.num]) := au
    generalize upd H3 t (.tup [V.int e.day, V.int e.num]) = H4 at s4 hB4 ht4 ⊢
    obtain ⟨db4, hb4⟩ := hB4.b
    refine ⟨_, db4, _, hb4, T.cl_Book, T.n_Book_last_place, (show (7 : Nat) < 1000 by decide), ?_⟩
    rw [show V.ref t = wX (some (t, e.day, e.num)) from rfl, Bk]
    exact k _ t _ ((Off3.of s2).trans (o3.trans ((Off3.of s4).trans Off3.b))) (BP hB4 ⟨rfl, rfl, rfl, rfl, rfl, rfl, rfl⟩ fun u hu => by cases hu; exact ht4) hp3 rfl
   ·intro N hN
    have hB1 := hB.same s1
    obtain ⟨db1, hb1⟩ := hB1.b
    obtain ⟨dx, hx1⟩ := hx.same s1
    walk_at "rdi"
    have hmem : (e.cls A, ou A e.kd) ∈ [(A.C_Buy, ou A 0), (A.C_Gift, ou A 1), (A.C_Sell, ou A 2)] := by
     cases e with
     | buy => exact List.mem_cons_self
     | gift => exact List.mem_cons_of_mem _ List.mem_cons_self
     | sell => exact List.mem_cons_of_mem _ (List.mem_cons_of_mem _ List.mem_cons_self)
    refine ⟨_, dx, _, hx1, _, hmem, by cases e <;> rfl, _, db1, _, hb1, _, List.mem_cons_self, by rfl, bk, kb, rfl, hB1, by have := rC hC.r; have := hC.le; omega, fun p H2 s2 hpn hp2 => ?_⟩
    have hHe := Ez (row := kb.row) fun d hd => (hC.r.g d hd).2.1.1
    refine ⟨x, p, e, _, rfl, rfl, ⟨dx, s2 _ _ hx1⟩, .inl hp2, hHe, ?_, fun d n w pp r f ee => ?_, fun p2 H3 s3 hp3 => ?_⟩
    ·cases kb.row <;> simp [hl1]
    ·subst ee
     have hw : w = Str.ofString "cup" := hC.w
     rw [hw, Ja]
     exact hC.v.2
    show (if V.ref p2 = V.non then _ else _)
    rw [if_neg (fun c => by cases c)]
    exact hN _ _ ⟨rfl, s1.trans (s2.trans s3)⟩
  ·intro N hN
   walk_at "rdi"
   refine ⟨_, db, _, hb, T.cl_Book, T.n_Book_last_place, wX kb.last, by rfl, ?_⟩
   cases hl : kb.last with
   | none =>
    rw [if_neg (by simp [wX])]
    exact hN _ _ ⟨rfl, Same.refl _⟩
   | some t =>
    rw [if_pos (by simp [wX])]
    refine ⟨x, e, rfl, hx, fun t1 ht1 => ?_⟩
    have s1 := Same.new (o := .tup [V.int e.day, V.int e.num]) ht1
    refine ⟨_, db, _, s1 _ _ hb, T.cl_Book, T.n_Book_last_place, wX kb.last, by rfl, ?_⟩
    rw [hl]
    refine ⟨t1, t.1, [e.day, e.num], [t.2.1, t.2.2], rfl, rfl, SqT.of au, SqT.of (s1 _ _ (hB.p t hl)), _, rfl, ?_⟩
    rw [Kp (hA t hl), if_neg (by decide)]
    exact hN _ _ ⟨rfl, s1⟩
def wG (A : Adr) : Sp := fun vs H Q _ => ∃ (bk q : Addr) (k : BkD) (es : EL) (hs : List E3), vs = [.ref bk, .ref q] /\ BkAt A H bk k /\ k.row = [] /\ k.last = Option.none /\ k.sl = [] /\ H q = some (.lst (gm es)) /\ EntAt A H es /\ Hst hs /\ hs.length <= 60 /\ (es.map (·.2)).Perm hs /\
 ∀ k' H', BkAt A H' bk k' -> (dsR k'.row, gnS k'.sl) = lu hs -> Q (.ref bk) H'
theorem lD (T : Txt K mg A D) : FnOk P w K mg base CX0 10 A.with_all_done D.with_all_done ["book", "entries"] (wG A) := by
 refine T.F_with_all_done.ok sc_with_all_done (fun vs H Q E h => ?_) (fun cdv A' outer s0 H vs Q E hr h => ?_)
 ·obtain ⟨bk, q, k, es, hs, rfl, _⟩ := h; rfl
 ·obtain ⟨bk, q, kb, es, hs, rfl, hB, er, el, es0, hq, hE, hH, hl, hpm, k⟩ := h
  refine ⟨_, (ao (jg PassesOwn.never rfl (aZ (K := K) (aK (vP (K := K) T) (hr.mono (by decide)) (by rfl) T.m_in_order T.k_in_order (zO T) .nil aP (aj (pv 1) aq))) (aH (i := 2) sc_with_all_done.nd rfl (Or.inl rfl))
    (aA (aW (bJ (pv 0) (.cons T.cl_Book T.me_Book_do (yQ (K := K) T) (hr.mono (by decide)) (DW T) .nil) aP (aj (pv 2) aq)))))
   (aA (aR (pv 0)))), ?_⟩
  simp only [start_eq]
  rw [ap_seq, ap_for]
  walk_at "rdi"
  have hln : es.length = hs.length := by have := hpm.length_eq; rwa [List.length_map] at this
  have hnn : (hs.map E3.num).Nodup := by
   refine List.pairwise_map.mpr (List.pairwise_iff_getElem.mpr fun i j hi hj hij e => ?_)
   have h1 := hH.n i hs[i] (List.getElem?_eq_getElem hi)
   have h2 := hH.n j hs[j] (List.getElem?_eq_getElem hj)
   omega
  refine ⟨q, es, rfl, hq, hE, by omega, ?_, fun p es' H1 s1 hp h1 hpm1 hbf => ?_⟩
  ·have := (hpm.map E3.num).nodup_iff.mpr hnn
   rwa [List.map_map] at this
  have hes : es'.map (·.2) = hs := Lk ((hpm1.map (·.2)).trans hpm) hbf hH.b
  have hE1 : EntAt A H1 es' := fun r hr => (hE r (hpm1.mem_iff.mp hr)).same s1
  have hB1 := hB.same s1
  refine ⟨p, rfl, ⟨_, SqL.of h1⟩, ?_⟩
  refine ForP.list (K := K) (a := p) (xs := gm es') (fun i σ H2 => ∃ (k2 : BkD) (v2 : Option V), σ = [some (.ref bk), some (.ref q), v2] /\ BkAt A H2 bk k2 /\ k2.rows = kb.rows /\ k2.sales = kb.sales /\ Off3 bk kb.rows kb.sales H1 H2 /\ (dsR k2.row, gnS k2.sl) = lu (hs.take i) /\ (∀ t, k2.last = some t -> ∃ e ∈ hs.take i, t.2.1 = e.day /\ t.2.2 = e.num) /\ k2.sl.length <= i)
   ⟨kb, _, rfl, hB1, rfl, rfl, fun a o _ _ _ h => h, by rw [er, es0]; rfl, fun t h => (by rw [el] at h; cases h), by rw [es0]; exact Nat.le_refl _⟩ (fun i σ H2 _ ⟨k2, _, _, _, _, _, o2, _⟩ => SqL.of (o2 _ _ (fun e => ?_) (fun e => ?_) (fun e => ?_) h1)) ?_ ?_
  ·obtain ⟨db, hb⟩ := hB1.b
   rw [e, hb] at h1
   cases h1
  ·rw [e, hB1.r] at h1
   cases h1
  ·rw [e, hB.s] at hp
   cases hp
  ·rintro i y σ H2 hi ⟨k2, v2, rfl, hB2, e1, e2, o2, hrun, hlast, hsl⟩
   obtain ⟨r, hri, rfl⟩ := um hi
   have hrm := List.mem_of_getElem? hri
   have hil : i < es'.length := (List.getElem?_eq_some_iff.mp hri).1
   have hhi : hs[i]? = some r.2 := by rw [<- hes, List.getElem?_map, hri]; rfl
   have hln' : es'.length = hs.length := by rw [<- hes, List.length_map]
   obtain ⟨n1, n2, n3⟩ := Le hB1 (hE1 r hrm)
   have hx2 : IsE3 A H2 r.1 r.2 := let ⟨dx, h⟩ := hE1 r hrm; ⟨dx, o2 _ _ n1 n2 n3 h⟩
   obtain ⟨db2, hb2⟩ := hB2.b
   have hgd := hH.g r.2 (List.mem_of_getElem? hhi)
   have hrow : dsR k2.row = (lu (hs.take i)).1 := congrArg Prod.fst hrun
   have htk : hs.take (i + 1) = hs.take i ++ [r.2] := by rw [List.take_add_one, hhi]; rfl
   have hcan : Can3 k2 r.2 i := ⟨hgd.1, hgd.2, by rw [hrow]; exact hH.r i (by omega), by omega, hH.n i _ hhi, by rw [hrow]; exact hH.v i _ hhi, by omega⟩
   have haft : Aft k2 r.2 := fun t ht => by
    obtain ⟨e, he, ed, en⟩ := hlast t ht
    have h4 := hH.b
    rw [<- List.take_append_drop i hs] at h4
    have h5 := (List.pairwise_append.mp h4).2.2 e he r.2 (by
     have hil' : i < hs.length := by omega
     rw [List.drop_eq_getElem_cons hil']
     have : hs[i] = r.2 := by rw [List.getElem?_eq_getElem hil'] at hhi; exact Option.some.inj hhi
     rw [this]
     exact List.mem_cons_self)
    rw [ed, en]
    exact h5
   walk_at "rdi"
   refine ⟨_, db2, _, hb2, _, List.mem_cons_self, by rfl, bk, r.1, k2, r.2, i, rfl, hB2, hx2, hcan, haft, fun k3 t H3 o3 hB3 hN hlst => ?_⟩
   obtain ⟨g1, g2, g3⟩ := hN
   rw [e1, e2] at o3
   refine ⟨k3, hB3, g1.trans e1, g2.trans e2, o2.trans o3, ?_, fun u hu => ?_, ?_⟩
   ·rw [g3, hrun, htk, rP]
   ·rw [hlst] at hu
    cases hu
    exact ⟨r.2, by rw [htk]; exact List.mem_append.mpr (.inr (by simp)), rfl, rfl⟩
   ·have h7 := congrArg (fun z => z.2.length) g3
    have h8 : (stE (dsR k2.row, gnS k2.sl) r.2).2.length <= (gnS k2.sl).length + 1 := by
     cases r.2 with
     | sell => show (_ ++ [_]).length <= _; rw [List.length_append]; exact Nat.le_refl _
     | buy => exact Nat.le_succ _
     | gift => exact Nat.le_succ _
    have h9 : ∀ sl : List (Addr × SaleD), (gnS sl).length = sl.length := fun sl => by unfold gnS; rw [List.length_map]
    rw [h9] at h8
    have h7 : (gnS k3.sl).length = _ := h7
    rw [h9] at h7
    omega
  ·rintro σ H2 ⟨k2, v2, rfl, hB2, e1, e2, o2, hrun, hlast, hsl⟩
   rw [fP, show es'.length = hs.length by rw [<- hes, List.length_map], List.take_length] at hrun
   walk_at "rda"
   exact k k2 H2 hB2 hrun
def yS (A : Adr) : Sp := fun vs H Q _ => ∃ (w dw q : Addr) (es : EL) (hs : List E3), vs = [.ref w, .ref q] /\ H w = some (.ins A.C_Eldest dw []) /\ H q = some (.lst (gm es)) /\ EntAt A H es /\ Hst hs /\ hs.length <= 60 /\ (es.map (·.2)).Perm hs /\
 ∀ b k' H', BkAt A H' b k' -> (dsR k'.row, gnS k'.sl) = lu hs -> Q (.ref b) H'
theorem yW (T : Txt K mg A D) : FnOk P w K mg base CX0 11 A.book_of D.book_of ["way", "entries"] (yS A) := by
 refine T.F_book_of.ok zF (fun vs H Q E h => ?_) (fun cdv A' outer s0 H vs Q E hr h => ?_)
 ·obtain ⟨w, dw, q, es, hs, rfl, _⟩ := h; rfl
 ·obtain ⟨w, dw, q, es, hs, rfl, hw, hq, hE, hH, hl, hpm, k⟩ := h
  refine ⟨_, (aA (aR (aK (lD (K := K) T) (hr.mono (by decide)) (by rfl) T.m_with_all_done T.k_with_all_done (pC T) .nil aP (aj (fO T.mk_Book (lQ (K := K) T) (hr.mono (by decide)) (by rfl) T.m_Book (oV T) .nil aP (aj (pv 0) aq)) (aj (pv 1) aq))))), ?_⟩
  walk_at "rda"
  intro b db hb hdb _
  have hN := kY (C := A.C_Book) hb hdb
  refine ⟨b, w, H, db, dw, rfl, hN, hN.s _ _ hw, fun e => (by rw [e, hb] at hw; cases hw), fun H1 k1 s1 hB1 _ _ er el es0 => ⟨rfl, ?_⟩⟩
  exact ⟨b, q, k1, es, hs, rfl, hB1, er, el, es0, s1 _ _ hq, fun r hr => (hE r hr).same s1, hH, hl, hpm, fun k2 H2 hB2 hr2 => k b k2 H2 hB2 hr2⟩
theorem IsSale.but {H H' : Hp} {D x : Addr} {s : SaleD} {xs : List V} (h : IsSale A H x s) (hD : H D = some (.lst xs)) (hp : s.pl ≠ D) (b : But D H H') : IsSale A H' x s := by
 obtain ⟨dx, hi⟩ := h.i
 refine ⟨⟨dx, b _ _ (fun e => by rw [e, hD] at hi; cases hi) hi⟩, b _ _ hp h.p, fun r hr => ?_, h.l⟩
 have h1 := h.t r hr
 exact b _ _ (fun e => by rw [e, hD] at h1; cases h1) h1
theorem Ks {H : Hp} : ∀ {acc : List V} {sl : List (Addr × SaleD)}, acc.length = sl.length -> (∀ (i : Nat) v, acc[i]? = some v -> ∃ y t s, sl[i]? = some t /\ v = .ref y /\ IsSale A H y s /\ s.gn = t.2.gn) -> ∃ sl' : List (Addr × SaleD), acc = gQ sl' /\ gnS sl' = gnS sl /\ ∀ t ∈ sl', IsSale A H t.1 t.2
 | [], [], _, _ => ⟨[], rfl, rfl, fun r h => (List.not_mem_nil h).elim⟩
 | [], _ :: _, h, _ => by simp at h
 | _ :: _, [], h, _ => by simp at h
 | v :: acc, t :: sl, hl, h => by
  obtain ⟨y, t', s, e, rfl, hs, hg⟩ := h 0 v rfl
  cases e
  obtain ⟨sl', e1, e2, e3⟩ := Ks (acc := acc) (sl := sl) (by simpa using hl) fun i v hv => h (i + 1) v hv
  refine ⟨(y, s) :: sl', by rw [e1]; rfl, ?_, fun r hr => ?_⟩
  ·show s.gn :: gnS sl' = t.2.gn :: gnS sl
   rw [e2, hg]
  ·rcases List.mem_cons.mp hr with rfl | hr
   ·exact hs
   ·exact e3 r hr
theorem oA {rs : List (Addr × SaleD)} {i : Nat} {y : V} (h : (gQ rs)[i]? = some y) : ∃ r, rs[i]? = some r /\ y = .ref r.1 := by
 unfold gQ at h
 rw [List.getElem?_map] at h
 cases e : rs[i]? with
 | none => rw [e] at h; cases h
 | some r => rw [e] at h; exact ⟨r, rfl, (Option.some.inj h).symm⟩
theorem gk (rs : List (Addr × SaleD)) : (gQ rs).length = rs.length := by unfold gQ; rw [List.length_map]
def su (A : Adr) : Sp := fun vs H Q _ => ∃ (b : Addr) (k : BkD), vs = [.ref b] /\ BkAt A H b k /\ k.sl.length <= 100 /\ ∀ l sl H', Same H H' -> H l = Option.none -> H' l = some (.lst (gQ sl)) -> (∀ t ∈ sl, IsSale A H' t.1 t.2) -> gnS sl = gnS k.sl -> Q (.ref l) H'
theorem rD (T : Txt K mg A D) : FnOk P w K mg base CX0 4 A.Book_sales D.Book_sales ["self"] (su A) := by
 refine T.F_Book_sales.ok rR (fun vs H Q E h => ?_) (fun cdv A' outer s0 H vs Q E hr h => ?_)
 ·obtain ⟨b, k, rfl, _⟩ := h; rfl
 ·obtain ⟨b, kb, rfl, hB, hl, k⟩ := h
  refine ⟨_, (aA (aR (bI (cap := [Option.none]) (N' := ["sale"]) rfl (by walk_at "compok") (aZ (K := K) (aB (K := K) (pv 0) rfl)) (fun _ _ _ _ => (aH (i := 0) (show (["sale"] : List Str).Nodup from by decide +kernel) rfl (Or.inl rfl) (Or.inr rfl))) (fun _ _ _ _ => bH) (fun _ _ _ _ => (aK (oR (K := K) T) (hr.mono (by decide)) (by rfl) T.m_copy_of_sale T.k_copy_of_sale (qz T) .nil aP (aj (pv 0) aq)))))), ?_⟩
  walk_at "rda"
  obtain ⟨dx, hb⟩ := hB.b
  refine ⟨_, dx, _, hb, T.cl_Book, T.n_Book_sales_done, _, by rfl, kb.sales, rfl, ⟨_, SqL.of hB.s⟩, ?_⟩
  refine CompP.listE (K := K) (fun σ => ∃ a, σ = [a]) (fun i v H' => ∃ y t s, kb.sl[i]? = some t /\ v = .ref y /\ IsSale A H' y s /\ s.gn = t.2.gn) (SqL.of hB.s) ⟨_, rfl⟩ (by rw [gk, sizeLine_eq]; omega) ?_ ?_
  ·rintro Da i x hx σ H5 R ⟨_, rfl⟩ sm hD ⟨acc, hA⟩ kk
   obtain ⟨t, ht, rfl⟩ := oA hx
   walk_at "rdi"
   refine ⟨t.1, t.2, rfl, ((hB.sa t (List.mem_of_getElem? ht)).1).same sm, fun y pl H6 s6 hy hpl hS => kk (.ref y) _ H6 ⟨_, rfl⟩ s6 fun H' hb => ⟨y, t, _, ht, rfl, hS.but (s6 _ _ hA) (fun e => by rw [show pl = Da from e, hA] at hpl; cases hpl) hb, rfl⟩⟩
  ·intro Da H' acc hD sm hA hlen hF
   rw [gk] at hlen
   obtain ⟨sl, e1, e2, e3⟩ := Ks hlen hF
   exact k Da sl H' sm hD (e1 ▸ hA) e3 e2
end
end My
namespace My
open PySem L2 PyProof.Rows
section
variable {P : Program} {w : World} {K : Fg_} {mg : Str -> Option Value} {base : Heap} {A : Adr} {D : Fds}
local macro_rules | `(tactic| walk_at "nx") => `(tactic| ((try dsimp only); rw [ap_seq]; walk_at "rdi"))
def sV : V -> Str
 | .int i => fU i
 | .str z => z
 | _ => Str.empty
def jr (ws : List V) : Str := Txt.join (Str.ofString " ") (ws.map sV) ++ Str.ofString "\n"
theorem bQ (a b c : Str) : a ++ b ++ c = a ++ (b ++ c) := by
 show Str.mk (a.cps ++ b.cps ++ c.cps) = Str.mk (a.cps ++ (b.cps ++ c.cps))
 rw [Array.append_assoc]
theorem str_len (a b : Str) : (a ++ b).length = a.length + b.length := by
 show (a.cps ++ b.cps).size = _
 rw [Array.size_append]; rfl
theorem vZ : (Str.ofString "").cps = #[] := by decide +kernel
theorem xU (z : Str) : ∀ (xs : List Str) (a : Array _), xs.foldl (fun acc p => acc ++ z.cps ++ p.cps) a = (xs.foldl (fun (t : Str) x => t ++ z ++ x) ⟨a⟩).cps
 | [], a => rfl
 | x :: xs, a => by
  rw [List.foldl_cons, List.foldl_cons, xU z xs]
  rfl
theorem jY (x : Str) : Str.ofString "" ++ x = x := by
 show Str.mk ((Str.ofString "").cps ++ x.cps) = x
 rw [vZ, Array.empty_append]
theorem sI (x : Str) : x ++ Str.ofString "" = x := by
 show Str.mk (x.cps ++ (Str.ofString "").cps) = x
 rw [vZ, Array.append_empty]
theorem gH (z x : Str) (xs : List Str) : Txt.join z (x :: xs) = xs.foldl (fun t y => t ++ z ++ y) x := by
 show Str.mk (xs.foldl (fun acc p => acc ++ z.cps ++ p.cps) x.cps) = _
 rw [xU]
def qy (xs : List Str) : Str := xs.foldl (fun t x => t ++ x) (Str.ofString "")
theorem BZ (xs : List Str) (x : Str) : qy (xs ++ [x]) = qy xs ++ x := by
 unfold qy
 rw [List.foldl_append]
 rfl
theorem mJ (xs ys : List Str) : qy (xs ++ ys) = qy xs ++ qy ys := by
 induction ys generalizing xs with
 | nil => rw [List.append_nil]; exact (sI _).symm
 | cons y ys ih =>
  rw [show xs ++ y :: ys = (xs ++ [y]) ++ ys by simp, ih, BZ, bQ]
  congr 1
  rw [show y :: ys = [y] ++ ys from rfl, ih [y]]
  congr 1
  exact (jY y).symm
theorem Ff (xs : List Str) : Txt.join (Str.ofString "") xs = qy xs := by
 cases xs with
 | nil =>
  show Str.mk Str.empty.cps = Str.ofString ""
  have : (Str.ofString "").cps = Str.empty.cps := by rw [vZ]; rfl
  rw [<- this]
 | cons x xs =>
  rw [gH]
  unfold qy
  rw [List.foldl_cons, jY]
  have : (fun (t : Str) y => t ++ Str.ofString "" ++ y) = fun t y => t ++ y := by funext t y; rw [sI]
  rw [this]
def zK (v : V) : Prop := (∃ i : Int, v = .int i /\ i.natAbs < 2 ^ 300) \/ ∃ z : Str, v = .str z /\ z.length <= 2000
theorem KC {v : V} (h : zK v) : (sV v).length <= 2000 := by
 rcases h with ⟨i, rfl, hi⟩ | ⟨z, rfl, hz⟩
 ·exact Nat.le_trans (cJ hi) (by decide)
 ·exact hz
theorem nF : ∀ {ws : List V}, (∀ v ∈ ws, zK v) -> ((ws.map sV).map (·.length)).sum <= 2000 * ws.length
 | [], _ => Nat.zero_le _
 | v :: ws, h => by
  have h1 := KC (h v List.mem_cons_self)
  have h2 := nF fun x hx => h x (List.mem_cons_of_mem _ hx)
  rw [List.map_cons, List.map_cons, List.sum_cons, List.length_cons]
  omega
theorem yr {ws : List V} (h : ∀ v ∈ ws, zK v) : (jr ws).length <= 2001 * ws.length + 1 := by
 have h1 := nF h
 have h2 := StrLaws.join_length_le (Str.ofString " ") (ws.map sV)
 have e1 : (Str.ofString " ").length = 1 := by decide +kernel
 have e2 : (Str.ofString "\n").length = 1 := by decide +kernel
 rw [List.length_map, e1] at h2
 have h3 : (Txt.join (Str.ofString " ") (ws.map sV)).length <= ((ws.map sV).map (·.length)).sum + ws.length * 1 := by
  have e3 : Txt.join (Str.ofString " ") (ws.map sV) = Str.join (Str.ofString " ") (ws.map sV) := StrLaws.glued_eq_join _ _
  rw [e3]
  exact h2
 unfold jr
 rw [str_len, e2]
 omega
def mU (K : Fg_) : Sp := fun vs H Q _ => ∃ (q : Addr) (ws : List V), vs = [.ref q] /\ H q = some (.lst ws) /\ (∀ v ∈ ws, zK v) /\ ws.length <= 70 /\ ∀ H', Same H H' -> Q (.str (jr ws)) H'
theorem Kd : ∀ ws : List V, (ws.filter fun _ => true).map (fun v => V.str (sV v)) = (ws.map sV).map V.str := fun ws => by
 rw [List.filter_eq_self.mpr fun _ _ => rfl, List.map_map]
 rfl
theorem mV (T : Txt K mg A D) : FnOk P w K mg base CX0 1 A.row_of_words D.row_of_words ["words"] (mU K) := by
 refine T.F_row_of_words.ok nZ (fun vs H Q E h => ?_) (fun cdv A' outer s0 H vs Q E hr h => ?_)
 ·obtain ⟨q, ws, rfl, _⟩ := h; rfl
 ·obtain ⟨q, ws, rfl, hq, hw, hl, k⟩ := h
  refine ⟨_, (aA (aR (aL aX (gq (K := K) PySem.F.plainAttrs_str PySem.F.slot_str_join PySem.F.type_str_join BJ bF (aj (bI (cap := [Option.none]) (N' := ["word"]) rfl (by walk_at "compok") (aZ (K := K) (pv 0)) (fun _ _ _ _ => (aH (i := 0) (show (["word"] : List Str).Nodup from by decide +kernel) rfl (Or.inl rfl) (Or.inr rfl))) (fun _ _ _ _ => bH) (fun _ _ _ _ => (bB dY (by rfl) T.b_str (by decide +kernel) (aj (pv 0) aq)))) aq)) bF))), ?_⟩
  walk_at "rda"
  refine ⟨rfl, ⟨_, SqL.of hq⟩, ?_⟩
  refine CompP.list (K := K) (xs := ws) (fun σ => ∃ a, σ = [a]) (fun _ => true) (fun v => .str (sV v)) (SqL.of hq) ⟨_, rfl⟩ (by rw [sizeLine_eq]; omega) ?_ ?_
  ·rintro x hx σ H5 R1 R2 ⟨_, rfl⟩ sm k1 k2
   walk_at "rdi"
   rcases hw x hx with ⟨i, rfl, hi⟩ | ⟨z, rfl, hz⟩
   ·exact .inl ⟨i, rfl, hi, k1 rfl _ _ ⟨_, rfl⟩ (Same.refl _)⟩
   ·exact .inr ⟨z, rfl, k1 rfl _ _ ⟨_, rfl⟩ (Same.refl _)⟩
  ·intro D H' hD s e
   rw [Kd] at e
   have h1 := nF hw
   have e1 : (Str.ofString " ").length = 1 := by decide +kernel
   have e2 : (Str.ofString "\n").length = 1 := by decide +kernel
   have h2 := yr hw
   unfold jr at h2
   rw [str_len, e2] at h2
   refine ⟨_, D, _, rfl, rfl, e, by rw [List.length_map, e1]; omega, ?_⟩
   exact ⟨_, rfl, by rw [e2, sizeLine_eq]; omega, k H' s⟩
def FZ (d : LotD) : Str := fU d.n ++ Str.ofString ":" ++ fU d.p ++ Str.ofString ":" ++ fU d.c
def BgD (d : LotD) : Prop := d.n.natAbs < 2 ^ 300 /\ d.p.natAbs < 2 ^ 300 /\ d.c.natAbs < 2 ^ 300
def qx (A : Adr) : Sp := fun vs H Q _ => ∃ (x : Addr) (d : LotD), vs = [.ref x] /\ IsLot A H x d /\ BgD d /\ Q (.str (FZ d)) H
theorem qJ (T : Txt K mg A D) : FnOk P w K mg base CX0 1 A.word_of_lot D.word_of_lot ["lot"] (qx A) := by
 refine T.F_word_of_lot.ok sc_word_of_lot (fun vs H Q E h => ?_) (fun cdv A' outer s0 H vs Q E hr h => ?_)
 ·obtain ⟨x, d, rfl, _⟩ := h; rfl
 ·obtain ⟨x, d, rfl, ⟨dx, hx⟩, ⟨b1, b2, b3⟩, k⟩ := h
  refine ⟨_, (ao (aO (i := 1) sc_word_of_lot.nd rfl (Or.inl rfl) (aB (K := K) (pv 0) rfl))
   (ao (aO (i := 2) sc_word_of_lot.nd rfl (Or.inl rfl) (aB (K := K) (pv 0) rfl))
   (ao (aO (i := 3) sc_word_of_lot.nd rfl (Or.inl rfl) (aB (K := K) (pv 0) rfl))
   (aA (aR (zL (pv 1) (pv 2) (pv 3))))))), ?_⟩
  simp only [start_eq]
  walk_at "nx"
  refine ⟨_, dx, _, hx, T.cl_Lot, T.n_Lot_number, _, by rfl, ?_⟩
  walk_at "nx"
  refine ⟨_, dx, _, hx, T.cl_Lot, T.n_Lot_pieces, _, by rfl, ?_⟩
  walk_at "nx"
  refine ⟨_, dx, _, hx, T.cl_Lot, T.n_Lot_cost, _, by rfl, ?_⟩
  exact ⟨b1, b2, _, rfl, b3, k⟩
def lG (A : Adr) : Sp := fun vs H Q _ => ∃ (x : Addr) (s : SaleD), vs = [.ref x] /\ IsSale A H x s /\ ∀ l H', Same H H' -> H l = Option.none -> H' l = some (.lst [.str (Str.ofString "sale"), .int s.gn.1, .int s.gn.2]) -> Q (.ref l) H'
theorem lO (T : Txt K mg A D) : FnOk P w K mg base CX0 4 A.words_of_sale D.words_of_sale ["sale"] (lG A) := by
 refine T.F_words_of_sale.ok sc_words_of_sale (fun vs H Q E h => ?_) (fun cdv A' outer s0 H vs Q E hr h => ?_)
 ·obtain ⟨x, s, rfl, _⟩ := h; rfl
 ·obtain ⟨x, s, rfl, hx, k⟩ := h
  refine ⟨_, (ao (aO (i := 1) sc_words_of_sale.nd rfl (Or.inl rfl) (cY (aj bF (aj (aB (K := K) (pv 0) rfl) (aj (gb (pv 0) (.cons T.cl_Sale T.me_Sale_counted (iD (K := K) T) (hr.mono (by decide)) (iY T) .nil) aP) aq)))))
   (aA (aR (jD (bj (nG) (aB (K := K) (pv 0) rfl) fM (bC _)) (pv 1) (aL ul (pv 1) (cY (aj bF (aj (aB (K := K) (pv 0) rfl) aq)))))))), ?_⟩
  obtain ⟨dx, hi⟩ := hx.i
  simp only [start_eq]
  walk_at "nx"
  refine ⟨_, dx, _, hi, T.cl_Sale, T.n_Sale_number, _, by rfl, _, dx, _, hi, _, List.mem_cons_self, by rfl, x, s, rfl, hx, fun H1 s1 => ⟨by rw [sizeLine_eq]; decide, fun l hl => ?_⟩⟩
  have s2 := s1.trans (Same.new (o := .lst [V.str (Str.ofString "sale"), V.int s.n, V.int (s.pr - s.co)]) hl)
  refine ⟨_, dx, _, s2 _ _ hi, T.cl_Sale, T.n_Sale_laid_on, .non, by rfl, ?_⟩
  rw [if_pos rfl]
  exact k l _ s2 (s1.free hl) au
def hwV (ds : List LotD) : List V := [.str (Str.ofString "held"), .str (Str.ofString "cup"), .int (pcD ds), .int (csD ds)] ++ ds.map fun d => .str (FZ d)
def lJ (A : Adr) : Sp := fun vs H Q _ => ∃ (q : Addr) (ls : RL), vs = [.str (Str.ofString "cup"), .ref q] /\ H q = some (.lst (aQ ls)) /\ LotAt A H ls /\ ls.length <= 61 /\ (∀ d ∈ dsR ls, BgD d) /\ ∀ l H', Same H H' -> H l = Option.none -> H' l = some (.lst (hwV (dsR ls))) -> Q (.ref l) H'
theorem Ed {ls : RL} {acc : List V} (hl : acc.length = ls.length) (h : ∀ (i : Nat) v, acc[i]? = some v -> ∃ l, ls[i]? = some l /\ v = .str (FZ l.2)) : acc = (dsR ls).map fun d => V.str (FZ d) := by
 unfold dsR
 rw [List.map_map]
 refine List.ext_getElem? fun i => ?_
 rw [List.getElem?_map]
 by_cases hi : i < acc.length
 ·obtain ⟨l, h1, h2⟩ := h i _ (List.getElem?_eq_getElem hi)
  rw [List.getElem?_eq_getElem hi, h2, h1]
  rfl
 ·rw [List.getElem?_eq_none (by omega), List.getElem?_eq_none (by omega)]
  rfl
theorem lK (T : Txt K mg A D) : FnOk P w K mg base CX0 2 A.words_of_held D.words_of_held ["ware", "lots"] (lJ A) := by
 refine T.F_words_of_held.ok mG (fun vs H Q E h => ?_) (fun cdv A' outer s0 H vs Q E hr h => ?_)
 ·obtain ⟨q, ls, rfl, _⟩ := h; rfl
 ·obtain ⟨q, ls, rfl, hq, hL, hl, hb, k⟩ := h
  refine ⟨_, (aA (aR (aL ul (cY (aj bF (aj (pv 0) (aj (aK (lq (K := K) T) (hr.mono (by decide)) (by rfl) T.m_pieces_in T.k_pieces_in (nQ T) .nil aP (aj (pv 1) aq)) (aj (aK (zu (K := K) T) (hr.mono (by decide)) (by rfl) T.m_cost_in T.k_cost_in (Br T) .nil aP (aj (pv 1) aq)) aq))))) (bI (cap := [Option.none]) (N' := ["lot"]) rfl (by walk_at "compok") (aZ (K := K) (pv 1)) (fun _ _ _ _ => (aH (i := 0) (show (["lot"] : List Str).Nodup from by decide +kernel) rfl (Or.inl rfl) (Or.inr rfl))) (fun _ _ _ _ => bH) (fun _ _ _ _ => (aK (qJ (K := K) T) (hr.mono (by decide)) (by rfl) T.m_word_of_lot T.k_word_of_lot (sy T) .nil aP (aj (pv 0) aq))))))), ?_⟩
  walk_at "rda"
  refine ⟨q, ls, rfl, hq, hL, by omega, fun H1 s1 => ⟨q, ls, rfl, s1 _ _ hq, hL.same s1, by omega, fun H2 s2 => ?_⟩⟩
  have S2 := s1.trans s2
  refine ⟨by rw [sizeLine_eq]; decide, fun p hp => ⟨⟨_, SqL.of (Same.new hp _ _ (S2 _ _ hq))⟩, ?_⟩⟩
  have s3 := Same.new (o := .lst [V.str (Str.ofString "held"), V.str (Str.ofString "cup"), V.int (pcD (dsR ls)), V.int (csD (dsR ls))]) hp
  have h3 : (upd H2 p (.lst [V.str (Str.ofString "held"), V.str (Str.ofString "cup"), V.int (pcD (dsR ls)), V.int (csD (dsR ls))])) p = some (.lst [V.str (Str.ofString "held"), V.str (Str.ofString "cup"), V.int (pcD (dsR ls)), V.int (csD (dsR ls))]) := au
  change CompP _ _ _ _ _ _ (upd H2 p (.lst [V.str (Str.ofString "held"), V.str (Str.ofString "cup"), V.int (pcD (dsR ls)), V.int (csD (dsR ls))])) _
  generalize upd H2 p (.lst [V.str (Str.ofString "held"), V.str (Str.ofString "cup"), V.int (pcD (dsR ls)), V.int (csD (dsR ls))]) = H3 at s3 h3 ⊢
  have S3 := S2.trans s3
  refine CompP.listE (K := K) (fun σ => ∃ a, σ = [a]) (fun i v _ => ∃ l, ls[i]? = some l /\ v = .str (FZ l.2)) (SqL.of (S3 _ _ hq)) ⟨_, rfl⟩ (by rw [aJ, sizeLine_eq]; omega) ?_ ?_
  ·rintro Da i x hx σ H5 R ⟨_, rfl⟩ sm hD _ kk
   obtain ⟨l, hl', rfl⟩ := bW hx
   walk_at "rdi"
   exact ⟨l.1, l.2, rfl, (hL l (get_mem hl')).same (S3.trans sm), hb l.2 (List.mem_map.mpr ⟨l, get_mem hl', rfl⟩), kk _ _ H5 ⟨_, rfl⟩ (Same.refl _) fun H' _ => ⟨l, hl', rfl⟩⟩
  ·intro Da H4 acc hD s4 hA hlen hF
   rw [aJ] at hlen
   rw [Ed hlen hF] at hA
   rw [ap_rCat]
   refine ⟨_, _, s4 _ _ h3, hA, by rw [List.length_map, sizeLine_eq]; unfold dsR; rw [List.length_map]; show 4 + ls.length <= _; omega, fun p5 hp5 => ?_⟩
   have S4 := S3.trans s4
   exact k p5 _ (S4.trans (Same.new hp5)) (S4.free hp5) (by rw [au]; rfl)
abbrev WL := List (Addr × List V)
def fD (wl : WL) : List V := wl.map fun t => V.ref t.1
theorem iy (wl : WL) : (fD wl).length = wl.length := by unfold fD; rw [List.length_map]
theorem Al {rs : WL} {i : Nat} {y : V} (h : (fD rs)[i]? = some y) : ∃ r, rs[i]? = some r /\ y = .ref r.1 := by
 unfold fD at h
 rw [List.getElem?_map] at h
 cases e : rs[i]? with
 | none => rw [e] at h; cases h
 | some r => rw [e] at h; exact ⟨r, rfl, (Option.some.inj h).symm⟩
def WAt (H : Hp) (wl : WL) : Prop := ∀ t ∈ wl, H t.1 = some (.lst t.2)
theorem WAt.same {H H' : Hp} {wl : WL} (h : WAt H wl) (s : Same H H') : WAt H' wl := fun t ht => s _ _ (h t ht)
theorem Jl {H : Hp} : ∀ {acc : List V} {xs : List (List V)}, acc.length = xs.length -> (∀ (i : Nat) v, acc[i]? = some v -> ∃ b x, xs[i]? = some x /\ v = .ref b /\ H b = some (.lst x)) -> ∃ wl : WL, acc = fD wl /\ wl.map (·.2) = xs /\ WAt H wl
 | [], [], _, _ => ⟨[], rfl, rfl, fun r h => (List.not_mem_nil h).elim⟩
 | [], _ :: _, h, _ => by simp at h
 | _ :: _, [], h, _ => by simp at h
 | v :: acc, x :: xs, hl, h => by
  obtain ⟨b, x', e, rfl, hb⟩ := h 0 v rfl
  cases e
  obtain ⟨wl, e1, e2, e3⟩ := Jl (acc := acc) (xs := xs) (by simpa using hl) fun i v hv => h (i + 1) v hv
  refine ⟨(b, x) :: wl, by rw [e1]; rfl, by rw [List.map_cons, e2], fun r hr => ?_⟩
  rcases List.mem_cons.mp hr with rfl | hr
  ·exact hb
  ·exact e3 r hr
def jM (g : Int × Int) : List V := [.str (Str.ofString "sale"), .int g.1, .int g.2]
def heldW (ds : List LotD) : List (List V) := match ds with
 | [] => []
 | d :: r => [hwV (d :: r)]
def ju (gs : List (Int × Int)) : List V := [.str (Str.ofString "gain"), .int (gs.map (·.2)).sum]
def qu (s : List LotD × List (Int × Int)) : List (List V) := s.2.map jM ++ heldW s.1 ++ [ju s.2]
def Lg (s : List LotD × List (Int × Int)) : Str := qy ((qu s).map jr)
structure RepOk (s : List LotD × List (Int × Int)) : Prop where
 l : s.2.length <= 60
 d : s.1.length <= 60
 w : ∀ x ∈ qu s, ∀ v ∈ x, zK v
 b : ∀ d ∈ s.1, BgD d
theorem Be {s : List LotD × List (Int × Int)} (h : RepOk s) : (((qu s).map jr).map (·.length)).sum <= 500000 /\ (qu s).length <= 62 /\ ∀ x ∈ qu s, x.length <= 64 := by
 have hl := h.l
 have hd := h.d
 have hx : ∀ x ∈ qu s, x.length <= 64 := fun x hx => by
  unfold qu at hx
  rcases List.mem_append.mp hx with hx | hx
  ·rcases List.mem_append.mp hx with hx | hx
   ·obtain ⟨g, _, rfl⟩ := List.mem_map.mp hx
    exact (show (3 : Nat) <= 64 by decide)
   ·unfold heldW at hx
    split at hx
    ·cases hx
    ·rename_i d r e
     rw [List.mem_singleton.mp hx]
     unfold hwV
     rw [List.length_append, List.length_map, <- e]
     show 4 + s.1.length <= 64
     omega
  ·rw [List.mem_singleton.mp hx]
   exact (show (2 : Nat) <= 64 by decide)
 have hh : (heldW s.1).length <= 1 := by unfold heldW; split <;> simp
 refine ⟨?_, ?_, hx⟩
 ·have key : ∀ (B : Nat) (xs : List (List V)), (∀ x ∈ xs, (∀ v ∈ x, zK v) /\ x.length <= B) -> ((xs.map jr).map (·.length)).sum <= (2001 * B + 1) * xs.length := fun B xs => by
   induction xs with
   | nil => intro _; exact Nat.zero_le _
   | cons x xs ih =>
    intro hh
    have h1 := hh x List.mem_cons_self
    have h2 := yr h1.1
    have h3 := ih fun y hy => hh y (List.mem_cons_of_mem _ hy)
    rw [List.map_cons, List.map_cons, List.sum_cons, List.length_cons, Nat.mul_succ]
    have h4 : 2001 * x.length <= 2001 * B := Nat.mul_le_mul_left _ h1.2
    omega
  unfold qu
  rw [List.map_append, List.map_append, List.map_append, List.map_append, List.sum_append, List.sum_append]
  have k1 := key 3 (s.2.map jM) fun x hx' => ⟨h.w x (by unfold qu; simp only [List.mem_append]; exact .inl (.inl hx')), by obtain ⟨g, _, rfl⟩ := List.mem_map.mp hx'; exact Nat.le_refl _⟩
  have k2 := key 64 (heldW s.1) fun x hx' => ⟨h.w x (by unfold qu; simp only [List.mem_append]; exact .inl (.inr hx')), hx x (by unfold qu; simp only [List.mem_append]; exact .inl (.inr hx'))⟩
  have k3 := key 2 [ju s.2] fun x hx' => ⟨h.w x (by unfold qu; simp only [List.mem_append]; exact .inr hx'), by rw [List.mem_singleton.mp hx']; exact Nat.le_refl _⟩
  rw [List.length_map] at k1
  have : (2001 * 3 + 1) * s.2.length <= (2001 * 3 + 1) * 60 := Nat.mul_le_mul_left _ hl
  have : (2001 * 64 + 1) * (heldW s.1).length <= (2001 * 64 + 1) * 1 := Nat.mul_le_mul_left _ hh
  have e3 : [ju s.2].length = 1 := rfl
  rw [e3] at k3
  omega
 ·unfold qu
  rw [List.length_append, List.length_append, List.length_map]
  have e3 : [ju s.2].length = 1 := rfl
  omega
def hlS (row : RL) : List (Str × V) := match row with
 | [] => []
 | _ :: _ => [(Str.ofString "cup", .int (pcD (dsR row)))]
theorem JM (row : RL) : hl1 row = (hlS row).map fun kv => (Sum.inr kv.1, kv.2) := by cases row <;> rfl
theorem Fz {ss : List Str} {row : RL} (h : ss.Perm ((hlS row).map (·.1))) : ss = (hlS row).map (·.1) := by
 cases row with
 | nil => exact List.Perm.eq_nil h
 | cons r rs => exact List.perm_singleton.mp h
def Mj (x : List V) : Prop := ∃ z r, x = .str z :: r
theorem Ih {s : List LotD × List (Int × Int)} : (∀ x ∈ s.2.map jM, Mj x) /\ (∀ x ∈ heldW s.1, Mj x) /\ Mj (ju s.2) := by
 refine ⟨fun x hx => ?_, fun x hx => ?_, ⟨_, _, rfl⟩⟩
 ·obtain ⟨g, _, rfl⟩ := List.mem_map.mp hx
  exact ⟨_, _, rfl⟩
 ·unfold heldW at hx
  split at hx
  ·cases hx
  ·rw [List.mem_singleton.mp hx]
   exact ⟨_, _, rfl⟩
theorem BL {H : Hp} {wl wm : WL} {D : Addr} {o : HO} (h : WAt H wl) (hs : ∀ x ∈ wl.map (·.2), Mj x) (hD : H D = some (.lst (fD wm))) : WAt (upd H D o) wl := fun t ht => by
 have h1 := h t ht
 refine (aF fun e => ?_).trans h1
 rw [e, hD] at h1
 injection h1 with h1
 injection h1 with h1
 obtain ⟨z, r, e2⟩ := hs t.2 (List.mem_map.mpr ⟨t, ht, rfl⟩)
 rw [e2] at h1
 cases wm with
 | nil => cases h1
 | cons a wm => cases h1
def vm (A : Adr) : Sp := fun vs H Q _ => ∃ (b : Addr) (k : BkD), vs = [.ref b] /\ BkAt A H b k /\ RepOk (dsR k.row, gnS k.sl) /\ ∀ H', Q (.str (Lg (dsR k.row, gnS k.sl))) H'
theorem uo (T : Txt K mg A D) : FnOk P w K mg base CX0 5 A.report_of D.report_of ["book"] (vm A) := by
 refine T.F_report_of.ok sc_report_of (fun vs H Q E h => ?_) (fun cdv A' outer s0 H vs Q E hr h => ?_)
 ·obtain ⟨b, k, rfl, _⟩ := h; rfl
 ·obtain ⟨b, kb, rfl, hB, hR, k⟩ := h
  refine ⟨_, (ao (aO (i := 1) sc_report_of.nd rfl (Or.inl rfl) (gb (pv 0) (.cons T.cl_Book T.me_Book_sales (rD (K := K) T) (hr.mono (by decide)) (tL T) .nil) aP))
   (ao (qU (i := 2) sc_report_of.nd rfl rfl (cap := [Option.none]) (N' := ["sale"]) rfl (by walk_at "compok") (aZ (K := K) (pv 1)) (fun _ _ _ _ => (aH (i := 0) (show (["sale"] : List Str).Nodup from by decide +kernel) rfl (Or.inl rfl) (Or.inr rfl))) (fun _ _ _ _ => bH) (fun _ _ _ _ => (aK (lO (K := K) T) (hr.mono (by decide)) (by rfl) T.m_words_of_sale T.k_words_of_sale (oX T) .nil aP (aj (pv 0) aq))))
   (ao (aW (gq (K := K) PySem.F.plainAttrs_list PySem.F.slot_list_extend PySem.F.type_list_extend Ca (pv 2) (aj (bI (cap := [Option.none, some 0]) (N' := ["ware", "book"]) rfl (by walk_at "compok") (aZ (K := K) (aV (wQ rfl) (by rfl) T.b_sorted (by decide +kernel) (aj (gb (pv 0) (.cons T.cl_Book T.me_Book_held (lw (K := K) T) (hr.mono (by decide)) (oh T) .nil) aP) aq))) (fun _ _ _ _ => (aH (i := 0) (show (["ware", "book"] : List Str).Nodup from by decide +kernel) rfl (Or.inl rfl) (Or.inr rfl))) (fun _ _ _ _ => bH) (fun _ _ _ _ => (aK (lK (K := K) T) (hr.mono (by decide)) (by rfl) T.m_words_of_held T.k_words_of_held (pR T) .nil aP (aj (pv 0) (aj (bJ (pv 1) (.cons T.cl_Book T.me_Book_row_of (fY (K := K) T) (hr.mono (by decide)) (gR T) .nil) aP (aj (pv 0) aq)) aq))))) aq)))
   (ao (aW (gq (K := K) PySem.F.plainAttrs_list PySem.F.slot_list_append PySem.F.type_list_append dN (pv 2) (aj (cY (aj bF (aj (aV (eZ (K := K) rfl) (by rfl) T.b_sum (by decide +kernel) (aj (bI (cap := [Option.none]) (N' := ["sale"]) rfl (by walk_at "compok") (aZ (K := K) (pv 1)) (fun _ _ _ _ => (aH (i := 0) (show (["sale"] : List Str).Nodup from by decide +kernel) rfl (Or.inl rfl) (Or.inr rfl))) (fun _ _ _ _ => bH) (fun _ _ _ _ => (gb (pv 0) (.cons T.cl_Sale T.me_Sale_counted (iD (K := K) T) (hr.mono (by decide)) (iY T) .nil) aP))) aq)) aq))) aq)))
   (aA (aR (gq (K := K) PySem.F.plainAttrs_str PySem.F.slot_str_join PySem.F.type_str_join BJ bF (aj (bI (cap := [Option.none]) (N' := ["row"]) rfl (by walk_at "compok") (aZ (K := K) (pv 2)) (fun _ _ _ _ => (aH (i := 0) (show (["row"] : List Str).Nodup from by decide +kernel) rfl (Or.inl rfl) (Or.inr rfl))) (fun _ _ _ _ => bH) (fun _ _ _ _ => (aK (mV (K := K) T) (hr.mono (by decide)) (by rfl) T.m_row_of_words T.k_row_of_words (qN T) .nil aP (aj (pv 0) aq)))) aq)))))))), ?_⟩
  have hsl : kb.sl.length <= 60 := by have := hR.l; unfold gnS at this; rwa [List.length_map] at this
  have hrl : kb.row.length <= 60 := by have := hR.d; unfold dsR at this; rwa [List.length_map] at this
  obtain ⟨hln1, hln2, hln3⟩ := Be hR
  simp only [start_eq]
  walk_at "nx"
  obtain ⟨db, hb⟩ := hB.b
  refine ⟨_, db, _, hb, _, List.mem_cons_self, by rfl, b, kb, rfl, hB, by omega, fun l sl H1 s1 hl h1 hS1 hg1 => ?_⟩
  have hsl1 : sl.length <= 60 := by
   have := congrArg List.length hg1
   unfold gnS at this
   rw [List.length_map, List.length_map] at this
   omega
  walk_at "nx"
  refine ⟨⟨_, SqL.of h1⟩, ?_⟩
  refine CompP.listE (K := K) (fun σ => ∃ a, σ = [a]) (fun i v H' => ∃ b x, ((gnS sl).map jM)[i]? = some x /\ v = .ref b /\ H' b = some (.lst x)) (SqL.of h1) ⟨_, rfl⟩ (by rw [gk, sizeLine_eq]; omega) ?_ ?_
  ·rintro Da i x hx σ H5 R ⟨_, rfl⟩ sm hD ⟨acc, hA⟩ kk
   obtain ⟨t, ht, rfl⟩ := oA hx
   walk_at "rdi"
   refine ⟨t.1, t.2, rfl, (hS1 t (List.mem_of_getElem? ht)).same sm, fun y H6 s6 hy h6 => kk (.ref y) _ H6 ⟨_, rfl⟩ s6 fun H' hb => ⟨y, _, ?_, rfl, hb _ _ (fun e => by rw [e, hA] at hy; cases hy) h6⟩⟩
   unfold gnS
   rw [List.map_map, List.getElem?_map, ht]
   rfl
  ·intro D2 H2 acc hD2 s2 hA2 hlen2 hF2
   rw [gk] at hlen2
   obtain ⟨wl, e1, e2, e3⟩ := Jl (xs := (gnS sl).map jM) (by rw [hlen2, List.length_map]; unfold gnS; rw [List.length_map]) hF2
   rw [e1] at hA2
   rw [hg1] at e2
   have S2 := s1.trans s2
   have hB2 := hB.same S2
   obtain ⟨db2, hb2⟩ := hB2.b
   obtain ⟨r1, r2, r3⟩ := Ih (s := (dsR kb.row, gnS kb.sl))
   have hwl : wl.length <= 60 := by
    have := congrArg List.length e2
    rw [List.length_map, List.length_map] at this
    have h2 : (gnS kb.sl).length <= 60 := hR.l
    omega
   walk_at "nx"
   refine ⟨tyL (SqL.of hA2), _, db2, _, hb2, _, List.mem_cons_self, by rfl, b, kb, rfl, hB2, by omega, fun ph H3 s3 hph h3 => ?_⟩
   show rH [.ref ph] H3 _
   rw [ap_rSortDK]
   rw [JM] at h3
   refine ⟨hlS kb.row, h3, by cases kb.row <;> simp [hlS], fun ps ss hps hperm _ => ?_⟩
   rw [Fz hperm]
   have s4 := Same.new (o := .lst (((hlS kb.row).map (·.1)).map V.str)) hps
   have h4 : (upd H3 ps (.lst (((hlS kb.row).map (·.1)).map V.str))) ps = some (.lst (((hlS kb.row).map (·.1)).map V.str)) := au
   generalize upd H3 ps _ = H4 at s4 h4 ⊢
   have S4 := S2.trans (s3.trans s4)
   have hB4 := hB.same S4
   refine ⟨ps, rfl, ⟨_, SqL.of h4⟩, ?_⟩
   refine CompP.listE (K := K) (fun σ => ∃ a, σ = [a, some (.ref b)]) (fun i v H' => ∃ b x, (heldW (dsR kb.row))[i]? = some x /\ v = .ref b /\ H' b = some (.lst x)) (SqL.of h4) ⟨_, rfl⟩ (by rw [List.length_map, List.length_map, sizeLine_eq]; cases kb.row <;> simp [hlS]) ?_ ?_
   ·rintro Da i x hx σ H5 R ⟨_, rfl⟩ sm hD ⟨acc, hA⟩ kk
    obtain ⟨hne, hi, rfl⟩ : kb.row ≠ [] /\ i = 0 /\ x = .str (Str.ofString "cup") := by
     cases e : kb.row with
     | nil => rw [e] at hx; cases hx
     | cons r rs =>
      rw [e] at hx
      cases i with
      | zero => cases hx; exact ⟨List.cons_ne_nil _ _, rfl, rfl⟩
      | succ i => cases hx
    subst hi
    have hB5 := hB4.same sm
    obtain ⟨db5, hb5⟩ := hB5.b
    walk_at "rdi"
    refine ⟨_, db5, _, hb5, _, List.mem_cons_self, by rfl, b, kb, rfl, hB5, fun q H6 s6 hq h6 hL6 => ?_⟩
    refine ⟨q, kb.row, rfl, h6, hL6, by omega, hR.b, fun y H7 s7 hy h7 => kk (.ref y) _ H7 ⟨_, rfl⟩ (s6.trans s7) fun H' hb => ⟨y, hwV (dsR kb.row), ?_, rfl, hb _ _ (fun e => by rw [e, s6 _ _ hA] at hy; cases hy) h7⟩⟩
    cases e : kb.row with
    | nil => exact (hne e).elim
    | cons r rs => rfl
   ·intro D5 H5 Ml hD5 s5 hA5 hlen5 hF5
    obtain ⟨wh, f1, f2, f3⟩ := Jl (xs := heldW (dsR kb.row)) (by rw [hlen5, List.length_map, List.length_map]; cases kb.row <;> rfl) hF5
    rw [f1] at hA5
    have S25 := s3.trans (s4.trans s5)
    have hA25 := S25 _ _ hA2
    have hwh : wh.length <= 1 := by
     have := congrArg List.length f2
     rw [List.length_map] at this
     rw [this]
     unfold heldW
     split <;> simp
    have e3' := e3.same S25
    refine ⟨D2, D5, _, _, rfl, rfl, hA25, hA5, by rw [iy, iy, sizeLine_eq]; omega, ?_⟩
    rw [show fD wl ++ fD wh = fD (wl ++ wh) by unfold fD; rw [List.map_append]]
    have hW6 : WAt (upd H5 D2 (.lst (fD (wl ++ wh)))) (wl ++ wh) := BL (wm := wl) (fun t ht => (List.mem_append.mp ht).elim (e3' t) (f3 t)) (fun x hx => by
     rw [List.map_append, e2, f2] at hx
     exact (List.mem_append.mp hx).elim (r1 x) (r2 x)) hA25
    have h6 : (upd H5 D2 (.lst (fD (wl ++ wh)))) D2 = some (.lst (fD (wl ++ wh))) := au
    have hb6 : But D2 H5 (upd H5 D2 (.lst (fD (wl ++ wh)))) := fun a o h e => (aF h).trans e
    have hlD : l ≠ D2 := fun e => by rw [e, hD2] at h1; cases h1
    have S15 := s2.trans S25
    have hl6 : (upd H5 D2 (.lst (fD (wl ++ wh)))) l = some (.lst (gQ sl)) := hb6 _ _ hlD (S15 _ _ h1)
    have hS6 : ∀ t ∈ sl, IsSale A (upd H5 D2 (.lst (fD (wl ++ wh)))) t.1 t.2 := fun t ht => ((hS1 t ht).same S15).but hA25 (fun e => by have := (hS1 t ht).p; rw [e, hD2] at this; cases this) hb6
    generalize upd H5 D2 (.lst (fD (wl ++ wh))) = H6 at hW6 h6 hl6 hS6 ⊢
    clear hb6
    walk_at "nx"
    refine ⟨tyL (SqL.of h6), ⟨_, SqL.of hl6⟩, ?_⟩
    refine CompP.listE (K := K) (fun σ => ∃ a, σ = [a]) (fun i v _ => ∃ t, sl[i]? = some t /\ v = .int t.2.gn.2) (SqL.of hl6) ⟨_, rfl⟩ (by rw [gk, sizeLine_eq]; omega) ?_ ?_
    ·rintro Da i x hx σ H7 R ⟨_, rfl⟩ sm hD _ kk
     obtain ⟨t, ht, rfl⟩ := oA hx
     have hst := (hS6 t (List.mem_of_getElem? ht)).same sm
     obtain ⟨dt, hdt⟩ := hst.i
     walk_at "rdi"
     exact ⟨_, dt, _, hdt, _, List.mem_cons_self, by rfl, t.1, t.2, rfl, hst, fun H8 s8 => kk _ _ H8 ⟨_, rfl⟩ s8 fun H' _ => ⟨t, ht, rfl⟩⟩
    ·intro D7 H7 acc7 hD7 s7 hA7 hlen7 hF7
     rw [gk] at hlen7
     have eA : acc7 = ((gnS kb.sl).map (·.2)).map V.int := by
      rw [<- hg1]
      unfold gnS
      rw [List.map_map, List.map_map]
      refine List.ext_getElem? fun i => ?_
      rw [List.getElem?_map]
      by_cases hi : i < acc7.length
      ·obtain ⟨t, g1, g2⟩ := hF7 i _ (List.getElem?_eq_getElem hi)
       rw [List.getElem?_eq_getElem hi, g2, g1]
       rfl
      ·rw [List.getElem?_eq_none (by omega), List.getElem?_eq_none (by omega)]
       rfl
     rw [eA] at hA7
     rw [ap_rSum]
     refine ⟨_, SqL.of hA7, by rw [sizeLine_eq]; decide, fun pg hpg => ?_⟩
     have s8 := Same.new (o := .lst (ju (gnS kb.sl))) hpg
     have h8g : (upd H7 pg (.lst (ju (gnS kb.sl)))) pg = some (.lst (ju (gnS kb.sl))) := au
     rw [show HO.lst [V.str (Str.ofString "gain"), V.int ((gnS kb.sl).map (·.2)).sum] = HO.lst (ju (gnS kb.sl)) from rfl]
     generalize upd H7 pg (.lst (ju (gnS kb.sl))) = H8 at s8 h8g ⊢
     have S68 := s7.trans s8
     have h68 := S68 _ _ h6
     refine ⟨_, h68, by rw [iy, List.length_append, sizeLine_eq]; omega, ?_⟩
     obtain ⟨w3, hw3⟩ : ∃ w3 : WL, w3 = (wl ++ wh) ++ [(pg, ju (gnS kb.sl))] := ⟨_, rfl⟩
     rw [show fD (wl ++ wh) ++ [V.ref pg] = fD w3 by rw [hw3]; unfold fD; rw [List.map_append (l₁ := wl ++ wh)]; rfl]
     have ew3 : w3.map (·.2) = qu (dsR kb.row, gnS kb.sl) := by
      rw [hw3, List.map_append, List.map_append, e2, f2]
      rfl
     have hW9 : WAt (upd H8 D2 (.lst (fD w3))) w3 := BL (wm := wl ++ wh) (fun t ht => by
      rw [hw3] at ht
      rcases List.mem_append.mp ht with ht | ht
      ·exact S68 _ _ (hW6 t ht)
      ·rw [List.mem_singleton.mp ht]; exact h8g) (fun x hx => by
      rw [ew3] at hx
      unfold qu at hx
      rcases List.mem_append.mp hx with hx | hx
      ·exact (List.mem_append.mp hx).elim (r1 x) (r2 x)
      ·rw [List.mem_singleton.mp hx]; exact r3) h68
     have h9 : (upd H8 D2 (.lst (fD w3))) D2 = some (.lst (fD w3)) := au
     generalize upd H8 D2 (.lst (fD w3)) = H9 at hW9 h9 ⊢
     have hw3l : w3.length = (qu (dsR kb.row, gnS kb.sl)).length := by rw [<- ew3, List.length_map]
     refine ⟨rfl, ⟨_, SqL.of h9⟩, ?_⟩
     refine CompP.listE (K := K) (fun σ => ∃ a, σ = [a]) (fun i v _ => ∃ t, w3[i]? = some t /\ v = .str (jr t.2)) (SqL.of h9) ⟨_, rfl⟩ (by rw [iy, sizeLine_eq]; omega) ?_ ?_
     ·rintro Da i x hx σ H10 R ⟨_, rfl⟩ sm hD _ kk
      obtain ⟨t, ht, rfl⟩ := Al hx
      have htm := List.mem_of_getElem? ht
      have hrm : t.2 ∈ qu (dsR kb.row, gnS kb.sl) := by rw [<- ew3]; exact List.mem_map.mpr ⟨t, htm, rfl⟩
      walk_at "rdi"
      exact ⟨t.1, t.2, rfl, sm _ _ (hW9 t htm), hR.w t.2 hrm, by have := hln3 t.2 hrm; omega, fun H11 s11 => kk _ _ H11 ⟨_, rfl⟩ s11 fun H' _ => ⟨t, ht, rfl⟩⟩
     ·intro D10 H10 acc10 hD10 s10 hA10 hlen10 hF10
      rw [iy] at hlen10
      have eA : acc10 = ((qu (dsR kb.row, gnS kb.sl)).map jr).map V.str := by
       rw [<- ew3, List.map_map, List.map_map]
       refine List.ext_getElem? fun i => ?_
       rw [List.getElem?_map]
       by_cases hi : i < acc10.length
       ·obtain ⟨t, g1, g2⟩ := hF10 i _ (List.getElem?_eq_getElem hi)
        rw [List.getElem?_eq_getElem hi, g2, g1]
        rfl
       ·rw [List.getElem?_eq_none (by omega), List.getElem?_eq_none (by omega)]
        rfl
      rw [eA] at hA10
      refine ⟨_, D10, _, rfl, rfl, hA10, ?_, ?_⟩
      ·rw [show (Str.ofString "").length = 0 by decide +kernel]
       omega
      ·rw [Ff]
       exact k H10
end
end My
namespace My
open PySem L2 PyProof.Rows
section
variable {P : Program} {w : World} {K : Fg_} {mg : Str -> Option Value} {base : Heap} {A : Adr} {D : Fds}
local macro_rules | `(tactic| walk_at "nx") => `(tactic| ((try dsimp only); rw [ap_seq]; walk_at "rdi"))
def tvs (d : LotD) : List V := [.int d.s, .int d.n, .int d.p, .int d.c]
def TAt (H : Hp) (ls : RL) : Prop := ∀ l ∈ ls, H l.1 = some (.tup (tvs l.2))
theorem TAt.same {H H' : Hp} {ls : RL} (h : TAt H ls) (s : Same H H') : TAt H' ls := fun l hl => s _ _ (h l hl)
theorem TAt.upd {H : Hp} {ls : RL} {a : Addr} {xs : List V} {o : HO} (h : TAt H ls) (ha : H a = some (.lst xs)) : TAt (upd H a o) ls := fun l hl => by
 have h1 := h l hl
 exact (aF fun e => by rw [e, ha] at h1; cases h1).trans h1
theorem Di {d : LotD} {ds : List LotD} {w : Int} (hw : 0 < w) : cB (d :: ds) w = ⟨d.n, d.s, min d.p w, d.c * min d.p w / d.p⟩ :: cB ds (w - min d.p w) := by
 rw [cB, if_neg (by omega)]
theorem ug {ds : List LotD} {w : Int} (hw : w <= 0) : iw ds w = ds := by
 cases ds with
 | nil => rfl
 | cons d ds => rw [iw, if_pos hw]
theorem vq {ds : List LotD} {w : Int} (hw : w <= 0) : cB ds w = [] := by
 cases ds with
 | nil => rfl
 | cons d ds => rw [cB, if_pos hw]
def ud : Sp := fun vs H Q _ => ∃ (q : Addr) (ls : RL) (w : Int) (m : Nat) (B : Hp), vs = [.ref q, .int w] /\ H q = some (.lst (aQ ls)) /\ TAt H ls /\ RowG m (dsR ls) /\ 0 <= w /\ w <= pcD (dsR ls) /\ ls.length <= 61 /\ B q = Option.none /\ Same B H /\
 ∀ ls' H', Same B H' -> H' q = some (.lst (aQ ls')) -> TAt H' ls' -> dsR ls' = iw (dsR ls) w -> Q (.int (csD (cB (dsR ls) w))) H'
theorem uE (T : Txt K mg A D) : FnOk P w K mg base CX0 1 A._law_gone D._law_gone ["_law_lots", "_law_pieces"] ud := by
 refine T.F__law_gone.ok sc__law_gone (fun vs H Q E h => ?_) (fun cdv A' outer s0 H vs Q E hr h => ?_)
 ·obtain ⟨q, ls, w, m, B, rfl, _⟩ := h; rfl
 ·obtain ⟨q, ls, w, m, B, rfl, hq, hT, hR, hw0, hw1, hl, hqn, hBs, k⟩ := h
  refine ⟨_, (ao (aO (i := 2) sc__law_gone.nd rfl (Or.inl rfl) aG)
   (ao (Ge PassesOwn.never (bj (vH) (pv 1) aG (bC _)) (ao (Bm (jy (gP (K := K)) (pv 0) aG (fun _ _ => rfl)) (gW (K := K) (n := 4) rfl (aU (aH (i := 3) sc__law_gone.nd rfl (Or.inl rfl)) (aU (aH (i := 4) sc__law_gone.nd rfl (Or.inl rfl)) (aU (aH (i := 5) sc__law_gone.nd rfl (Or.inl rfl)) (aU (aH (i := 6) sc__law_gone.nd rfl (Or.inl rfl)) fW))))))
    (ao (aO (i := 7) sc__law_gone.nd rfl (Or.inl rfl) (aV (nR rfl) (by rfl) T.b_min (by decide +kernel) (aj (pv 5) (aj (pv 1) aq))))
    (ao (aO (i := 8) sc__law_gone.nd rfl (Or.inl rfl) (aL iQ (aL dZ (pv 6) (pv 7)) (pv 5)))
    (ao (aO (i := 2) sc__law_gone.nd rfl (Or.inl rfl) (aL dJ (pv 2) (pv 8)))
    (ao (aO (i := 1) sc__law_gone.nd rfl (Or.inl rfl) (aL gF (pv 1) (pv 7)))
    (ao (Bm (gK (aj (pv 3) (aj (pv 4) (aj (aL gF (pv 5) (pv 7)) (aj (aL gF (pv 6) (pv 8)) aq))))) (Ku (pv 0) aG set_list))
    (aA (fL (bj (rJ) (pv 5) (pv 7) (bC _)) (aA (aW (gq (K := K) PySem.F.plainAttrs_list PySem.F.slot_list_pop PySem.F.type_list_pop FT (pv 0) (aj aG aq)))) dg)))))))))
   (aA (aR (pv 2))))), ?_⟩
  simp only [start_eq]
  walk_at "nx"
  rw [ap_seq]
  refine ⟨fun n σ H2 => ∃ (l2 : RL) (w2 c2 : Int) (v3 v4 v5 v6 v7 v8 : Option V), n = l2.length + (if 0 < w2 then 1 else 0) /\ σ = [some (.ref q), some (.int w2), some (.int c2), v3, v4, v5, v6, v7, v8] /\ Same B H2 /\ H2 q = some (.lst (aQ l2)) /\ TAt H2 l2 /\ RowG m (dsR l2) /\ l2.length <= 61 /\ 0 <= w2 /\ w2 <= pcD (dsR l2) /\ iw (dsR l2) w2 = iw (dsR ls) w /\ c2 + csD (cB (dsR l2) w2) = csD (cB (dsR ls) w),
   ⟨_, ls, w, 0, _, _, _, _, _, _, rfl, rfl, hBs, hq, hT, hR, hl, hw0, hw1, rfl, by omega⟩, ?_⟩
  rintro n σ H2 ⟨l2, w2, c2, v3, v4, v5, v6, v7, v8, rfl, rfl, s2, h2, hT2, hR2, hl2, hw20, hw21, e1, e2⟩
  walk_at "rdi"
  by_cases hw : 0 < w2
  ·rw [if_pos hw]
   cases l2 with
   | nil =>
    have : w2 <= 0 := hw21
    omega
   | cons l l2 =>
    have hd : RowG m (l.2 :: dsR l2) := hR2
    have hg := hd.g l.2 List.mem_cons_self
    have hlt := hT2 l List.mem_cons_self
    have hw21 : w2 <= l.2.p + pcD (dsR l2) := hw21
    refine ⟨_, fun σ' H' h => h, ?_⟩
    walk_at "nx"
    refine ⟨_, SqL.of h2, .ref l.1, vV (j := 0) rfl, l.1, rfl, _, SqT.of hlt, rfl, _, _, rfl, _, _, rfl, _, _, rfl, _, _, rfl, rfl, ?_⟩
    walk_at "nx"
    rw [show (if w2 < l.2.p then w2 else l.2.p) = min l.2.p w2 by split <;> omega]
    have hmn : 1 <= min l.2.p w2 /\ min l.2.p w2 <= l.2.p := by omega
    walk_at "nx"
    refine ⟨Bd.mul ⟨by omega, by omega⟩ ⟨by omega, by omega⟩, ⟨by omega, ?_⟩, ?_⟩
    ·have : l.2.p.natAbs < 2 ^ 40 := by omega
     exact Nat.lt_of_lt_of_le this (Nat.pow_le_pow_right (by decide) (by decide))
    walk_at "nx"
    walk_at "nx"
    walk_at "nx"
    refine ⟨by rw [sizeLine_eq]; decide, fun t ht => ?_⟩
    obtain ⟨d2, hd2⟩ : ∃ d2 : LotD, d2 = ⟨l.2.n, l.2.s, l.2.p - min l.2.p w2, l.2.c - l.2.c * min l.2.p w2 / l.2.p⟩ := ⟨_, rfl⟩
    have st : Same B (upd H2 t (.tup (tvs d2))) := s2.trans (Same.new ht)
    have htt : (upd H2 t (.tup (tvs d2))) t = some (.tup (tvs d2)) := au
    have h3 := Same.new (o := .tup (tvs d2)) ht _ _ h2
    have hT3 : TAt (upd H2 t (.tup (tvs d2))) l2 := fun x hx => Same.new ht _ _ (hT2 x (List.mem_cons_of_mem _ hx))
    rw [show HO.tup [V.int l.2.s, V.int l.2.n, V.int (l.2.p - min l.2.p w2), V.int (l.2.c - l.2.c * min l.2.p w2 / l.2.p)] = HO.tup (tvs d2) by rw [hd2]; rfl]
    generalize upd H2 t (.tup (tvs d2)) = H3 at st htt h3 hT3 ⊢
    refine ⟨.ref q, rfl, q, _, 0, 0, rfl, rfl, h3, (by unfold ixN; rw [if_pos (by decide), if_pos (by rw [aJ, List.length_cons]; omega)]; rfl), ?_⟩
    rw [show (aQ (l :: l2)).set 0 (V.ref t) = aQ ((t, d2) :: l2) from rfl]
    have s4 : Same B (upd H3 q (.lst (aQ ((t, d2) :: l2)))) := st.upd hqn
    have h4 : (upd H3 q (.lst (aQ ((t, d2) :: l2)))) q = some (.lst (aQ ((t, d2) :: l2))) := au
    have hT4 : TAt (upd H3 q (.lst (aQ ((t, d2) :: l2)))) l2 := hT3.upd h3
    have ht4 : (upd H3 q (.lst (aQ ((t, d2) :: l2)))) t = some (.tup (tvs d2)) := (aF fun e => by rw [e, h3] at htt; cases htt).trans htt
    generalize upd H3 q (.lst (aQ ((t, d2) :: l2))) = H4 at s4 h4 hT4 ht4 ⊢
    have hpl := wI (c := l.2.c) (w := min l.2.p w2) (p := l.2.p) (by omega) (by omega) (by omega) (by omega)
    have eg : csD (cB (l.2 :: dsR l2) w2) = l.2.c * min l.2.p w2 / l.2.p + csD (cB (dsR l2) (w2 - min l.2.p w2)) := by rw [Di hw]; rfl
    have e2 : c2 + csD (cB (l.2 :: dsR l2) w2) = csD (cB (dsR ls) w) := e2
    have e1 : iw (l.2 :: dsR l2) w2 = iw (dsR ls) w := e1
    rw [eg] at e2
    rw [iw, if_neg (by omega)] at e1
    have hb := List.pairwise_cons.mp hd.b
    have hu := hd.u
    rw [List.map_cons, List.nodup_cons] at hu
    have hll := hd.l
    rw [List.length_cons] at hll
    rw [List.length_cons] at hl2
    walk_at "rdi"
    by_cases c : l.2.p <= w2
    ·rw [if_pos c] at e1
     have hm : min l.2.p w2 = l.2.p := by omega
     rw [hm] at e2 ⊢
     rw [if_pos rfl]
     refine ⟨tyL (SqL.of h4), q, _, 0, 0, .ref t, rfl, rfl, h4, by decide, by decide, ?_, rfl, l2.length + (if 0 < w2 - l.2.p then 1 else 0), ?_, l2, w2 - l.2.p, rfl, rfl, s4.upd hqn, au, hT4.upd h4, ⟨hb.2, hu.2, fun e he => hd.g e (List.mem_cons_of_mem _ he), by omega⟩, by omega, by omega, by omega, e1, by omega⟩
     ·unfold seqIndex?
      rw [aJ, List.length_cons]
      simp
     ·rw [if_pos hw]
      split <;> omega
    ·rw [if_neg c] at e1
     have hm : min l.2.p w2 = w2 := by omega
     rw [hm] at e2 hpl hd2 ⊢
     rw [if_neg (by omega)]
     refine ⟨l2.length + 1 + (if 0 < w2 - w2 then 1 else 0), ?_, (t, d2) :: l2, w2 - w2, rfl, rfl, s4, h4, fun x hx => ?_, ⟨List.pairwise_cons.mpr ⟨fun e he => ?_, hb.2⟩, ?_, fun e he => ?_, ?_⟩, ?_, by omega, ?_, ?_, ?_⟩
     ·rw [if_pos hw, if_neg (by omega)]
      omega
     ·rcases List.mem_cons.mp hx with rfl | hx
      ·exact ht4
      ·exact hT4 x hx
     ·have := hb.1 e he
      show Bef d2 e
      rw [hd2]
      exact this
     ·show (d2.n :: (dsR l2).map LotD.n).Nodup
      rw [hd2]
      exact List.nodup_cons.mpr hu
     ·rcases List.mem_cons.mp he with he | he
      ·rw [show e = d2 from he, hd2]
       refine ⟨hg.1, ⟨?_, ?_⟩, ?_, ?_⟩
       ·show 1 <= l.2.p - w2; omega
       ·show l.2.p - w2 <= _; omega
       ·show 0 <= l.2.c - l.2.c * w2 / l.2.p; omega
       ·show l.2.c - l.2.c * w2 / l.2.p <= _; omega
      ·exact hd.g e (List.mem_cons_of_mem _ he)
     ·show (dsR l2).length + 1 <= m
      exact hll
     ·show l2.length + 1 <= 61
      omega
     ·show w2 - w2 <= d2.p + pcD (dsR l2)
      have h5 := yh fun e he => (hd.g e (List.mem_cons_of_mem _ he)).2.1.1
      rw [hd2]
      show w2 - w2 <= l.2.p - w2 + pcD (dsR l2)
      omega
     ·rw [ug (by omega)]
      show d2 :: dsR l2 = _
      rw [hd2]
      exact e1
     ·rw [vq (by omega)] at e2 ⊢
      have e2 : c2 + (l.2.c * w2 / l.2.p + 0) = csD (cB (dsR ls) w) := e2
      show c2 + l.2.c * w2 / l.2.p + 0 = _
      omega
  ·rw [if_neg hw]
   have hz : w2 <= 0 := by omega
   rw [ug hz] at e1
   rw [vq hz] at e2
   have e2 : c2 + 0 = csD (cB (dsR ls) w) := e2
   rw [Int.add_zero] at e2
   rw [e2]
   exact k l2 H2 s2 h2 hT2 e1
theorem join_snoc (z x : Str) (xs : List Str) (y : Str) : Txt.join z (x :: xs ++ [y]) = Txt.join z (x :: xs) ++ z ++ y := by
 rw [List.cons_append, gH, gH, List.foldl_append]
 rfl
theorem Fg : Str.ofString "held cup " = Str.ofString "held" ++ Str.ofString " " ++ Str.ofString "cup" ++ Str.ofString " " := by decide +kernel
def hwS (ds : List LotD) (i : Nat) : List Str := [Str.ofString "held", Str.ofString "cup", fU (pcD ds), fU (csD ds)] ++ (ds.take i).map FZ
theorem Ht (ds : List LotD) : hwS ds ds.length = (hwV ds).map sV := by
 unfold hwS hwV
 rw [List.take_length, List.map_append, List.map_map]
 rfl
theorem KJ (ds : List LotD) : Str.ofString "held cup " ++ fU (pcD ds) ++ Str.ofString " " ++ fU (csD ds) = Txt.join (Str.ofString " ") (hwS ds 0) := by
 rw [Fg]
 unfold hwS
 rw [List.take_zero, List.map_nil, List.append_nil, gH]
 rfl
theorem Lj {ds : List LotD} {i : Nat} {d : LotD} (h : ds[i]? = some d) : Txt.join (Str.ofString " ") (hwS ds (i + 1)) = Txt.join (Str.ofString " ") (hwS ds i) ++ Str.ofString " " ++ fU d.n ++ Str.ofString ":" ++ fU d.p ++ Str.ofString ":" ++ fU d.c := by
 unfold hwS
 rw [List.take_add_one, h, List.map_append, <- List.append_assoc]
 show Txt.join _ (Str.ofString "held" :: _ ++ [FZ d]) = _
 rw [join_snoc]
 unfold FZ
 rw [<- bQ, <- bQ, <- bQ, <- bQ]
 rfl
theorem Gp {ds : List LotD} (h : ds ≠ []) : Txt.join (Str.ofString " ") (hwS ds ds.length) ++ Str.ofString "\n" = qy ((heldW ds).map jr) := by
 cases ds with
 | nil => exact (h rfl).elim
 | cons d ds =>
  rw [Ht]
  show jr (hwV (d :: ds)) = qy [jr (hwV (d :: ds))]
  exact (jY _).symm
def tG (K : Fg_) : Sp := fun vs H Q _ => ∃ (q : Addr) (ls : RL), vs = [.ref q] /\ H q = some (.lst (aQ ls)) /\ TAt H ls /\ ls.length <= 61 /\ (∀ d ∈ dsR ls, BgD d) /\ (pcD (dsR ls)).natAbs < 2 ^ 300 /\ (csD (dsR ls)).natAbs < 2 ^ 300 /\
 ∀ H', Same H H' -> Q (.str (qy ((heldW (dsR ls)).map jr))) H'
theorem tV (T : Txt K mg A D) : FnOk P w K mg base CX0 1 A._law_left D._law_left ["_law_lots"] (tG K) := by
 refine T.F__law_left.ok sc__law_left (fun vs H Q E h => ?_) (fun cdv A' outer s0 H vs Q E hr h => ?_)
 ·obtain ⟨q, ls, rfl, _⟩ := h; rfl
 ·obtain ⟨q, ls, rfl, hq, hT, hl, hb, hp, hc, k⟩ := h
  refine ⟨_, (ao (fL (bj (HW (K := K) hr) (pv 0) (cY aq) (bC _)) (aA (aR bF)) dg)
   (ao (aO (i := 1) sc__law_left.nd rfl (Or.inl rfl) (aV (eZ (K := K) rfl) (by rfl) T.b_sum (by decide +kernel) (aj (bI (cap := [Option.none]) (N' := ["_law_lot"]) rfl (by walk_at "compok") (aZ (K := K) (pv 0)) (fun _ _ _ _ => (aH (i := 0) (show (["_law_lot"] : List Str).Nodup from by decide +kernel) rfl (Or.inl rfl) (Or.inr rfl))) (fun _ _ _ _ => bH) (fun _ _ _ _ => (jy (jb (K := K)) (pv 0) aG (fun _ _ => rfl)))) aq)))
   (ao (aO (i := 2) sc__law_left.nd rfl (Or.inl rfl) (aL aX (aL aX (aL aX bF (bB dY (by rfl) T.b_str (by decide +kernel) (aj (pv 1) aq))) bF) (bB dY (by rfl) T.b_str (by decide +kernel) (aj (aV (eZ (K := K) rfl) (by rfl) T.b_sum (by decide +kernel) (aj (bI (cap := [Option.none]) (N' := ["_law_lot"]) rfl (by walk_at "compok") (aZ (K := K) (pv 0)) (fun _ _ _ _ => (aH (i := 0) (show (["_law_lot"] : List Str).Nodup from by decide +kernel) rfl (Or.inl rfl) (Or.inr rfl))) (fun _ _ _ _ => bH) (fun _ _ _ _ => (jy (jb (K := K)) (pv 0) aG (fun _ _ => rfl)))) aq)) aq))))
   (ao (jg PassesOwn.never rfl (aZ (K := K) (pv 0)) (gW (K := K) (n := 4) rfl (aU (aH (i := 3) sc__law_left.nd rfl (Or.inl rfl)) (aU (aH (i := 4) sc__law_left.nd rfl (Or.inl rfl)) (aU (aH (i := 5) sc__law_left.nd rfl (Or.inl rfl)) (aU (aH (i := 6) sc__law_left.nd rfl (Or.inl rfl)) fW)))))
    (aA (aO (i := 2) sc__law_left.nd rfl (Or.inl rfl) (aL aX (aL aX (aL aX (aL aX (aL aX (aL aX (pv 2) bF) (bB dY (by rfl) T.b_str (by decide +kernel) (aj (pv 4) aq))) bF) (bB dY (by rfl) T.b_str (by decide +kernel) (aj (pv 5) aq))) bF) (bB dY (by rfl) T.b_str (by decide +kernel) (aj (pv 6) aq))))))
   (aA (aR (aL aX (pv 2) bF))))))), ?_⟩
  simp only [start_eq]
  walk_at "nx"
  refine ⟨by rw [sizeLine_eq]; decide, fun p1 hp1 => ?_⟩
  have s1 := Same.new (o := .lst []) hp1
  refine ⟨_, SqL.of (s1 _ _ hq), _, SqL.of au, ?_⟩
  by_cases hne : ls = []
  ·refine .inr ⟨by rw [hne]; rfl, fun v hv => (by rw [hne] at hv; exact (List.not_mem_nil hv).elim), ?_⟩
   rw [hne] at k
   exact k _ s1
  ·have hpos : 0 < ls.length := List.length_pos_iff.mpr hne
   refine .inl ⟨by rw [aJ]; show ls.length ≠ 0; omega, ?_⟩
   have hq1 := s1 _ _ hq
   have hT1 := hT.same s1
   generalize upd H p1 (.lst []) = H1 at s1 hq1 hT1 ⊢
   walk_at "nx"
   refine ⟨⟨_, SqL.of hq1⟩, ?_⟩
   refine CompP.listE (K := K) (fun σ => ∃ a, σ = [a]) (fun i v _ => ∃ l, ls[i]? = some l /\ v = .int l.2.p) (SqL.of hq1) ⟨_, rfl⟩ (by rw [aJ, sizeLine_eq]; omega) ?_ ?_
   ·rintro Da i x hx σ H5 R ⟨_, rfl⟩ sm hD _ kk
    obtain ⟨l, hl', rfl⟩ := bW hx
    walk_at "rdi"
    exact ⟨_, SqT.of (sm _ _ (hT1 l (get_mem hl'))), .int l.2.p, rfl, kk _ _ H5 ⟨_, rfl⟩ (Same.refl _) fun H' _ => ⟨l, hl', rfl⟩⟩
   ·intro D2 H2 acc hD2 s2 hA hlen hF
    rw [iT (f := fun l => l.2.p) (by rw [hlen, aJ]) hF, rY] at hA
    rw [ap_rSum]
    refine ⟨_, SqL.of hA, ?_⟩
    have hq2 := s2 _ _ hq1
    have hT2 := hT1.same s2
    walk_at "nx"
    have q1 := cJ hp
    have q2 := cJ hc
    have l1 : (Str.ofString "held cup ").length = 9 := by decide +kernel
    have l2 : (Str.ofString " ").length = 1 := by decide +kernel
    have l3 : (Str.ofString ":").length = 1 := by decide +kernel
    have q1 : (fU ((dsR ls).map LotD.p).sum).length <= 400 := q1
    refine .inl ⟨hp, by rw [l1, sizeLine_eq]; omega, by rw [str_len, l1, l2, sizeLine_eq]; omega, ⟨_, SqL.of hq2⟩, ?_⟩
    refine CompP.listE (K := K) (fun σ => ∃ a, σ = [a]) (fun i v _ => ∃ l, ls[i]? = some l /\ v = .int l.2.c) (SqL.of hq2) ⟨_, rfl⟩ (by rw [aJ, sizeLine_eq]; omega) ?_ ?_
    ·rintro Da i x hx σ H5 R ⟨_, rfl⟩ sm hD _ kk
     obtain ⟨l, hl', rfl⟩ := bW hx
     walk_at "rdi"
     exact ⟨_, SqT.of (sm _ _ (hT2 l (get_mem hl'))), .int l.2.c, rfl, kk _ _ H5 ⟨_, rfl⟩ (Same.refl _) fun H' _ => ⟨l, hl', rfl⟩⟩
    ·intro D3 H3 acc3 hD3 s3 hA3 hlen3 hF3
     rw [iT (f := fun l => l.2.c) (by rw [hlen3, aJ]) hF3, rY] at hA3
     rw [ap_rSum]
     have q2 : (fU ((dsR ls).map LotD.c).sum).length <= 400 := q2
     refine ⟨_, SqL.of hA3, .inl ⟨_, rfl, hc, by rw [str_len, str_len, l1, l2, sizeLine_eq]; omega, ?_⟩⟩
     have hz0 : (Txt.join (Str.ofString " ") (hwS (dsR ls) 0)).length <= 1000 := by
      rw [<- KJ, str_len, str_len, str_len, l1, l2]
      show 9 + (fU ((dsR ls).map LotD.p).sum).length + 1 + (fU ((dsR ls).map LotD.c).sum).length <= 1000
      omega
     rw [show Str.ofString "held cup " ++ fU ((dsR ls).map LotD.p).sum ++ Str.ofString " " ++ fU ((dsR ls).map LotD.c).sum = Txt.join (Str.ofString " ") (hwS (dsR ls) 0) from KJ (dsR ls)]
     have hq3 := s3 _ _ hq2
     have hT3 := hT2.same s3
     try dsimp only
     rw [ap_seq, ap_for]
     walk_at "rdi"
     refine ⟨⟨_, SqL.of hq3⟩, ?_⟩
     refine ForP.list (K := K) (a := q) (xs := aQ ls) (fun i σ Hx => ∃ (v1 v3 v4 v5 v6 : Option V), σ = [some (.ref q), v1, some (.str (Txt.join (Str.ofString " ") (hwS (dsR ls) i))), v3, v4, v5, v6] /\ Hx = H3 /\ (Txt.join (Str.ofString " ") (hwS (dsR ls) i)).length <= 1000 + 2000 * i)
      ⟨_, _, _, _, _, rfl, rfl, by omega⟩ (fun i σ Hx _ ⟨_, _, _, _, _, _, e, _⟩ => e ▸ SqL.of hq3) ?_ ?_
     ·rintro i x σ Hx hx ⟨v1, v3, v4, v5, v6, rfl, rfl, hzl⟩
      obtain ⟨l, hl', rfl⟩ := bW hx
      have hil : i < ls.length := (List.getElem?_eq_some_iff.mp hl').1
      have hdi : (dsR ls)[i]? = some l.2 := by unfold dsR; rw [List.getElem?_map, hl']; rfl
      obtain ⟨b1, b2, b3⟩ := hb l.2 (List.mem_of_getElem? hdi)
      have m1 := cJ b1
      have m2 := cJ b2
      have m3 := cJ b3
      walk_at "rdi"
      refine ⟨_, SqT.of (hT3 l (get_mem hl')), rfl, _, _, rfl, _, _, rfl, _, _, rfl, _, _, rfl, rfl, ?_⟩
      have hz : 1000 + 2000 * i <= 200000 := by omega
      refine ⟨by rw [l2, sizeLine_eq]; omega, .inl ⟨_, rfl, b1, by rw [str_len, l2, sizeLine_eq]; omega, by rw [str_len, str_len, l2, l3, sizeLine_eq]; omega, .inl ⟨_, rfl, b2, by rw [str_len, str_len, str_len, l2, l3, sizeLine_eq]; omega, by rw [str_len, str_len, str_len, str_len, l2, l3, sizeLine_eq]; omega, .inl ⟨_, rfl, b3, by rw [str_len, str_len, str_len, str_len, str_len, l2, l3, sizeLine_eq]; omega, (Lj hdi).symm, ?_⟩⟩⟩⟩
      rw [Lj hdi, str_len, str_len, str_len, str_len, str_len, str_len, l2, l3]
      omega
     ·rintro σ Hx ⟨v1, v3, v4, v5, v6, rfl, rfl, hzl⟩
      rw [aJ] at hzl ⊢
      walk_at "rda"
      have l4 : (Str.ofString "\n").length = 1 := by decide +kernel
      refine ⟨by rw [l4, sizeLine_eq]; omega, ?_⟩
      have hdl : ls.length = (dsR ls).length := by unfold dsR; rw [List.length_map]
      rw [hdl, Gp (fun e => hne (by unfold dsR at e; exact List.map_eq_nil_iff.mp e))]
      exact k _ (s1.trans (s2.trans s3))
end
end My
namespace My
open PySem L2 PyProof.Rows
section
variable {P : Program} {w : World} {K : Fg_} {mg : Str -> Option Value} {base : Heap} {A : Adr} {D : Fds}
noncomputable def wU (T : Txt K mg A D) (cdv : Value) (A' : Around) (outer : List Env) (s0 : Shared) (H : Hp) (E : XK) (hr : Room 11 (A'.deeper (envOfC "law" (ak sY) s0.heap.objs.size A.law cdv))) :
  { t : TS // PSs (Hf CX0 P w K mg base ["_law_script", "_law_entries", "_law_lots", "_law_text", "_law_total", "_law_day", "_law_bases", "_law_k", "_law_cell", "_law_way", "_law_more", "_law_kind", "_law_size", "_law_pieces", "_law_price", "_law_fee", "_law_held", "_law_gain", "_law_since"] "law" (ak sY) A.law cdv A' outer s0 H E).nox (aC sY) t } :=
 ⟨_, (ao (aO (i := 1) sc_law.nd rfl (Or.inl rfl) (cY aq))
   (ao (aO (i := 2) sc_law.nd rfl (Or.inl rfl) (cY aq))
   (ao (aO (i := 3) sc_law.nd rfl (Or.inl rfl) bF)
   (ao (aO (i := 4) sc_law.nd rfl (Or.inl rfl) aG)
   (ao (aO (i := 5) sc_law.nd rfl (Or.inl rfl) aG)
   (ao (aO (i := 6) sc_law.nd rfl (Or.inl rfl) (cY (aj aG (aj aG (aj aG (aj aG (aj (aL uM aG aG) (aj (aL dJ (aL uM aG aG) aG) (aj (aL dJ (aL uM aG aG) aG) aq)))))))))
   (ao (jg PassesOwn.never rfl (IK (K := K) (by rfl) T.b_enumerate (aj (sZ (rT (K := K)) (aK (rK (K := K) T) (hr.mono (by decide)) (by rfl) T.m__law_cells T.k__law_cells (tX T) .nil aP (aj (pv 0) aq)) vQ (wC aG)) aq)) (gW (K := K) (n := 2) rfl (aU (aH (i := 7) sc_law.nd rfl (Or.inl rfl)) (aU (aH (i := 8) sc_law.nd rfl (Or.inl rfl)) fW)))
    (ao (Bm (aK (qH (K := K) T) (hr.mono (by decide)) (by rfl) T.m__law_digits T.k__law_digits (sJ T) .nil aP (aj (pv 8) (aj (pv 6) aq))) (Hy (K := K) (n := 7) rfl (aU (aH (i := 9) sc_law.nd rfl (Or.inl rfl)) (aU (aH (i := 10) sc_law.nd rfl (Or.inl rfl)) (aU (aH (i := 11) sc_law.nd rfl (Or.inl rfl)) (aU (aH (i := 12) sc_law.nd rfl (Or.inl rfl)) (aU (aH (i := 13) sc_law.nd rfl (Or.inl rfl)) (aU (aH (i := 14) sc_law.nd rfl (Or.inl rfl)) (aU (aH (i := 15) sc_law.nd rfl (Or.inl rfl)) fW)))))))))
    (ao (aO (i := 5) sc_law.nd rfl (Or.inl rfl) (aL dJ (pv 5) (jy (gP (K := K)) (cY (aj aG (aj aG (aj (pv 10) aq)))) (pv 9) (fun _ _ => rfl))))
    (ao (aO (i := 13) sc_law.nd rfl (Or.inl rfl) (aL dJ (jy (gP (K := K)) (cY (aj (aL fC (pv 13) aG) (aj (aL fC (pv 13) aG) (aj (pv 13) aq)))) (pv 12) (fun _ _ => rfl)) aG))
    (ao (aO (i := 14) sc_law.nd rfl (Or.inl rfl) (jy (gP (K := K)) (cY (aj (aL fC (pv 14) aG) (aj (pv 14) aq))) (aL fC (pv 12) aG) (fun _ _ => rfl)))
    (ao (aO (i := 16) sc_law.nd rfl (Or.inl rfl) (aV (eZ (K := K) rfl) (by rfl) T.b_sum (by decide +kernel) (aj (bI (cap := [Option.none]) (N' := ["_law_lot"]) rfl (by walk_at "compok") (aZ (K := K) (pv 2)) (fun _ _ _ _ => (aH (i := 0) (show (["_law_lot"] : List Str).Nodup from by decide +kernel) rfl (Or.inl rfl) (Or.inr rfl))) (fun _ _ _ _ => bH) (fun _ _ _ _ => (jy (jb (K := K)) (pv 0) aG (fun _ _ => rfl)))) aq)))
    (aA (fL (PW.pt (zZ (bj (vH) (pv 11) aG (bC _)) (wN (bj (vH) (pv 16) aG (bC _))))) (ao (aO (i := 13) sc_law.nd rfl (Or.inl rfl) (aV (zq rfl) (by rfl) T.b_min (by decide +kernel) (aj (pv 16) (aj (aL uM aG aG) (aj (pv 13) aq)))))
     (ao (aW (gq (K := K) PySem.F.plainAttrs_list PySem.F.slot_list_append PySem.F.type_list_append dN (pv 1) (aj (fO T.mk_Sell (lY (K := K) T) (hr.mono (by decide)) (by rfl) T.m_Sell (gA T).choose_spec.1 (gA T).choose_spec.2 aP (aj (pv 5) (aj (pv 7) (aj bF (aj (pv 13) (aj (pv 14) (aj (aL fC (pv 15) aG) aq))))))) aq)))
     (ao (aO (i := 17) sc_law.nd rfl (Or.inl rfl) (aL gF (aL gF (aL dZ (pv 13) (pv 14)) (aL fC (pv 15) aG)) (aK (uE (K := K) T) (hr.mono (by decide)) (by rfl) T.m__law_gone T.k__law_gone (xJ T) .nil aP (aj (pv 2) (aj (pv 13) aq)))))
     (ao (aO (i := 4) sc_law.nd rfl (Or.inl rfl) (aL dJ (pv 4) (pv 17)))
     (aA (aO (i := 3) sc_law.nd rfl (Or.inl rfl) (aL aX (aL aX (aL aX (aL aX (aL aX (pv 3) bF) (bB dY (by rfl) T.b_str (by decide +kernel) (aj (pv 7) aq))) bF) (bB dY (by rfl) T.b_str (by decide +kernel) (aj (pv 17) aq))) bF))))))) (aA (fL (bj (rJ) (pv 11) aG (bC _)) (ao (aO (i := 18) sc_law.nd rfl (Or.inl rfl) (aL gF (pv 5) (aL fC (pv 15) (aL dJ (pv 5) aG))))
      (ao (aW (gq (K := K) PySem.F.plainAttrs_list PySem.F.slot_list_append PySem.F.type_list_append dN (pv 1) (aj (fO T.mk_Gift (mj (K := K) T) (hr.mono (by decide)) (by rfl) T.m_Gift (pX T) .nil aP (aj (pv 5) (aj (pv 7) (aj bF (aj (pv 13) (aj (aL dZ (pv 14) (pv 15)) (aj (pv 18) aq))))))) aq)))
      (aA (aO (i := 2) sc_law.nd rfl (Or.inl rfl) (aV (pO (K := K)) (by rfl) T.b_sorted (by decide +kernel) (aj (aL ul (pv 2) (cY (aj (gK (aj (pv 18) (aj (pv 7) (aj (pv 13) (aj (aL dZ (pv 14) (pv 15)) aq))))) aq))) aq)))))) (ao (aW (gq (K := K) PySem.F.plainAttrs_list PySem.F.slot_list_append PySem.F.type_list_append dN (pv 1) (aj (fO T.mk_Buy (pM (K := K) T) (hr.mono (by decide)) (by rfl) T.m_Buy (gZ T).choose_spec.1 (gZ T).choose_spec.2 aP (aj (pv 5) (aj (pv 7) (aj bF (aj (pv 13) (aj (pv 14) (aj (aL fC (pv 15) aG) aq))))))) aq)))
      (aA (aO (i := 2) sc_law.nd rfl (Or.inl rfl) (aV (pO (K := K)) (by rfl) T.b_sorted (by decide +kernel) (aj (aL ul (pv 2) (cY (aj (gK (aj (pv 5) (aj (pv 7) (aj (pv 13) (aj (aL dJ (aL dZ (pv 13) (pv 14)) (aL fC (pv 15) aG)) aq))))) aq))) aq)))))))))))))))
   (ao (aO (i := 3) sc_law.nd rfl (Or.inl rfl) (aL aX (aL aX (aL aX (aL aX (pv 3) (aK (tV (K := K) T) (hr.mono (by decide)) (by rfl) T.m__law_left T.k__law_left (wz T) .nil aP (aj (pv 2) aq))) bF) (bB dY (by rfl) T.b_str (by decide +kernel) (aj (pv 4) aq))) bF))
   (aA (aR (wu (rJ) (aK (uo (K := K) T) (hr.mono (by decide)) (by rfl) T.m_report_of T.k_report_of (wZ T) .nil aP (aj (aK (yW (K := K) T) (hr.mono (by decide)) (by rfl) T.m_book_of T.k_book_of (CK T) .nil aP (aj (Jq T.mk0_Eldest (by rfl) T.m_Eldest) (aj (tU (K := K) (pv 1) (Nv Km aG)) aq))) aq)) (pv 3) (bC _))))))))))))⟩
end
end My
namespace My
open PySem L2 PyProof.Rows
section
variable {P : Program} {w : World} {K : Fg_} {mg : Str -> Option Value} {base : Heap} {A : Adr} {D : Fds}
local macro_rules | `(tactic| walk_at "nx") => `(tactic| ((try dsimp only); rw [ap_seq]; walk_at "rdi"))
structure GnOk (s : List LotD × List (Int × Int)) (m : Nat) : Prop where
 l : s.2.length <= m
 b : ∀ g ∈ s.2, (0 <= g.1 /\ g.1 < m) /\ g.2.natAbs <= 1000000000000000000000
theorem Jz {m : Nat} {ds : List LotD} (h : RowG m ds) (hm : m <= 60) (w : Int) : 0 <= csD (cB ds w) /\ csD (cB ds w) <= 200000000000000000000 := by
 have key : ∀ (ds : List LotD) (w : Int), (∀ d ∈ ds, 1 <= d.p /\ 0 <= d.c /\ d.c <= 2000000000000000000) -> 0 <= csD (cB ds w) /\ csD (cB ds w) <= 2000000000000000000 * ds.length := fun ds => by
  induction ds with
  | nil => intro w _; exact ⟨Int.le_refl _, Int.le_refl _⟩
  | cons d ds ih =>
   intro w hd
   rw [cB]
   split
   ·refine ⟨Int.le_refl _, ?_⟩
    show (0 : Int) <= _
    omega
   ·have h1 := hd d List.mem_cons_self
    have h2 := ih (w - min d.p w) fun e he => hd e (List.mem_cons_of_mem _ he)
    have h3 := wI (c := d.c) (w := min d.p w) (p := d.p) (by omega) (by omega) (by omega) (by omega)
    show 0 <= d.c * min d.p w / d.p + csD (cB ds (w - min d.p w)) /\ d.c * min d.p w / d.p + csD (cB ds (w - min d.p w)) <= 2000000000000000000 * ((ds.length + 1 : Nat) : Int)
    omega
 have h1 := key ds w fun d hd => by have := h.g d hd; omega
 have h2 := h.l
 have : (2000000000000000000 : Int) * ds.length <= 2000000000000000000 * 60 := Int.mul_le_mul_of_nonneg_left (by omega) (by decide)
 omega
theorem Du {m : Nat} : ∀ {gs : List (Int × Int)}, (∀ g ∈ gs, g.2.natAbs <= 1000000000000000000000) -> (gs.map (fun g : Int × Int => g.2)).sum.natAbs <= 1000000000000000000000 * gs.length
 | [], _ => by simp
 | g :: gs, h => by
  have h1 := h g List.mem_cons_self
  have h2 := Du (m := m) fun x hx => h x (List.mem_cons_of_mem _ hx)
  rw [List.map_cons, List.sum_cons, List.length_cons]
  omega
theorem vO {i : Int} (h : i.natAbs <= 2 ^ 100) : i.natAbs < 2 ^ 300 := Nat.lt_of_le_of_lt h (Nat.pow_lt_pow_right (by decide) (by decide))
theorem xW {m : Nat} {ds : List LotD} (h : RowG m ds) (hm : m <= 60) : (0 <= pcD ds /\ pcD ds <= 60000000000) /\ 0 <= csD ds /\ csD ds <= 120000000000000000000 := by
 have h1 := yx (B := 1000000000) (l := ds.map LotD.p) fun x hx => by
  obtain ⟨d, hd, rfl⟩ := List.mem_map.mp hx
  have := h.g d hd
  omega
 have h2 := yx (B := 2000000000000000000) (l := ds.map LotD.c) fun x hx => by
  obtain ⟨d, hd, rfl⟩ := List.mem_map.mp hx
  have := h.g d hd
  omega
 rw [List.length_map] at h1 h2
 have := h.l
 have e1 : (ds.length : Int) * 1000000000 <= 60 * 1000000000 := Int.mul_le_mul_of_nonneg_right (by omega) (by decide)
 have e2 : (ds.length : Int) * 2000000000000000000 <= 60 * 2000000000000000000 := Int.mul_le_mul_of_nonneg_right (by omega) (by decide)
 unfold pcD csD
 omega
theorem Lq {m : Nat} {s : List LotD × List (Int × Int)} (h : RowG m s.1) (hg : GnOk s m) (hm : m <= 60) : RepOk s := by
 have hs := xW h hm
 have hl := hg.l
 have hdl := h.l
 have hbg : ∀ d ∈ s.1, BgD d := fun d hd => by
  have := h.g d hd
  exact ⟨vO (by omega), vO (by omega), vO (by omega)⟩
 refine ⟨by omega, by omega, fun x hx v hv => ?_, hbg⟩
 unfold qu at hx
 rcases List.mem_append.mp hx with hx | hx
 ·rcases List.mem_append.mp hx with hx | hx
  ·obtain ⟨g, hgm, rfl⟩ := List.mem_map.mp hx
   have hb := hg.b g hgm
   simp only [jM, List.mem_cons, List.not_mem_nil, or_false] at hv
   rcases hv with rfl | rfl | rfl
   ·exact .inr ⟨_, rfl, by decide +kernel⟩
   ·exact .inl ⟨_, rfl, vO (by omega)⟩
   ·exact .inl ⟨_, rfl, vO (by omega)⟩
  ·unfold heldW at hx
   split at hx
   ·cases hx
   ·rename_i d r e
    rw [List.mem_singleton.mp hx, <- e] at hv
    unfold hwV at hv
    rcases List.mem_append.mp hv with hv | hv
    ·simp only [List.mem_cons, List.not_mem_nil, or_false] at hv
     rcases hv with rfl | rfl | rfl | rfl
     ·exact .inr ⟨_, rfl, by decide +kernel⟩
     ·exact .inr ⟨_, rfl, by decide +kernel⟩
     ·exact .inl ⟨_, rfl, vO (by omega)⟩
     ·exact .inl ⟨_, rfl, vO (by omega)⟩
    ·obtain ⟨d', hd', rfl⟩ := List.mem_map.mp hv
     obtain ⟨b1, b2, b3⟩ := hbg d' hd'
     have l3 : (Str.ofString ":").length = 1 := by decide +kernel
     refine .inr ⟨_, rfl, ?_⟩
     unfold FZ
     rw [str_len, str_len, str_len, str_len, l3]
     have m1 := cJ b1
     have m2 := cJ b2
     have m3 := cJ b3
     omega
 ·rw [List.mem_singleton.mp hx] at hv
  simp only [ju, List.mem_cons, List.not_mem_nil, or_false] at hv
  rcases hv with rfl | rfl
  ·exact .inr ⟨_, rfl, by decide +kernel⟩
  ·have := Du (m := m) fun g hg' => (hg.b g hg').2
   refine .inl ⟨_, rfl, vO ?_⟩
   have e1 : 1000000000000000000000 * s.2.length <= 1000000000000000000000 * 60 := Nat.mul_le_mul_left _ (by omega)
   omega
theorem Cv (t : Str) (n g : Int) : t ++ Str.ofString "sale " ++ fU n ++ Str.ofString " " ++ fU g ++ Str.ofString "\n" = t ++ jr (jM (n, g)) := by
 have e : Str.ofString "sale " = Str.ofString "sale" ++ Str.ofString " " := by decide +kernel
 unfold jr jM
 rw [List.map_cons, List.map_cons, List.map_cons, List.map_nil, gH, e]
 show _ = t ++ (Str.ofString "sale" ++ Str.ofString " " ++ fU n ++ Str.ofString " " ++ fU g ++ Str.ofString "\n")
 rw [<- bQ, <- bQ, <- bQ, <- bQ, <- bQ, <- bQ]
theorem Ij (t : Str) (g : Int) : t ++ Str.ofString "gain " ++ fU g ++ Str.ofString "\n" = t ++ jr [.str (Str.ofString "gain"), .int g] := by
 have e : Str.ofString "gain " = Str.ofString "gain" ++ Str.ofString " " := by decide +kernel
 unfold jr
 rw [List.map_cons, List.map_cons, List.map_nil, gH, e]
 show _ = t ++ (Str.ofString "gain" ++ Str.ofString " " ++ fU g ++ Str.ofString "\n")
 rw [<- bQ, <- bQ, <- bQ, <- bQ]
theorem JX (ns : List Int) : ∃ cs : List Int, yg (ns.map V.int) Option.none (some 60) = cs.map V.int /\ cs.length <= 60 := by
 refine ⟨ns.take (min 60 (ns.map V.int).length), ?_, by rw [List.length_take]; omega⟩
 unfold yg
 rw [HT.sIx_none, show (60 : Int) = ((60 : Nat) : Int) from rfl, HT.sIx_nat, List.map_take]
 rfl
theorem Jd {s : List LotD × List (Int × Int)} {e : E3} {i : Nat} (hR : RowG i s.1) (hi : i <= 60) (hg : GnOk s i) (hG : e.good) (hn : e.num = i) : GnOk (stE s e) (i + 1) := by
 have hl := hg.l
 have hb : ∀ g ∈ s.2, (0 <= g.1 /\ g.1 < ((i + 1 : Nat) : Int)) /\ g.2.natAbs <= 1000000000000000000000 := fun g h => by have := hg.b g h; omega
 cases e with
 | buy d n w p r f => exact ⟨by show s.2.length <= _; omega, hb⟩
 | gift d n w p c f => exact ⟨by show s.2.length <= _; omega, hb⟩
 | sell d n w p r f =>
  obtain ⟨_, ⟨p0, p1⟩, ⟨r0, r1⟩, f0, f1⟩ := hG
  have h1 : 0 <= p * r := Int.mul_nonneg (by omega) r0
  have h2 : p * r <= 1000000000 * 1000000000 := Int.mul_le_mul p1 r1 r0 (by decide)
  have h3 := Jz hR hi p
  have hn : n = i := hn
  refine ⟨?_, fun g h => ?_⟩
  ·show (s.2 ++ [_]).length <= _
   rw [List.length_append, List.length_singleton]
   omega
  ·rcases List.mem_append.mp h with h | h
   ·exact hb g h
   ·rw [List.mem_singleton.mp h]
    refine ⟨⟨?_, ?_⟩, ?_⟩
    ·show 0 <= n; omega
    ·show n < _; omega
    ·show (p * r - f - csD (cB s.1 p)).natAbs <= _; omega
def bsL : List Int := [3, 900, 4, 3, 1000000000, 1000000001, 1000000001]
structure LawJ (A : Adr) (pe pb q1 : Addr) (cs : List Int) (i : Nat) (H : Hp) (pl : Addr) (es : EL) (ls : RL) (tx : Str) (tot dy : Int) : Prop where
 e : H pe = some (.lst (gm es))
 b : H pb = some (.lst (bsL.map V.int))
 q : H q1 = some (.lst (cs.map V.int))
 E : EntAt A H es
 l : H pl = some (.lst (aQ ls))
 L : TAt H ls
 h : Hst (es.map (·.2))
 n : es.length = i
 r : dsR ls = (lu (es.map (·.2))).1
 g : GnOk (lu (es.map (·.2))) i
 t : tx = qy ((lu (es.map (·.2))).2.map fun g => jr (jM g))
 z : tx.length <= 4000 * i
 o : tot = ((lu (es.map (·.2))).2.map (fun g : Int × Int => g.2)).sum
 d : ∀ e ∈ es.map (·.2), e.day <= dy
 y : 0 <= dy /\ dy <= 1000 * (i : Int)
 ne : pe ≠ pl
 nb : pb ≠ pl
 nq : q1 ≠ pl
theorem LawJ.same {pe pb q1 pl : Addr} {cs : List Int} {i : Nat} {H H' : Hp} {es : EL} {ls : RL} {tx : Str} {tot dy : Int} (J : LawJ A pe pb q1 cs i H pl es ls tx tot dy) (s : Same H H') : LawJ A pe pb q1 cs i H' pl es ls tx tot dy :=
 ⟨s _ _ J.e, s _ _ J.b, s _ _ J.q, J.E.same s, s _ _ J.l, J.L.same s, J.h, J.n, J.r, J.g, J.t, J.z, J.o, J.d, J.y, J.ne, J.nb, J.nq⟩
theorem LawJ.row {pe pb q1 pl : Addr} {cs : List Int} {i : Nat} {H : Hp} {es : EL} {ls : RL} {tx : Str} {tot dy : Int} (J : LawJ A pe pb q1 cs i H pl es ls tx tot dy) : RowG i (dsR ls) := by
 have h := J.h.r (es.map (·.2)).length (Nat.le_refl _)
 rw [List.take_length, List.length_map, J.n] at h
 rw [J.r]
 exact h
theorem LawJ.next {pe pb q1 pl pl' x : Addr} {cs : List Int} {i : Nat} {H H' : Hp} {es : EL} {ls ls' : RL} {tx tx' : Str} {tot tot' dy dy' : Int} {e : E3} (J : LawJ A pe pb q1 cs i H pl es ls tx tot dy) (hi : i < 60)
  (he : H' pe = some (.lst (gm (es ++ [(x, e)])))) (hb : H' pb = some (.lst (bsL.map V.int))) (hq : H' q1 = some (.lst (cs.map V.int))) (hE : EntAt A H' es) (hx : IsE3 A H' x e) (hl : H' pl' = some (.lst (aQ ls'))) (hL : TAt H' ls')
  (hG : e.good /\ e.ware = Str.ofString "cup") (hn : e.num = i) (hd : e.day = dy') (hdy : dy <= dy' /\ dy' <= dy + 1000) (hv : okS (dsR ls) e)
  (hr : (dsR ls') = (stE (dsR ls, (lu (es.map (·.2))).2) e).1) (ht : tx' = tx ++ qy (((stE (dsR ls, []) e).2).map fun g => jr (jM g))) (hz : tx'.length <= tx.length + 4000) (ho : tot' = tot + ((stE (dsR ls, []) e).2.map (fun g : Int × Int => g.2)).sum)
  (n1 : pe ≠ pl') (n2 : pb ≠ pl') (n3 : q1 ≠ pl') : LawJ A pe pb q1 cs (i + 1) H' pl' (es ++ [(x, e)]) ls' tx' tot' dy' := by
 have em : (es ++ [(x, e)]).map (·.2) = es.map (·.2) ++ [e] := by rw [List.map_append]; rfl
 have er : lu (es.map (·.2) ++ [e]) = stE (lu (es.map (·.2))) e := rP _ _
 have e0 : lu (es.map (·.2)) = (dsR ls, (lu (es.map (·.2))).2) := by rw [J.r]
 have hR := J.row
 have hy := J.y
 have hz' := J.z
 have hsp : (stE (lu (es.map (·.2))) e).2 = (lu (es.map (·.2))).2 ++ (stE (dsR ls, []) e).2 := by
  rw [e0]
  cases e <;> simp [stE]
 refine ⟨he, hb, hq, fun r hr' => ?_, hl, hL, ?_, ?_, ?_, ?_, ?_, by omega, ?_, ?_, by omega, n1, n2, n3⟩
 ·rcases List.mem_append.mp hr' with h | h
  ·exact hE r h
  ·rw [List.mem_singleton.mp h]; exact hx
 ·rw [em]
  exact J.h.snoc hG (by rw [hn, List.length_map, J.n]) (fun d h => by rw [hd]; have := J.d d h; omega) (by rw [<- J.r]; exact hv)
 ·rw [List.length_append, J.n]; rfl
 ·rw [em, er, hr, <- e0]
 ·rw [em, er]
  exact Jd (by rw [<- J.r]; exact hR) (by omega) J.g hG.1 hn
 ·rw [em, er, hsp, ht, J.t, List.map_append, mJ]
 ·rw [em, er, hsp, ho, J.o, List.map_append, List.sum_append]
 ·rw [em]
  intro d h
  rcases List.mem_append.mp h with h | h
  ·have := J.d d h; omega
  ·rw [List.mem_singleton.mp h, hd]; omega
def tsH (H : Hp) : V -> List Int
 | .ref b => match H b with
  | some (.tup vs) => vs.map fun v => match v with
   | .int i => i
   | _ => 0
  | _ => []
 | _ => []
theorem yF {H : Hp} {ls : RL} (h : TAt H ls) : ∀ l ∈ ls, tsH H (.ref l.1) = [l.2.s, l.2.n, l.2.p, l.2.c] := fun l hl => by
 unfold tsH
 dsimp only
 rw [h l hl]
 rfl
theorem FP (es : EL) : (gm es).reverse = gm es.reverse := by unfold gm; rw [List.map_reverse]
theorem JB {H : Hp} {ls : RL} (h : TAt H ls) (hu : ((dsR ls).map LotD.n).Nodup) : ((aQ ls).map (tsH H)).Nodup := by
 have e : (aQ ls).map (tsH H) = ls.map fun l => [l.2.s, l.2.n, l.2.p, l.2.c] := by
  unfold aQ
  rw [List.map_map]
  exact List.map_congr_left fun l hl => yF h l hl
 rw [e]
 unfold dsR at hu
 rw [List.map_map] at hu
 rw [List.Nodup, List.pairwise_map] at hu ⊢
 exact hu.imp fun hne c => hne (by injection c with _ c; injection c)
theorem Fe {m : Nat} {ls : RL} {p : Addr} {d : LotD} {zs : List V} (h : RowG m (dsR ls)) (hd : d.n = m) (hz : zs.Perm (aQ (ls ++ [(p, d)]))) (ts : V -> List Int) (hts : ∀ l ∈ ls ++ [(p, d)], ts (.ref l.1) = [l.2.s, l.2.n, l.2.p, l.2.c]) (hw : zs.Pairwise fun y z => ig (ts y) (ts z) false = true) :
  ∃ ls' : RL, zs = aQ ls' /\ (∀ l ∈ ls', l ∈ ls ++ [(p, d)]) /\ dsR ls' = xV d (dsR ls) := by
 obtain ⟨ls', e, hp⟩ : ∃ ls' : RL, zs = aQ ls' /\ ls'.Perm (ls ++ [(p, d)]) := uY hz rfl
 have hn : d.n ∉ (dsR ls).map LotD.n := fun hm => by
  obtain ⟨e, he, c⟩ := List.mem_map.mp hm
  have := (h.g e he).1
  omega
 have hu : ((dsR (ls ++ [(p, d)])).map LotD.n).Nodup := by
  rw [show dsR (ls ++ [(p, d)]) = dsR ls ++ [d] by unfold dsR; rw [List.map_append]; rfl, List.map_append]
  refine List.nodup_append.mpr ⟨h.u, by simp, fun y hy z hz => ?_⟩
  obtain rfl := List.mem_singleton.mp hz
  exact fun c => hn (c ▸ hy)
 have hpd : (dsR ls').Perm (dsR ls ++ [d]) := by
  have h2 := hp.map fun l : Addr × LotD => l.2
  rw [List.map_append] at h2
  exact h2
 refine ⟨ls', e, fun l hl => hp.mem_iff.mp hl, GP hpd ?_ h.b hn⟩
 have hu' : (ls'.map fun l => l.2.n).Nodup := by
  rw [show dsR (ls ++ [(p, d)]) = dsR ls ++ [d] by unfold dsR; rw [List.map_append]; rfl] at hu
  have := (hpd.map LotD.n).nodup_iff.mpr hu
  unfold dsR at this
  rwa [List.map_map] at this
 rw [e] at hw
 unfold aQ at hw
 rw [List.pairwise_map] at hw
 have hnd := List.pairwise_map.mp hu'
 unfold dsR
 rw [List.pairwise_map]
 refine (hw.and hnd).imp_of_mem fun {x y} hx hy ⟨a, b⟩ => ?_
 rw [hts x (hp.mem_iff.mp hx), hts y (hp.mem_iff.mp hy)] at a
 rw [ig] at a
 by_cases e1 : x.2.s = y.2.s
 ·rw [if_pos e1, ig, if_neg b] at a
  exact .inr ⟨e1, of_decide_eq_true a⟩
 ·rw [if_neg e1] at a
  exact .inl (of_decide_eq_true a)
theorem Eu (x : Int) : ∃ way more kind size pcs price fee, Eb x bsL = [way, more, kind, size, pcs, price, fee] /\ (0 <= way /\ way < 3) /\ (0 <= more /\ more < 900) /\ (0 <= kind /\ kind < 4) /\ (0 <= size /\ size < 3) /\ (0 <= pcs /\ pcs < 1000000000) /\ (0 <= price /\ price < 1000000001) /\ (0 <= fee /\ fee < 1000000001) := by
 have h : ∀ (c b : Int), 0 < b -> 0 <= c % b /\ c % b < b := fun c b hb => ⟨Int.emod_nonneg _ (by omega), Int.emod_lt_of_pos _ hb⟩
 unfold bsL
 simp only [Eb]
 exact ⟨_, _, _, _, _, _, _, rfl, h _ _ (by decide), h _ _ (by decide), h _ _ (by decide), h _ _ (by decide), h _ _ (by decide), h _ _ (by decide), h _ _ (by decide)⟩
theorem Fw {way more : Int} (bw : 0 <= way /\ way < 3) (bm : 0 <= more /\ more < 900) : ∃ dd : Int, atI [V.int 0, V.int 1, V.int more] way = some (.int dd) /\ (0 <= dd /\ dd <= 1000) := by
 rcases (show way = 0 \/ way = 1 \/ way = 2 by omega) with e | e | e <;> rw [e]
 ·exact ⟨0, rfl, by omega⟩
 ·exact ⟨1, rfl, by omega⟩
 ·exact ⟨more, rfl, by omega⟩
theorem Ec {size pcs : Int} (bz : 0 <= size /\ size < 3) (bp : 0 <= pcs /\ pcs < 1000000000) : ∃ pc : Int, atI [V.int (pcs % 5), V.int (pcs % 300), V.int pcs] size = some (.int pc) /\ (0 <= pc /\ pc < 1000000000) := by
 rcases (show size = 0 \/ size = 1 \/ size = 2 by omega) with e | e | e <;> rw [e]
 ·exact ⟨pcs % 5, rfl, by omega⟩
 ·exact ⟨pcs % 300, rfl, by omega⟩
 ·exact ⟨pcs, rfl, by omega⟩
theorem zG {size price : Int} (br : 0 <= price /\ price < 1000000001) : ∃ r : Int, atI [V.int (price % 20), V.int price] (size % 2) = some (.int r) /\ (0 <= r /\ r <= 1000000000) := by
 rcases (show size % 2 = 0 \/ size % 2 = 1 by omega) with e | e <;> rw [e]
 ·exact ⟨price % 20, rfl, by omega⟩
 ·exact ⟨price, rfl, by omega⟩
def Lx (H : Hp) (q : Addr) : Hp := fun x => if x = q then Option.none else H x
theorem Li (H : Hp) (q : Addr) : Same (Lx H q) H := fun x o h => by
 unfold Lx at h
 split at h
 ·cases h
 ·exact h
theorem LQ (H : Hp) (q : Addr) : Lx H q q = Option.none := if_pos rfl
theorem FN {H H' : Hp} {q : Addr} (s : Same (Lx H q) H') : But q H H' := fun b u hb h => s b u ((if_neg hb).trans h)
theorem xO {t u : TS} {D : _} {σ : L2.St} {H : Hp} (h : ∀ v, v = u -> JS t v D σ H) : JS t u D σ H := h u rfl
theorem Gn {wi : TI} {g : TG} {tb : TS} {D : _} {σ : L2.St} {H : Hp} (h : ∀ v, v = tb -> Mp wi g v D σ H) : Mp wi g tb D σ H := h tb rfl
theorem LK {tb : TS} {D : _} {σ : L2.St} {H : Hp} (h : ∀ D', D'.nx = D.nx -> tb D' σ H) : tb D σ H := h D rfl
theorem Dv {c : _} {t u : TS} {D : _} {σ : L2.St} {H : Hp} (h : ∀ v w, v = t -> w = u -> Mq c v w D σ H) : Mq c t u D σ H := h t u rfl rfl
theorem Ji (xs : List Str) : (qy xs).length = (xs.map (·.length)).sum := by
 induction xs with
 | nil => decide +kernel
 | cons x xs ih =>
  rw [show x :: xs = [x] ++ xs from rfl, mJ, str_len, ih, show qy [x] = Str.ofString "" ++ x from rfl, jY]
  rfl
theorem GQ (s : List LotD × List (Int × Int)) : Lg s = qy (s.2.map fun g => jr (jM g)) ++ qy ((heldW s.1).map jr) ++ jr (ju s.2) := by
 unfold Lg qu
 rw [List.map_append, List.map_append, List.map_map, mJ, mJ]
 congr 1
 exact jY _
theorem Jh {s : List LotD × List (Int × Int)} (h : RepOk s) : (qy (s.2.map fun g => jr (jM g))).length + (qy ((heldW s.1).map jr)).length + (jr (ju s.2)).length <= 500000 := by
 have h1 := (Be h).1
 have h2 := Ji ((qu s).map jr)
 have h3 := GQ s
 unfold Lg at h3
 rw [h3, str_len, str_len] at h2
 omega
theorem Af : Nm (Str.ofString "cup") := by unfold Nm; decide +kernel
structure LawA (A : Adr) (pe pb q1 : Addr) (cs : List Int) (H : Hp) (pl : Addr) (es : EL) (ls : RL) (y : Addr) (n : E3) : Prop where
 e : H pe = some (.lst (gm (es ++ [(y, n)])))
 b : H pb = some (.lst (bsL.map V.int))
 q : H q1 = some (.lst (cs.map V.int))
 E : EntAt A H es
 x : IsE3 A H y n
 l : H pl = some (.lst (aQ ls))
 L : TAt H ls
theorem LawA.same {pe pb q1 pl y : Addr} {cs : List Int} {H H' : Hp} {es : EL} {ls : RL} {n : E3} (J : LawA A pe pb q1 cs H pl es ls y n) (s : Same H H') : LawA A pe pb q1 cs H' pl es ls y n :=
 ⟨s _ _ J.e, s _ _ J.b, s _ _ J.q, J.E.same s, J.x.same s, s _ _ J.l, J.L.same s⟩
theorem rQ {H H' : Hp} {q : Addr} {xs : List V} {x : Addr} {n : E3} (h : IsE3 A H x n) (hq : H q = some (.lst xs)) (b : But q H H') : IsE3 A H' x n := by
 obtain ⟨dx, h⟩ := h
 exact ⟨dx, b _ _ (fun e => by rw [e, hq] at h; cases h) h⟩
theorem LawJ.app {pe pb q1 pl x dx : Addr} {cs : List Int} {i : Nat} {H H2 : Hp} {es : EL} {ls : RL} {tx : Str} {tot dy : Int} {n : E3} (J : LawJ A pe pb q1 cs i H pl es ls tx tot dy) (hN : New H H2 x (n.cls A) dx n.fs) (h1 : pb ≠ pe) (h2 : q1 ≠ pe) :
  LawA A pe pb q1 cs (upd H2 pe (.lst (gm es ++ [V.ref x]))) pl es ls x n := by
 have s := hN.s
 have b : But pe H2 (upd H2 pe (.lst (gm es ++ [V.ref x]))) := fun a o h e => (aF h).trans e
 have he := s _ _ J.e
 refine ⟨by rw [au]; unfold gm; rw [List.map_append]; rfl, b _ _ h1 (s _ _ J.b), b _ _ h2 (s _ _ J.q), fun r hr => rQ ((J.E r hr).same s) he b, rQ ⟨dx, hN.h⟩ he b, b _ _ J.ne.symm (s _ _ J.l), fun l hl => ?_⟩
 have h := s _ _ (J.L l hl)
 exact b _ _ (fun e => by rw [e, he] at h; cases h) h
theorem Ju {m : Nat} {ls : RL} {p : Addr} {d : LotD} (h : RowG m (dsR ls)) (hd : d.n = m) : ((dsR (ls ++ [(p, d)])).map LotD.n).Nodup := by
 rw [show dsR (ls ++ [(p, d)]) = dsR ls ++ [d] by unfold dsR; rw [List.map_append]; rfl, List.map_append]
 refine List.nodup_append.mpr ⟨h.u, by simp, fun y hy z hz => ?_⟩
 obtain rfl := List.mem_singleton.mp hz
 obtain ⟨e, he, rfl⟩ := List.mem_map.mp hy
 have := (h.g e he).1
 omega
theorem xQ {H : Hp} {pl : Addr} {ls : RL} {d : LotD} {i : Nat} {R : Addr -> Hp -> Prop} (h : RowG i (dsR ls)) (hd : d.n = i) (hi : i < 60) (hl : H pl = some (.lst (aQ ls))) (hL : TAt H ls)
  (k : ∀ p' ls' H', Same H H' -> H p' = Option.none -> H' p' = some (.lst (aQ ls')) -> TAt H' ls' -> dsR ls' = xV d (dsR ls) -> R p' H') :
  ∀ p, H p = Option.none -> 1 <= sizeLine /\ ∀ p1, upd H p (.tup (tvs d)) p1 = Option.none -> ∃ xs, upd (upd H p (.tup (tvs d))) p1 (.lst [.ref p]) pl = some (.lst xs) /\ ∃ x1, upd (upd H p (.tup (tvs d))) p1 (.lst [.ref p]) p1 = some (.lst x1) /\ xs.length + x1.length <= sizeLine /\
   ∀ p2, upd (upd H p (.tup (tvs d))) p1 (.lst [.ref p]) p2 = Option.none -> ∃ ys, SqL K (upd (upd (upd H p (.tup (tvs d))) p1 (.lst [.ref p])) p2 (.lst (xs ++ x1))) p2 ys /\ ys.length < 64 /\
    ∃ ts : V -> List Int, (∀ y, y ∈ ys -> ts y ≠ [] /\ ∃ b, y = .ref b /\ SqT K (upd (upd (upd H p (.tup (tvs d))) p1 (.lst [.ref p])) p2 (.lst (xs ++ x1))) b ((ts y).map V.int)) /\
     ∀ p3 zs, upd (upd (upd H p (.tup (tvs d))) p1 (.lst [.ref p])) p2 (.lst (xs ++ x1)) p3 = Option.none -> zs.Perm ys -> (∀ m, (∀ y, y ∈ ys -> (ts y).length = m) -> (ys.map ts).Nodup -> zs.Pairwise fun y z => ig (ts y) (ts z) false = true) ->
      R p3 (upd (upd (upd (upd H p (.tup (tvs d))) p1 (.lst [.ref p])) p2 (.lst (xs ++ x1))) p3 (.lst zs)) := by
 have hln : ls.length <= i := by have := h.l; unfold dsR at this; rwa [List.length_map] at this
 intro p hp
 refine ⟨by rw [sizeLine_eq]; decide, fun p1 hp1 => ?_⟩
 have s1 : Same H (upd H p (.tup (tvs d))) := Same.new hp
 have t1 : (upd H p (.tup (tvs d))) p = some (.tup (tvs d)) := au
 generalize upd H p (.tup (tvs d)) = H1 at s1 t1 hp1 ⊢
 have s2 : Same H1 (upd H1 p1 (.lst [.ref p])) := Same.new hp1
 have t2 : (upd H1 p1 (.lst [.ref p])) p1 = some (.lst [.ref p]) := au
 generalize upd H1 p1 (.lst [V.ref p]) = H2 at s2 t2 ⊢
 have S2 := s1.trans s2
 refine ⟨_, S2 _ _ hl, _, t2, by rw [aJ, sizeLine_eq, List.length_singleton]; omega, fun p2 hp2 => ?_⟩
 rw [show aQ ls ++ [V.ref p] = aQ (ls ++ [(p, d)]) by unfold aQ; rw [List.map_append]; rfl]
 have s3 : Same H2 (upd H2 p2 (.lst (aQ (ls ++ [(p, d)])))) := Same.new hp2
 have t3 : (upd H2 p2 (.lst (aQ (ls ++ [(p, d)])))) p2 = some (.lst (aQ (ls ++ [(p, d)]))) := au
 generalize upd H2 p2 (.lst (aQ (ls ++ [(p, d)]))) = H3 at s3 t3 ⊢
 have S3 := S2.trans s3
 have hT : TAt H3 (ls ++ [(p, d)]) := fun l hl' => (List.mem_append.mp hl').elim (fun h => S3 _ _ (hL l h)) fun h => by rw [List.mem_singleton.mp h]; exact s3 _ _ (s2 _ _ t1)
 refine ⟨_, SqL.of t3, by rw [aJ, List.length_append, List.length_singleton]; omega, tsH H3, fun y hy => ?_, fun p3 zs hp3 hz hw => ?_⟩
 ·obtain ⟨l, hl', rfl⟩ := List.mem_map.mp hy
  rw [yF hT l hl']
  exact ⟨List.cons_ne_nil _ _, _, rfl, SqT.of (hT l hl')⟩
 ·have hw := hw 4 (fun y hy => by obtain ⟨l, hl', rfl⟩ := List.mem_map.mp hy; rw [yF hT l hl']; rfl) (JB hT (Ju h hd))
  obtain ⟨ls', e, hm, hd'⟩ := Fe h hd hz (tsH H3) (yF hT) hw
  rw [e]
  exact k p3 ls' _ (S3.trans (Same.new hp3)) (S3.free hp3) au (fun l hl => Same.new hp3 _ _ (hT l (hm l hl))) hd'
end
end My
namespace My
open PySem L2 PyProof.Rows
section
variable {P : Program} {w : World} {K : Fg_} {mg : Str -> Option Value} {base : Heap} {A : Adr} {D : Fds}
local macro_rules | `(tactic| walk_at "nx") => `(tactic| ((try dsimp only); refine xO fun u hu => ?_; rw [ap_seq]; walk_at "rdi"; subst hu))
theorem JC (T : Txt K mg A D) : FnOk P w K mg base CX0 12 A.law D.law ["_law_script"] (yt K) := by
 refine T.F_law.ok sc_law (fun vs H Q E h => ?_) (fun cdv A' outer s0 H vs Q E hr h => ?_)
 ·obtain ⟨a, ns, rfl, _⟩ := h; rfl
 ·obtain ⟨a, ns, rfl, hS, hl, k⟩ := h
  refine ⟨(wU (base := base) T cdv A' outer s0 H E hr).1, (wU (base := base) T cdv A' outer s0 H E hr).2, ?_⟩
  unfold wU
  dsimp only
  simp only [start_eq]
  walk_at "nx"
  refine ⟨by rw [sizeLine_eq]; decide, fun pe hpe => ?_⟩
  have s1 := Same.new (o := .lst []) hpe
  have h1 : (upd H pe (.lst [])) pe = some (.lst []) := au
  generalize upd H pe (.lst []) = H1 at s1 h1 ⊢
  walk_at "nx"
  refine ⟨by rw [sizeLine_eq]; decide, fun pl hpl => ?_⟩
  have s2 := s1.trans (Same.new (o := .lst []) hpl)
  have h2 := Same.new (o := .lst []) hpl _ _ h1
  have hne : pe ≠ pl := aN h1 hpl
  have h2l : (upd H1 pl (.lst [])) pl = some (.lst []) := au
  generalize upd H1 pl (.lst []) = H2 at s2 h2 h2l ⊢
  walk_at "nx"
  walk_at "nx"
  walk_at "nx"
  walk_at "nx"
  refine ⟨⟨by decide, by decide⟩, ⟨by decide, by decide⟩, ⟨by decide, by decide⟩, by rw [sizeLine_eq]; decide, fun pb hpb => ?_⟩
  have n3 := Same.new (o := .lst (bsL.map V.int)) hpb
  rw [show HO.lst [V.int 3, V.int 900, V.int 4, V.int 3, V.int (10 ^ Int.toNat 9), V.int (10 ^ Int.toNat 9 + 1), V.int (10 ^ Int.toNat 9 + 1)] = HO.lst (bsL.map V.int) from rfl]
  have h3 : (upd H2 pb (.lst (bsL.map V.int))) pb = some (.lst (bsL.map V.int)) := au
  have hnb : pb ≠ pe /\ pb ≠ pl := ⟨(aN h2 hpb).symm, (aN h2l hpb).symm⟩
  generalize upd H2 pb (.lst (bsL.map V.int)) = H3 at n3 h3 ⊢
  try dsimp only
  refine xO fun u hu => ?_
  rw [ap_seq]
  refine Gn fun tb htb => ?_
  rw [ap_for]
  walk_at "rdi"
  have h3e := n3 _ _ h2
  have h3l := n3 _ _ h2l
  refine ⟨a, ns, rfl, (s2.trans n3).seq hS, hl, fun p1 H4 s4 hp1 h4 => ?_⟩
  refine ⟨p1, rfl, _, SqL.of h4, fun q1 hq1 => ⟨⟨_, SqL.of au⟩, ?_⟩⟩
  obtain ⟨cs, hcs, hcl⟩ := JX (cells ns)
  rw [hcs]
  have n5 := Same.new (o := .lst (cs.map V.int)) hq1
  have h5 : (upd H4 q1 (.lst (cs.map V.int))) q1 = some (.lst (cs.map V.int)) := au
  have s35 := s4.trans n5
  have hnq : q1 ≠ pe /\ q1 ≠ pl := ⟨(aN (s4 _ _ h3e) hq1).symm, (aN (s4 _ _ h3l) hq1).symm⟩
  generalize upd H4 q1 (.lst (cs.map V.int)) = H5 at n5 h5 s35
  refine ForP.enum (K := K) (a := q1) (xs := cs.map V.int) (fun i σ Hx => ∃ (pl : Addr) (es : EL) (ls : RL) (tx : Str) (tot dy : Int) (v7 v8 v9 v10 v11 v12 v13 v14 v15 v16 v17 v18 : Option V), σ = [some (.ref a), some (.ref pe), some (.ref pl), some (.str tx), some (.int tot), some (.int dy), some (.ref pb), v7, v8, v9, v10, v11, v12, v13, v14, v15, v16, v17, v18] /\ LawJ A pe pb q1 cs i Hx pl es ls tx tot dy)
   ⟨pl, [], [], Str.ofString "", 0, 0, _, _, _, _, _, _, _, _, _, _, _, _, rfl, ⟨s35 _ _ h3e, s35 _ _ h3, h5, fun r h => (List.not_mem_nil h).elim, s35 _ _ h3l, fun r h => (List.not_mem_nil h).elim, HD, rfl, rfl, ⟨Nat.le_refl _, fun g h => (List.not_mem_nil h).elim⟩, rfl, by decide +kernel, rfl, fun r h => (List.not_mem_nil h).elim, ⟨Int.le_refl _, by omega⟩, hne, hnb.2, hnq.2⟩⟩ (fun i σ Hx _ ⟨_, _, _, _, _, _, _, _, _, _, _, _, _, _, _, _, _, _, _, J⟩ => SqL.of J.q) ?_ ?_
  ·rintro i y σ H6 pt hi ⟨pl, es, ls, tx, tot, dy, v7, v8, v9, v10, v11, v12, v13, v14, v15, v16, v17, v18, rfl, J6⟩ hpt
   obtain ⟨x, rfl, hxi⟩ := sH hi
   have hil : i < cs.length := (List.getElem?_eq_some_iff.mp hxi).1
   have hi6 : i < 60 := by omega
   have n7 := Same.new (o := .tup [V.int i, V.int x]) hpt
   have J7 := J6.same n7
   walk_at "rdi"
   refine ⟨_, SqT.of au, rfl, _, _, rfl, _, _, rfl, rfl, ?_⟩
   generalize upd H6 pt _ = H7 at J7
   refine LK fun D' hD' => ?_
   rw [htb]
   clear n7
   walk_at "nx"
   refine ⟨x, pb, bsL, rfl, SqL.of J7.b, by unfold uX bsL; decide, by decide, fun p3 H8 t8 hp3 h8 => ?_⟩
   have J8 := J7.same t8
   obtain ⟨way, more, kind, size, pcs, price, fee, hdg, bw, bm, bk, bz, bp, br, bf⟩ := Eu x
   rw [hdg] at h8
   refine ⟨p3, rfl, _, SqL.of h8, rfl, _, _, rfl, _, _, rfl, _, _, rfl, _, _, rfl, _, _, rfl, _, _, rfl, _, _, rfl, rfl, ?_⟩
   clear h8 hdg J7 hp3
   walk_at "nx"
   refine ⟨by rw [sizeLine_eq]; decide, fun p4 hp4 => ?_⟩
   obtain ⟨dd, hdd, bd⟩ := Fw bw bm
   refine ⟨_, SqL.of au, _, hdd, _, rfl, ?_⟩
   have J9 := J8.same (Same.new (o := .lst [V.int 0, V.int 1, V.int more]) hp4)
   generalize upd H8 p4 _ = H9 at J9
   clear J8 hp4 hdd
   walk_at "nx"
   refine ⟨by decide, by decide, by rw [sizeLine_eq]; decide, fun p5 hp5 => ?_⟩
   obtain ⟨pc, hpc, bpc⟩ := Ec bz bp
   refine ⟨_, SqL.of au, _, hpc, _, rfl, ?_⟩
   have J10 := J9.same (Same.new (o := .lst [V.int (pcs % 5), V.int (pcs % 300), V.int pcs]) hp5)
   generalize upd H9 p5 _ = H10 at J10
   clear J9 hp5 hpc
   walk_at "nx"
   obtain ⟨pr, hpr, bpr⟩ := zG (size := size) br
   refine ⟨by decide, by rw [sizeLine_eq]; decide, fun p6 hp6 => ⟨by decide, _, SqL.of au, _, hpr, ?_⟩⟩
   have J11 := J10.same (Same.new (o := .lst [V.int (price % 20), V.int price]) hp6)
   generalize upd H10 p6 _ = H11 at J11
   clear J10 hp6 hpr
   walk_at "nx"
   have hR := J11.row
   have hyd := J11.y
   have hln : ls.length <= i := by have := hR.l; unfold dsR at this; rwa [List.length_map] at this
   refine ⟨⟨_, SqL.of J11.l⟩, ?_⟩
   refine CompP.listE (K := K) (fun σ => ∃ a, σ = [a]) (fun i v _ => ∃ l, ls[i]? = some l /\ v = .int l.2.p) (SqL.of J11.l) ⟨_, rfl⟩ (by rw [aJ, sizeLine_eq]; omega) ?_ ?_
   ·rintro Da j x hx σ H5 R ⟨_, rfl⟩ sm hD _ kk
    obtain ⟨l, hl', rfl⟩ := bW hx
    walk_at "rdi"
    exact ⟨_, SqT.of (sm _ _ (J11.L l (get_mem hl'))), .int l.2.p, rfl, kk _ _ H5 ⟨_, rfl⟩ (Same.refl _) fun H' _ => ⟨l, hl', rfl⟩⟩
   ·intro D2 H12 acc hD2 s12 hA hlen hF
    rw [iT (f := fun l => l.2.p) (by rw [hlen, aJ]) hF, rY] at hA
    rw [ap_rSum]
    refine ⟨_, SqL.of hA, ?_⟩
    have J12 := J11.same s12
    clear J11 hA hF hlen s12 hD2
    obtain ⟨held, hheld⟩ : ∃ held, held = ((dsR ls).map LotD.p).sum := ⟨_, rfl⟩
    rw [<- hheld]
    refine Dv fun v w hv hw => ?_
    walk_at "rdi"
    by_cases c : 1 < kind /\ 0 < held
    ·rw [if_pos c.1, if_pos c.2, hv]
     clear hv hw
     walk_at "nx"
     refine ⟨⟨by decide, by decide⟩, ?_⟩
     have hten : (10 : Int) ^ Int.toNat 9 = 1000000000 := rfl
     rw [hten]
     obtain ⟨p, hp, bp1, bp2, bp3⟩ : ∃ p, p = min (min held 1000000000) (pc + 1) /\ 1 <= p /\ p <= 1000000000 /\ p <= held := ⟨_, rfl, by omega, by omega, by omega⟩
     rw [<- hp]
     walk_at "nx"
     have hG : (E3.sell (dy + dd) i (Str.ofString "cup") p pr (fee % 100)).good := ⟨⟨by omega, by omega, by omega, by omega, Af⟩, ⟨by omega, by omega⟩, ⟨by omega, by omega⟩, by omega, by omega⟩
     refine ⟨tyL (SqL.of J12.e), by decide, fun y dx hy hdx _ => ⟨y, .sell (dy + dd) i (Str.ofString "cup") p pr (fee % 100), H12, dx, rfl, rfl, kY hy hdx, hG, fun H13 hN => ⟨rfl, _, hN.s _ _ J12.e, by rw [fP, J12.n, sizeLine_eq]; omega, ?_⟩⟩⟩
     have L13 := J12.app hN hnb.1 hnq.1
     generalize upd H13 pe _ = H14 at L13 ⊢
     walk_at "nx"
     refine ⟨CMulU.l (by omega) (by omega), by decide, pl, ls, p, i, Lx H14 pl, rfl, L13.l, L13.L, hR, by omega, by rw [hheld] at bp3; exact bp3, by omega, LQ _ _, Li _ _, fun ls' H15 s15 h15 hT15 hd15 => ⟨_, rfl, ?_⟩⟩
     have b15 := FN s15
     obtain ⟨gn, hgn⟩ : ∃ gn, gn = p * pr - fee % 100 - csD (cB (dsR ls) p) := ⟨_, rfl⟩
     have hcb : 0 <= p * pr /\ p * pr <= 1000000000 * 1000000000 := ⟨Int.mul_nonneg (by omega) (by omega), Int.mul_le_mul (by omega) (by omega) (by omega) (by decide)⟩
     have hcs := Jz hR (by omega) p
     have hgb : gn.natAbs < 2 ^ 300 := vO (by omega)
     have hib : (i : Int).natAbs < 2 ^ 300 := vO (by omega)
     rw [<- hgn]
     walk_at "nx"
     walk_at "rdi"
     have hz := J12.z
     have l1 : (Str.ofString "sale ").length = 5 := by decide +kernel
     have l2 : (Str.ofString " ").length = 1 := by decide +kernel
     have l3 : (Str.ofString "\n").length = 1 := by decide +kernel
     have m1 := cJ hib
     have m2 := cJ hgb
     refine ⟨by rw [l1, sizeLine_eq]; omega, .inl ⟨hib, by rw [str_len, l1, sizeLine_eq]; omega, by rw [str_len, str_len, l1, l2, sizeLine_eq]; omega, .inl ⟨hgb, by rw [str_len, str_len, str_len, l1, l2, sizeLine_eq]; omega, by rw [str_len, str_len, str_len, str_len, l1, l2, l3, sizeLine_eq]; omega, ?_⟩⟩⟩
     have hzz : (tx ++ jr (jM (i, gn))).length <= tx.length + 4000 := by
      rw [<- Cv, str_len, str_len, str_len, str_len, str_len, l1, l2, l3]
      omega
     rw [Cv, hD']
     exact ⟨pl, es ++ [(y, _)], ls', _, _, dy + dd, _, _, _, _, _, _, _, _, _, _, _, _, rfl, J12.next hi6 (b15 _ _ J12.ne L13.e) (b15 _ _ J12.nb L13.b) (b15 _ _ J12.nq L13.q) (fun r hr => rQ (L13.E r hr) L13.l b15) (rQ L13.x L13.l b15) h15 hT15 ⟨hG, rfl⟩ rfl rfl ⟨by omega, by omega⟩ ⟨bp1, by rw [hheld] at bp3; exact bp3⟩ hd15 (by rw [hgn]; exact congrArg (tx ++ ·) (jY _).symm) hzz (by rw [hgn]; exact congrArg (tot + ·) (Int.add_zero _).symm) J12.ne J12.nb J12.nq⟩
    ·have hwg : w D' [some (.ref a), some (.ref pe), some (.ref pl), some (.str tx), some (.int tot), some (.int (dy + dd)), some (.ref pb), some (.int i), some (.int x), some (.int way), some (.int more), some (.int kind), some (.int size), some (.int (pc + 1)), some (.int pr), some (.int fee), some (.int held), v17, v18] H12 := by
      rw [hw]
      clear hv hw
      refine Dv fun v w hv hw => ?_
      walk_at "rdi"
      by_cases c1 : kind = 1
      ·rw [if_pos c1, hv]
       clear hv hw
       walk_at "nx"
       refine ⟨by omega, ?_⟩
       have hsc : 0 <= fee % (dy + dd + 1) /\ fee % (dy + dd + 1) < dy + dd + 1 := ⟨Int.emod_nonneg _ (by omega), Int.emod_lt_of_pos _ (by omega)⟩
       obtain ⟨sn, hsn⟩ : ∃ sn, sn = dy + dd - fee % (dy + dd + 1) := ⟨_, rfl⟩
       rw [<- hsn]
       walk_at "nx"
       have hcb : 0 <= pr * fee /\ pr * fee <= 1000000000 * 1000000000 := ⟨Int.mul_nonneg (by omega) (by omega), Int.mul_le_mul (by omega) (by omega) (by omega) (by decide)⟩
       have hG : (E3.gift (dy + dd) i (Str.ofString "cup") (pc + 1) (pr * fee) sn).good := ⟨⟨by omega, by omega, by omega, by omega, Af⟩, ⟨by omega, by omega⟩, ⟨by omega, by omega⟩, by omega, by omega⟩
       refine ⟨tyL (SqL.of J12.e), CMulU.l (by omega) (by omega), fun y dx hy hdx _ => ⟨y, .gift (dy + dd) i (Str.ofString "cup") (pc + 1) (pr * fee) sn, H12, dx, rfl, rfl, kY hy hdx, hG, fun H13 hN => ⟨rfl, _, hN.s _ _ J12.e, by rw [fP, J12.n, sizeLine_eq]; omega, ?_⟩⟩⟩
       have L13 := J12.app hN hnb.1 hnq.1
       generalize upd H13 pe _ = H14 at L13 ⊢
       walk_at "rdi"
       refine ⟨CMulU.l (by omega) (by omega), by rw [sizeLine_eq]; decide, xQ (d := (E3.gift (dy + dd) i (Str.ofString "cup") (pc + 1) (pr * fee) sn).lot) (R := fun p3 H' => D'.nx [some (.ref a), some (.ref pe), some (.ref p3), some (.str tx), some (.int tot), some (.int (dy + dd)), some (.ref pb), some (.int i), some (.int x), some (.int way), some (.int more), some (.int kind), some (.int size), some (.int (pc + 1)), some (.int pr), some (.int fee), some (.int held), v17, some (.int sn)] H') hR rfl hi6 L13.l L13.L ?_⟩
       intro p' ls' H' s' hp' h' hT' hd'
       have L' := L13.same s'
       show D'.nx _ _
       rw [hD']
       exact ⟨p', es ++ [(y, _)], ls', tx, tot, dy + dd, _, _, _, _, _, _, _, _, _, _, _, _, rfl, J12.next hi6 L'.e L'.b L'.q L'.E L'.x h' hT' ⟨hG, rfl⟩ rfl rfl ⟨by omega, by omega⟩ trivial hd' (sI tx).symm (by omega) (Int.add_zero _).symm (aN L13.e hp') (aN L13.b hp') (aN L13.q hp')⟩
      ·rw [if_neg c1, hw]
       clear hv hw
       walk_at "nx"
       have hG : (E3.buy (dy + dd) i (Str.ofString "cup") (pc + 1) pr (fee % 50)).good := ⟨⟨by omega, by omega, by omega, by omega, Af⟩, ⟨by omega, by omega⟩, ⟨by omega, by omega⟩, by omega, by omega⟩
       refine ⟨tyL (SqL.of J12.e), by decide, fun y dx hy hdx _ => ⟨y, .buy (dy + dd) i (Str.ofString "cup") (pc + 1) pr (fee % 50), H12, dx, rfl, rfl, kY hy hdx, hG, fun H13 hN => ⟨rfl, _, hN.s _ _ J12.e, by rw [fP, J12.n, sizeLine_eq]; omega, ?_⟩⟩⟩
       have L13 := J12.app hN hnb.1 hnq.1
       generalize upd H13 pe _ = H14 at L13 ⊢
       walk_at "rdi"
       refine ⟨CMulU.l (by omega) (by omega), by decide, by rw [sizeLine_eq]; decide, xQ (d := (E3.buy (dy + dd) i (Str.ofString "cup") (pc + 1) pr (fee % 50)).lot) (R := fun p3 H' => D'.nx [some (.ref a), some (.ref pe), some (.ref p3), some (.str tx), some (.int tot), some (.int (dy + dd)), some (.ref pb), some (.int i), some (.int x), some (.int way), some (.int more), some (.int kind), some (.int size), some (.int (pc + 1)), some (.int pr), some (.int fee), some (.int held), v17, v18] H') hR rfl hi6 L13.l L13.L ?_⟩
       intro p' ls' H' s' hp' h' hT' hd'
       have L' := L13.same s'
       show D'.nx _ _
       rw [hD']
       exact ⟨p', es ++ [(y, _)], ls', tx, tot, dy + dd, _, _, _, _, _, _, _, _, _, _, _, _, rfl, J12.next hi6 L'.e L'.b L'.q L'.E L'.x h' hT' ⟨hG, rfl⟩ rfl rfl ⟨by omega, by omega⟩ trivial hd' (sI tx).symm (by omega) (Int.add_zero _).symm (aN L13.e hp') (aN L13.b hp') (aN L13.q hp')⟩
     by_cases ck : 1 < kind
     ·rw [if_pos ck, if_neg fun h => c ⟨ck, h⟩]
      exact hwg
     ·rw [if_neg ck]
      exact hwg
  ·rintro σ H6 ⟨pl, es, ls, tx, tot, dy, v7, v8, v9, v10, v11, v12, v13, v14, v15, v16, v17, v18, rfl, J6⟩
   rw [hu]
   walk_at "nx"
   have hR := J6.row
   have hc6 : (cs.map V.int).length <= 60 := by rw [List.length_map]; exact hcl
   have hs := xW hR hc6
   have hln : ls.length <= (cs.map V.int).length := by have := hR.l; unfold dsR at this; rwa [List.length_map] at this
   have e0 : lu (es.map (·.2)) = (dsR ls, (lu (es.map (·.2))).2) := by rw [J6.r]
   have hOk : RepOk (lu (es.map (·.2))) := Lq (by rw [<- J6.r]; exact hR) J6.g hc6
   have hfl := Jh hOk
   rw [<- J6.t, <- J6.r] at hfl
   have hto : tot.natAbs < 2 ^ 300 := by
    have h1 := Du (m := 60) fun g hg' => (J6.g.b g hg').2
    have h2 := J6.g.l
    rw [<- J6.o] at h1
    have e1 : 1000000000000000000000 * (lu (es.map (·.2))).2.length <= 1000000000000000000000 * 60 := Nat.mul_le_mul_left _ (by omega)
    exact vO (by omega)
   have l1 : (Str.ofString "gain ").length = 5 := by decide +kernel
   have l2 : (Str.ofString "\n").length = 1 := by decide +kernel
   have l3 := cJ hto
   refine ⟨pl, ls, rfl, J6.l, J6.L, by omega, fun d hd => by have := hR.g d hd; exact ⟨vO (by omega), vO (by omega), vO (by omega)⟩, vO (by omega), vO (by omega), fun H7 s7 => ⟨_, rfl, by rw [sizeLine_eq]; omega, by rw [str_len, l1, sizeLine_eq]; omega, .inl ⟨hto, by rw [str_len, str_len, l1, sizeLine_eq]; omega, by rw [str_len, str_len, str_len, l1, l2, sizeLine_eq]; omega, ?_⟩⟩⟩
   rw [Ij]
   have J7 := J6.same s7
   walk_at "rda"
   intro w dw hw hdw _
   have hN := kY (C := A.C_Eldest) hw hdw
   generalize upd (upd H7 dw (HO.own w)) w (HO.ins A.C_Eldest dw []) = H8 at hN ⊢
   refine ⟨_, SqL.of (hN.s _ _ J7.e), fun pr hpr => ?_⟩
   rw [FP]
   have s9 := Same.new (o := .lst (gm es.reverse)) hpr
   refine ⟨w, dw, pr, es.reverse, es.map (·.2), rfl, s9 _ _ hN.h, au, fun r hr => ((J7.E r (List.mem_reverse.mp hr)).same hN.s).same s9, J7.h, by rw [List.length_map, J7.n]; exact hc6, by rw [List.map_reverse]; exact List.reverse_perm _, fun b k' H10 hB hrun => ⟨b, k', rfl, hB, by rw [hrun]; exact hOk, fun H11 => ?_⟩⟩
   have e : Lg (lu (es.map (·.2))) = tx ++ qy ((heldW (dsR ls)).map jr) ++ jr [V.str (Str.ofString "gain"), V.int tot] := by
    rw [GQ, <- J6.t, <- J6.r, J6.o]
    rfl
   rw [hrun, e]
   refine ⟨rfl, ?_⟩
   rw [decide_eq_true rfl]
   exact k _
end
end My
namespace My
open PySem L2 PyProof.Rows
theorem all_mk {l : PySem.W.OpenLaw} {w : World} {K : Fg_} {h : Heap} {mg : Str -> Option Value} {fa : Addr} (X : K.In h) (G : h.Ns mainGlobals mg) (hfa : mg "law" = some (.ref fa))
  {c0 : Addr}
  (u_Sale : PySem.W.nsIn K mainGlobals "Sale" = some (some (.ref c0)))
  {c1 : Addr}
  (u_Book : PySem.W.nsIn K mainGlobals "Book" = some (some (.ref c1)))
  {c2 : Addr}
  (u_Lot : PySem.W.nsIn K mainGlobals "Lot" = some (some (.ref c2)))
  {c3 : Addr}
  (u_Way : PySem.W.nsIn K mainGlobals "Way" = some (some (.ref c3)))
  {c4 : Addr}
  (u_Eldest : PySem.W.nsIn K mainGlobals "Eldest" = some (some (.ref c4)))
  {c5 : Addr}
  (u_NoLot : PySem.W.nsIn K mainGlobals "NoLot" = some (some (.ref c5)))
  {c6 : Addr}
  (u_Buy : PySem.W.nsIn K mainGlobals "Buy" = some (some (.ref c6)))
  {c7 : Addr}
  (u_Gift : PySem.W.nsIn K mainGlobals "Gift" = some (some (.ref c7)))
  {c8 : Addr}
  (u_Sell : PySem.W.nsIn K mainGlobals "Sell" = some (some (.ref c8)))
  {c9 : Addr}
  (u_Entry : PySem.W.nsIn K mainGlobals "Entry" = some (some (.ref c9)))
  {f0 : Addr} {od0 an0 : Option Addr} {sl0 : Array (Option Value)} {oc0 kV0 dc0 pm0 cd0 ct0 : Value}
  (a0 : PySem.W.nsIn K mainGlobals "_law_digits" = some (some (.ref f0)))
  (l0 : K.lookup f0 = some ⟨oc0, od0, .func (PySem.W.fnOf "_law_digits" "_law_digits" (aD dF) (aC dF) (ak dF) .none kV0 dc0 pm0 an0 cd0 ct0), sl0⟩)
  (d0 : PySem.W.codeIn K cd0 "_law_digits" = true)
  (k0 : PySem.W.keepIn K (.ref f0) = true)
  {f1 : Addr} {od1 an1 : Option Addr} {sl1 : Array (Option Value)} {oc1 kV1 dc1 pm1 cd1 ct1 : Value}
  (a1 : PySem.W.findIn K (.ref c0) "__init__" = some (some (.ref f1)))
  (l1 : K.lookup f1 = some ⟨oc1, od1, .func (PySem.W.fnOf "__init__" "Sale.__init__" (aD bZ) (aC bZ) (ak bZ) .none kV1 dc1 pm1 an1 cd1 ct1), sl1⟩)
  (d1 : PySem.W.codeIn K cd1 "Sale.__init__" = true)
  (k1 : PySem.W.keepIn K (.ref f1) = true)
  {f2 : Addr} {od2 an2 : Option Addr} {sl2 : Array (Option Value)} {oc2 kV2 dc2 pm2 cd2 ct2 : Value}
  (a2 : PySem.W.nsIn K mainGlobals "copy_of_sale" = some (some (.ref f2)))
  (l2 : K.lookup f2 = some ⟨oc2, od2, .func (PySem.W.fnOf "copy_of_sale" "copy_of_sale" (aD cR) (aC cR) (ak cR) .none kV2 dc2 pm2 an2 cd2 ct2), sl2⟩)
  (d2 : PySem.W.codeIn K cd2 "copy_of_sale" = true)
  (k2 : PySem.W.keepIn K (.ref f2) = true)
  {f3 : Addr} {od3 an3 : Option Addr} {sl3 : Array (Option Value)} {oc3 kV3 dc3 pm3 cd3 ct3 : Value}
  (a3 : PySem.W.findIn K (.ref c1) "sales" = some (some (.ref f3)))
  (l3 : K.lookup f3 = some ⟨oc3, od3, .func (PySem.W.fnOf "sales" "Book.sales" (aD dX) (aC dX) (ak dX) .none kV3 dc3 pm3 an3 cd3 ct3), sl3⟩)
  (d3 : PySem.W.codeIn K cd3 "Book.sales" = true)
  (k3 : PySem.W.keepIn K (.ref f3) = true)
  {f4 : Addr} {od4 an4 : Option Addr} {sl4 : Array (Option Value)} {oc4 kV4 dc4 pm4 cd4 ct4 : Value}
  (a4 : PySem.W.nsIn K mainGlobals "cost_of_parts" = some (some (.ref f4)))
  (l4 : K.lookup f4 = some ⟨oc4, od4, .func (PySem.W.fnOf "cost_of_parts" "cost_of_parts" (aD cA) (aC cA) (ak cA) .none kV4 dc4 pm4 an4 cd4 ct4), sl4⟩)
  (d4 : PySem.W.codeIn K cd4 "cost_of_parts" = true)
  (k4 : PySem.W.keepIn K (.ref f4) = true)
  {f5 : Addr} {od5 an5 : Option Addr} {sl5 : Array (Option Value)} {oc5 kV5 dc5 pm5 cd5 ct5 : Value}
  (a5 : PySem.W.findIn K (.ref c0) "gain" = some (some (.ref f5)))
  (l5 : K.lookup f5 = some ⟨oc5, od5, .func (PySem.W.fnOf "gain" "Sale.gain" (aD eU) (aC eU) (ak eU) .none kV5 dc5 pm5 an5 cd5 ct5), sl5⟩)
  (d5 : PySem.W.codeIn K cd5 "Sale.gain" = true)
  (k5 : PySem.W.keepIn K (.ref f5) = true)
  {f6 : Addr} {od6 an6 : Option Addr} {sl6 : Array (Option Value)} {oc6 kV6 dc6 pm6 cd6 ct6 : Value}
  (a6 : PySem.W.findIn K (.ref c0) "counted" = some (some (.ref f6)))
  (l6 : K.lookup f6 = some ⟨oc6, od6, .func (PySem.W.fnOf "counted" "Sale.counted" (aD cW) (aC cW) (ak cW) .none kV6 dc6 pm6 an6 cd6 ct6), sl6⟩)
  (d6 : PySem.W.codeIn K cd6 "Sale.counted" = true)
  (k6 : PySem.W.keepIn K (.ref f6) = true)
  {f7 : Addr} {od7 an7 : Option Addr} {sl7 : Array (Option Value)} {oc7 kV7 dc7 pm7 cd7 ct7 : Value}
  (a7 : PySem.W.nsIn K mainGlobals "words_of_sale" = some (some (.ref f7)))
  (l7 : K.lookup f7 = some ⟨oc7, od7, .func (PySem.W.fnOf "words_of_sale" "words_of_sale" (aD cI) (aC cI) (ak cI) .none kV7 dc7 pm7 an7 cd7 ct7), sl7⟩)
  (d7 : PySem.W.codeIn K cd7 "words_of_sale" = true)
  (k7 : PySem.W.keepIn K (.ref f7) = true)
  {f8 : Addr} {od8 an8 : Option Addr} {sl8 : Array (Option Value)} {oc8 kV8 dc8 pm8 cd8 ct8 : Value}
  (a8 : PySem.W.nsIn K mainGlobals "pieces_in" = some (some (.ref f8)))
  (l8 : K.lookup f8 = some ⟨oc8, od8, .func (PySem.W.fnOf "pieces_in" "pieces_in" (aD eX) (aC eX) (ak eX) .none kV8 dc8 pm8 an8 cd8 ct8), sl8⟩)
  (d8 : PySem.W.codeIn K cd8 "pieces_in" = true)
  (k8 : PySem.W.keepIn K (.ref f8) = true)
  {f9 : Addr} {od9 an9 : Option Addr} {sl9 : Array (Option Value)} {oc9 kV9 dc9 pm9 cd9 ct9 : Value}
  (a9 : PySem.W.nsIn K mainGlobals "cost_in" = some (some (.ref f9)))
  (l9 : K.lookup f9 = some ⟨oc9, od9, .func (PySem.W.fnOf "cost_in" "cost_in" (aD gD) (aC gD) (ak gD) .none kV9 dc9 pm9 an9 cd9 ct9), sl9⟩)
  (d9 : PySem.W.codeIn K cd9 "cost_in" = true)
  (k9 : PySem.W.keepIn K (.ref f9) = true)
  {f10 : Addr} {od10 an10 : Option Addr} {sl10 : Array (Option Value)} {oc10 kV10 dc10 pm10 cd10 ct10 : Value}
  (a10 : PySem.W.nsIn K mainGlobals "word_of_lot" = some (some (.ref f10)))
  (l10 : K.lookup f10 = some ⟨oc10, od10, .func (PySem.W.fnOf "word_of_lot" "word_of_lot" (aD dH) (aC dH) (ak dH) .none kV10 dc10 pm10 an10 cd10 ct10), sl10⟩)
  (d10 : PySem.W.codeIn K cd10 "word_of_lot" = true)
  (k10 : PySem.W.keepIn K (.ref f10) = true)
  {f11 : Addr} {od11 an11 : Option Addr} {sl11 : Array (Option Value)} {oc11 kV11 dc11 pm11 cd11 ct11 : Value}
  (a11 : PySem.W.nsIn K mainGlobals "words_of_held" = some (some (.ref f11)))
  (l11 : K.lookup f11 = some ⟨oc11, od11, .func (PySem.W.fnOf "words_of_held" "words_of_held" (aD cH) (aC cH) (ak cH) .none kV11 dc11 pm11 an11 cd11 ct11), sl11⟩)
  (d11 : PySem.W.codeIn K cd11 "words_of_held" = true)
  (k11 : PySem.W.keepIn K (.ref f11) = true)
  {f12 : Addr} {od12 an12 : Option Addr} {sl12 : Array (Option Value)} {oc12 kV12 dc12 pm12 cd12 ct12 : Value}
  (a12 : PySem.W.nsIn K mainGlobals "row_of_words" = some (some (.ref f12)))
  (l12 : K.lookup f12 = some ⟨oc12, od12, .func (PySem.W.fnOf "row_of_words" "row_of_words" (aD cT) (aC cT) (ak cT) .none kV12 dc12 pm12 an12 cd12 ct12), sl12⟩)
  (d12 : PySem.W.codeIn K cd12 "row_of_words" = true)
  (k12 : PySem.W.keepIn K (.ref f12) = true)
  {f13 : Addr} {od13 an13 : Option Addr} {sl13 : Array (Option Value)} {oc13 kV13 dc13 pm13 cd13 ct13 : Value}
  (a13 : PySem.W.findIn K (.ref c1) "row_of" = some (some (.ref f13)))
  (l13 : K.lookup f13 = some ⟨oc13, od13, .func (PySem.W.fnOf "row_of" "Book.row_of" (aD dG) (aC dG) (ak dG) .none kV13 dc13 pm13 an13 cd13 ct13), sl13⟩)
  (d13 : PySem.W.codeIn K cd13 "Book.row_of" = true)
  (k13 : PySem.W.keepIn K (.ref f13) = true)
  {f14 : Addr} {od14 an14 : Option Addr} {sl14 : Array (Option Value)} {oc14 kV14 dc14 pm14 cd14 ct14 : Value}
  (a14 : PySem.W.findIn K (.ref c1) "held" = some (some (.ref f14)))
  (l14 : K.lookup f14 = some ⟨oc14, od14, .func (PySem.W.fnOf "held" "Book.held" (aD eY) (aC eY) (ak eY) .none kV14 dc14 pm14 an14 cd14 ct14), sl14⟩)
  (d14 : PySem.W.codeIn K cd14 "Book.held" = true)
  (k14 : PySem.W.keepIn K (.ref f14) = true)
  {f15 : Addr} {od15 an15 : Option Addr} {sl15 : Array (Option Value)} {oc15 kV15 dc15 pm15 cd15 ct15 : Value}
  (a15 : PySem.W.nsIn K mainGlobals "report_of" = some (some (.ref f15)))
  (l15 : K.lookup f15 = some ⟨oc15, od15, .func (PySem.W.fnOf "report_of" "report_of" (aD eN) (aC eN) (ak eN) .none kV15 dc15 pm15 an15 cd15 ct15), sl15⟩)
  (d15 : PySem.W.codeIn K cd15 "report_of" = true)
  (k15 : PySem.W.keepIn K (.ref f15) = true)
  {f16 : Addr} {od16 an16 : Option Addr} {sl16 : Array (Option Value)} {oc16 kV16 dc16 pm16 cd16 ct16 : Value}
  (a16 : PySem.W.nsIn K mainGlobals "_law_mixed" = some (some (.ref f16)))
  (l16 : K.lookup f16 = some ⟨oc16, od16, .func (PySem.W.fnOf "_law_mixed" "_law_mixed" (aD dW) (aC dW) (ak dW) .none kV16 dc16 pm16 an16 cd16 ct16), sl16⟩)
  (d16 : PySem.W.codeIn K cd16 "_law_mixed" = true)
  (k16 : PySem.W.keepIn K (.ref f16) = true)
  {f17 : Addr} {od17 an17 : Option Addr} {sl17 : Array (Option Value)} {oc17 kV17 dc17 pm17 cd17 ct17 : Value}
  (a17 : PySem.W.nsIn K mainGlobals "_law_cells" = some (some (.ref f17)))
  (l17 : K.lookup f17 = some ⟨oc17, od17, .func (PySem.W.fnOf "_law_cells" "_law_cells" (aD dO) (aC dO) (ak dO) .none kV17 dc17 pm17 an17 cd17 ct17), sl17⟩)
  (d17 : PySem.W.codeIn K cd17 "_law_cells" = true)
  (k17 : PySem.W.keepIn K (.ref f17) = true)
  {f18 : Addr} {od18 an18 : Option Addr} {sl18 : Array (Option Value)} {oc18 kV18 dc18 pm18 cd18 ct18 : Value}
  (a18 : PySem.W.nsIn K mainGlobals "refuse_twice" = some (some (.ref f18)))
  (l18 : K.lookup f18 = some ⟨oc18, od18, .func (PySem.W.fnOf "refuse_twice" "refuse_twice" (aD cV) (aC cV) (ak cV) .none kV18 dc18 pm18 an18 cd18 ct18), sl18⟩)
  (d18 : PySem.W.codeIn K cd18 "refuse_twice" = true)
  (k18 : PySem.W.keepIn K (.ref f18) = true)
  {f19 : Addr} {od19 an19 : Option Addr} {sl19 : Array (Option Value)} {oc19 kV19 dc19 pm19 cd19 ct19 : Value}
  (a19 : PySem.W.nsIn K mainGlobals "place_of" = some (some (.ref f19)))
  (l19 : K.lookup f19 = some ⟨oc19, od19, .func (PySem.W.fnOf "place_of" "place_of" (aD fJ) (aC fJ) (ak fJ) .none kV19 dc19 pm19 an19 cd19 ct19), sl19⟩)
  (d19 : PySem.W.codeIn K cd19 "place_of" = true)
  (k19 : PySem.W.keepIn K (.ref f19) = true)
  {f20 : Addr} {od20 an20 : Option Addr} {sl20 : Array (Option Value)} {oc20 kV20 dc20 pm20 cd20 ct20 : Value}
  (a20 : PySem.W.nsIn K mainGlobals "in_order" = some (some (.ref f20)))
  (l20 : K.lookup f20 = some ⟨oc20, od20, .func (PySem.W.fnOf "in_order" "in_order" (aD fH) (aC fH) (ak fH) .none kV20 dc20 pm20 an20 cd20 ct20), sl20⟩)
  (d20 : PySem.W.codeIn K cd20 "in_order" = true)
  (k20 : PySem.W.keepIn K (.ref f20) = true)
  {f21 : Addr} {od21 an21 : Option Addr} {sl21 : Array (Option Value)} {oc21 kV21 dc21 pm21 cd21 ct21 : Value}
  (a21 : PySem.W.findIn K (.ref c1) "keep_row" = some (some (.ref f21)))
  (l21 : K.lookup f21 = some ⟨oc21, od21, .func (PySem.W.fnOf "keep_row" "Book.keep_row" (aD cF) (aC cF) (ak cF) .none kV21 dc21 pm21 an21 cd21 ct21), sl21⟩)
  (d21 : PySem.W.codeIn K cd21 "Book.keep_row" = true)
  (k21 : PySem.W.keepIn K (.ref f21) = true)
  {f22 : Addr} {od22 an22 : Option Addr} {sl22 : Array (Option Value)} {oc22 kV22 dc22 pm22 cd22 ct22 : Value}
  (a22 : PySem.W.nsIn K mainGlobals "place_in_row" = some (some (.ref f22)))
  (l22 : K.lookup f22 = some ⟨oc22, od22, .func (PySem.W.fnOf "place_in_row" "place_in_row" (aD cU) (aC cU) (ak cU) .none kV22 dc22 pm22 an22 cd22 ct22), sl22⟩)
  (d22 : PySem.W.codeIn K cd22 "place_in_row" = true)
  (k22 : PySem.W.keepIn K (.ref f22) = true)
  {f23 : Addr} {od23 an23 : Option Addr} {sl23 : Array (Option Value)} {oc23 kV23 dc23 pm23 cd23 ct23 : Value}
  (a23 : PySem.W.findIn K (.ref c2) "__init__" = some (some (.ref f23)))
  (l23 : K.lookup f23 = some ⟨oc23, od23, .func (PySem.W.fnOf "__init__" "Lot.__init__" (aD cL) (aC cL) (ak cL) .none kV23 dc23 pm23 an23 cd23 ct23), sl23⟩)
  (d23 : PySem.W.codeIn K cd23 "Lot.__init__" = true)
  (k23 : PySem.W.keepIn K (.ref f23) = true)
  {f24 : Addr} {od24 an24 : Option Addr} {sl24 : Array (Option Value)} {oc24 kV24 dc24 pm24 cd24 ct24 : Value}
  (a24 : PySem.W.findIn K (.ref c2) "with_more" = some (some (.ref f24)))
  (l24 : K.lookup f24 = some ⟨oc24, od24, .func (PySem.W.fnOf "with_more" "Lot.with_more" (aD cu) (aC cu) (ak cu) .none kV24 dc24 pm24 an24 cd24 ct24), sl24⟩)
  (d24 : PySem.W.codeIn K cd24 "Lot.with_more" = true)
  (k24 : PySem.W.keepIn K (.ref f24) = true)
  {f25 : Addr} {od25 an25 : Option Addr} {sl25 : Array (Option Value)} {oc25 kV25 dc25 pm25 cd25 ct25 : Value}
  (a25 : PySem.W.nsIn K mainGlobals "row_with" = some (some (.ref f25)))
  (l25 : K.lookup f25 = some ⟨oc25, od25, .func (PySem.W.fnOf "row_with" "row_with" (aD fG) (aC fG) (ak fG) .none kV25 dc25 pm25 an25 cd25 ct25), sl25⟩)
  (d25 : PySem.W.codeIn K cd25 "row_with" = true)
  (k25 : PySem.W.keepIn K (.ref f25) = true)
  {f26 : Addr} {od26 an26 : Option Addr} {sl26 : Array (Option Value)} {oc26 kV26 dc26 pm26 cd26 ct26 : Value}
  (a26 : PySem.W.findIn K (.ref c1) "put" = some (some (.ref f26)))
  (l26 : K.lookup f26 = some ⟨oc26, od26, .func (PySem.W.fnOf "put" "Book.put" (aD fK) (aC fK) (ak fK) .none kV26 dc26 pm26 an26 cd26 ct26), sl26⟩)
  (d26 : PySem.W.codeIn K cd26 "Book.put" = true)
  (k26 : PySem.W.keepIn K (.ref f26) = true)
  {f27 : Addr} {od27 an27 : Option Addr} {sl27 : Array (Option Value)} {oc27 kV27 dc27 pm27 cd27 ct27 : Value}
  (a27 : PySem.W.findIn K (.ref c1) "lay_on" = some (some (.ref f27)))
  (l27 : K.lookup f27 = some ⟨oc27, od27, .func (PySem.W.fnOf "lay_on" "Book.lay_on" (aD dB) (aC dB) (ak dB) .none kV27 dc27 pm27 an27 cd27 ct27), sl27⟩)
  (d27 : PySem.W.codeIn K cd27 "Book.lay_on" = true)
  (k27 : PySem.W.keepIn K (.ref f27) = true)
  {f28 : Addr} {od28 an28 : Option Addr} {sl28 : Array (Option Value)} {oc28 kV28 dc28 pm28 cd28 ct28 : Value}
  (a28 : PySem.W.findIn K (.ref c1) "do_buy" = some (some (.ref f28)))
  (l28 : K.lookup f28 = some ⟨oc28, od28, .func (PySem.W.fnOf "do_buy" "Book.do_buy" (aD di) (aC di) (ak di) .none kV28 dc28 pm28 an28 cd28 ct28), sl28⟩)
  (d28 : PySem.W.codeIn K cd28 "Book.do_buy" = true)
  (k28 : PySem.W.keepIn K (.ref f28) = true)
  {f29 : Addr} {od29 an29 : Option Addr} {sl29 : Array (Option Value)} {oc29 kV29 dc29 pm29 cd29 ct29 : Value}
  (a29 : PySem.W.findIn K (.ref c1) "do_gift" = some (some (.ref f29)))
  (l29 : K.lookup f29 = some ⟨oc29, od29, .func (PySem.W.fnOf "do_gift" "Book.do_gift" (aD cP) (aC cP) (ak cP) .none kV29 dc29 pm29 an29 cd29 ct29), sl29⟩)
  (d29 : PySem.W.codeIn K cd29 "Book.do_gift" = true)
  (k29 : PySem.W.keepIn K (.ref f29) = true)
  {f30 : Addr} {od30 an30 : Option Addr} {sl30 : Array (Option Value)} {oc30 kV30 dc30 pm30 cd30 ct30 : Value}
  (a30 : PySem.W.nsIn K mainGlobals "sum_of_weights" = some (some (.ref f30)))
  (l30 : K.lookup f30 = some ⟨oc30, od30, .func (PySem.W.fnOf "sum_of_weights" "sum_of_weights" (aD bR) (aC bR) (ak bR) .none kV30 dc30 pm30 an30 cd30 ct30), sl30⟩)
  (d30 : PySem.W.codeIn K cd30 "sum_of_weights" = true)
  (k30 : PySem.W.keepIn K (.ref f30) = true)
  {f31 : Addr} {od31 an31 : Option Addr} {sl31 : Array (Option Value)} {oc31 kV31 dc31 pm31 cd31 ct31 : Value}
  (a31 : PySem.W.nsIn K mainGlobals "part_of" = some (some (.ref f31)))
  (l31 : K.lookup f31 = some ⟨oc31, od31, .func (PySem.W.fnOf "part_of" "part_of" (aD gC) (aC gC) (ak gC) .none kV31 dc31 pm31 an31 cd31 ct31), sl31⟩)
  (d31 : PySem.W.codeIn K cd31 "part_of" = true)
  (k31 : PySem.W.keepIn K (.ref f31) = true)
  {f32 : Addr} {od32 an32 : Option Addr} {sl32 : Array (Option Value)} {oc32 kV32 dc32 pm32 cd32 ct32 : Value}
  (a32 : PySem.W.nsIn K mainGlobals "dealt" = some (some (.ref f32)))
  (l32 : K.lookup f32 = some ⟨oc32, od32, .func (PySem.W.fnOf "dealt" "dealt" (aD kh) (aC kh) (ak kh) .none kV32 dc32 pm32 an32 cd32 ct32), sl32⟩)
  (d32 : PySem.W.codeIn K cd32 "dealt" = true)
  (k32 : PySem.W.keepIn K (.ref f32) = true)
  {f33 : Addr} {od33 an33 : Option Addr} {sl33 : Array (Option Value)} {oc33 kV33 dc33 pm33 cd33 ct33 : Value}
  (a33 : PySem.W.nsIn K mainGlobals "sale_of" = some (some (.ref f33)))
  (l33 : K.lookup f33 = some ⟨oc33, od33, .func (PySem.W.fnOf "sale_of" "sale_of" (aD gw) (aC gw) (ak gw) .none kV33 dc33 pm33 an33 cd33 ct33), sl33⟩)
  (d33 : PySem.W.codeIn K cd33 "sale_of" = true)
  (k33 : PySem.W.keepIn K (.ref f33) = true)
  {f34 : Addr} {od34 an34 : Option Addr} {sl34 : Array (Option Value)} {oc34 kV34 dc34 pm34 cd34 ct34 : Value}
  (a34 : PySem.W.findIn K (.ref c3) "levelled" = some (some (.ref f34)))
  (l34 : K.lookup f34 = some ⟨oc34, od34, .func (PySem.W.fnOf "levelled" "Way.levelled" (aD cM) (aC cM) (ak cM) .none kV34 dc34 pm34 an34 cd34 ct34), sl34⟩)
  (d34 : PySem.W.codeIn K cd34 "Way.levelled" = true)
  (k34 : PySem.W.keepIn K (.ref f34) = true)
  {f35 : Addr} {od35 an35 : Option Addr} {sl35 : Array (Option Value)} {oc35 kV35 dc35 pm35 cd35 ct35 : Value}
  (a35 : PySem.W.findIn K (.ref c2) "taken" = some (some (.ref f35)))
  (l35 : K.lookup f35 = some ⟨oc35, od35, .func (PySem.W.fnOf "taken" "Lot.taken" (aD eQ) (aC eQ) (ak eQ) .none kV35 dc35 pm35 an35 cd35 ct35), sl35⟩)
  (d35 : PySem.W.codeIn K cd35 "Lot.taken" = true)
  (k35 : PySem.W.keepIn K (.ref f35) = true)
  {f36 : Addr} {od36 an36 : Option Addr} {sl36 : Array (Option Value)} {oc36 kV36 dc36 pm36 cd36 ct36 : Value}
  (a36 : PySem.W.nsIn K mainGlobals "row_without" = some (some (.ref f36)))
  (l36 : K.lookup f36 = some ⟨oc36, od36, .func (PySem.W.fnOf "row_without" "row_without" (aD dD) (aC dD) (ak dD) .none kV36 dc36 pm36 an36 cd36 ct36), sl36⟩)
  (d36 : PySem.W.codeIn K cd36 "row_without" = true)
  (k36 : PySem.W.keepIn K (.ref f36) = true)
  {f37 : Addr} {od37 an37 : Option Addr} {sl37 : Array (Option Value)} {oc37 kV37 dc37 pm37 cd37 ct37 : Value}
  (a37 : PySem.W.nsIn K mainGlobals "picks_in_turn" = some (some (.ref f37)))
  (l37 : K.lookup f37 = some ⟨oc37, od37, .func (PySem.W.fnOf "picks_in_turn" "picks_in_turn" (aD cC) (aC cC) (ak cC) .none kV37 dc37 pm37 an37 cd37 ct37), sl37⟩)
  (d37 : PySem.W.codeIn K cd37 "picks_in_turn" = true)
  (k37 : PySem.W.keepIn K (.ref f37) = true)
  {f38 : Addr} {od38 an38 : Option Addr} {sl38 : Array (Option Value)} {oc38 kV38 dc38 pm38 cd38 ct38 : Value}
  (a38 : PySem.W.findIn K (.ref c4) "picks" = some (some (.ref f38)))
  (l38 : K.lookup f38 = some ⟨oc38, od38, .func (PySem.W.fnOf "picks" "Eldest.picks" (aD cQ) (aC cQ) (ak cQ) .none kV38 dc38 pm38 an38 cd38 ct38), sl38⟩)
  (d38 : PySem.W.codeIn K cd38 "Eldest.picks" = true)
  (k38 : PySem.W.keepIn K (.ref f38) = true)
  {f39 : Addr} {od39 an39 : Option Addr} {sl39 : Array (Option Value)} {oc39 kV39 dc39 pm39 cd39 ct39 : Value}
  (a39 : PySem.W.nsIn K mainGlobals "gone_from" = some (some (.ref f39)))
  (l39 : K.lookup f39 = some ⟨oc39, od39, .func (PySem.W.fnOf "gone_from" "gone_from" (aD eF) (aC eF) (ak eF) .none kV39 dc39 pm39 an39 cd39 ct39), sl39⟩)
  (d39 : PySem.W.codeIn K cd39 "gone_from" = true)
  (k39 : PySem.W.keepIn K (.ref f39) = true)
  {f40 : Addr} {od40 an40 : Option Addr} {sl40 : Array (Option Value)} {oc40 kV40 dc40 pm40 cd40 ct40 : Value}
  (a40 : PySem.W.findIn K (.ref c1) "taken_for" = some (some (.ref f40)))
  (l40 : K.lookup f40 = some ⟨oc40, od40, .func (PySem.W.fnOf "taken_for" "Book.taken_for" (aD bT) (aC bT) (ak bT) .none kV40 dc40 pm40 an40 cd40 ct40), sl40⟩)
  (d40 : PySem.W.codeIn K cd40 "Book.taken_for" = true)
  (k40 : PySem.W.keepIn K (.ref f40) = true)
  {f41 : Addr} {od41 an41 : Option Addr} {sl41 : Array (Option Value)} {oc41 kV41 dc41 pm41 cd41 ct41 : Value}
  (a41 : PySem.W.findIn K (.ref c1) "do_sell" = some (some (.ref f41)))
  (l41 : K.lookup f41 = some ⟨oc41, od41, .func (PySem.W.fnOf "do_sell" "Book.do_sell" (aD cX) (aC cX) (ak cX) .none kV41 dc41 pm41 an41 cd41 ct41), sl41⟩)
  (d41 : PySem.W.codeIn K cd41 "Book.do_sell" = true)
  (k41 : PySem.W.keepIn K (.ref f41) = true)
  {f42 : Addr} {od42 an42 : Option Addr} {sl42 : Array (Option Value)} {oc42 kV42 dc42 pm42 cd42 ct42 : Value}
  (a42 : PySem.W.findIn K (.ref c1) "do_by_kind" = some (some (.ref f42)))
  (l42 : K.lookup f42 = some ⟨oc42, od42, .func (PySem.W.fnOf "do_by_kind" "Book.do_by_kind" (aD bN) (aC bN) (ak bN) .none kV42 dc42 pm42 an42 cd42 ct42), sl42⟩)
  (d42 : PySem.W.codeIn K cd42 "Book.do_by_kind" = true)
  (k42 : PySem.W.keepIn K (.ref f42) = true)
  {f43 : Addr} {od43 an43 : Option Addr} {sl43 : Array (Option Value)} {oc43 kV43 dc43 pm43 cd43 ct43 : Value}
  (a43 : PySem.W.nsIn K mainGlobals "held_with" = some (some (.ref f43)))
  (l43 : K.lookup f43 = some ⟨oc43, od43, .func (PySem.W.fnOf "held_with" "held_with" (aD eO) (aC eO) (ak eO) .none kV43 dc43 pm43 an43 cd43 ct43), sl43⟩)
  (d43 : PySem.W.codeIn K cd43 "held_with" = true)
  (k43 : PySem.W.keepIn K (.ref f43) = true)
  {f44 : Addr} {od44 an44 : Option Addr} {sl44 : Array (Option Value)} {oc44 kV44 dc44 pm44 cd44 ct44 : Value}
  (a44 : PySem.W.nsIn K mainGlobals "held_with_more" = some (some (.ref f44)))
  (l44 : K.lookup f44 = some ⟨oc44, od44, .func (PySem.W.fnOf "held_with_more" "held_with_more" (aD bU) (aC bU) (ak bU) .none kV44 dc44 pm44 an44 cd44 ct44), sl44⟩)
  (d44 : PySem.W.codeIn K cd44 "held_with_more" = true)
  (k44 : PySem.W.keepIn K (.ref f44) = true)
  {f45 : Addr} {od45 an45 : Option Addr} {sl45 : Array (Option Value)} {oc45 kV45 dc45 pm45 cd45 ct45 : Value}
  (a45 : PySem.W.findIn K (.ref c6) "held_behind" = some (some (.ref f45)))
  (l45 : K.lookup f45 = some ⟨oc45, od45, .func (PySem.W.fnOf "held_behind" "Buy.held_behind" (aD bO) (aC bO) (ak bO) .none kV45 dc45 pm45 an45 cd45 ct45), sl45⟩)
  (d45 : PySem.W.codeIn K cd45 "Buy.held_behind" = true)
  (k45 : PySem.W.keepIn K (.ref f45) = true)
  {f46 : Addr} {od46 an46 : Option Addr} {sl46 : Array (Option Value)} {oc46 kV46 dc46 pm46 cd46 ct46 : Value}
  (a46 : PySem.W.findIn K (.ref c7) "held_behind" = some (some (.ref f46)))
  (l46 : K.lookup f46 = some ⟨oc46, od46, .func (PySem.W.fnOf "held_behind" "Gift.held_behind" (aD bG) (aC bG) (ak bG) .none kV46 dc46 pm46 an46 cd46 ct46), sl46⟩)
  (d46 : PySem.W.codeIn K cd46 "Gift.held_behind" = true)
  (k46 : PySem.W.keepIn K (.ref f46) = true)
  {f47 : Addr} {od47 an47 : Option Addr} {sl47 : Array (Option Value)} {oc47 kV47 dc47 pm47 cd47 ct47 : Value}
  (a47 : PySem.W.nsIn K mainGlobals "held_with_fewer" = some (some (.ref f47)))
  (l47 : K.lookup f47 = some ⟨oc47, od47, .func (PySem.W.fnOf "held_with_fewer" "held_with_fewer" (aD bL) (aC bL) (ak bL) .none kV47 dc47 pm47 an47 cd47 ct47), sl47⟩)
  (d47 : PySem.W.codeIn K cd47 "held_with_fewer" = true)
  (k47 : PySem.W.keepIn K (.ref f47) = true)
  {f48 : Addr} {od48 an48 : Option Addr} {sl48 : Array (Option Value)} {oc48 kV48 dc48 pm48 cd48 ct48 : Value}
  (a48 : PySem.W.findIn K (.ref c8) "held_behind" = some (some (.ref f48)))
  (l48 : K.lookup f48 = some ⟨oc48, od48, .func (PySem.W.fnOf "held_behind" "Sell.held_behind" (aD bD) (aC bD) (ak bD) .none kV48 dc48 pm48 an48 cd48 ct48), sl48⟩)
  (d48 : PySem.W.codeIn K cd48 "Sell.held_behind" = true)
  (k48 : PySem.W.keepIn K (.ref f48) = true)
  {f49 : Addr} {od49 an49 : Option Addr} {sl49 : Array (Option Value)} {oc49 kV49 dc49 pm49 cd49 ct49 : Value}
  (a49 : PySem.W.findIn K (.ref c1) "do" = some (some (.ref f49)))
  (l49 : K.lookup f49 = some ⟨oc49, od49, .func (PySem.W.fnOf "do" "Book.do" (aD fZ) (aC fZ) (ak fZ) .none kV49 dc49 pm49 an49 cd49 ct49), sl49⟩)
  (d49 : PySem.W.codeIn K cd49 "Book.do" = true)
  (k49 : PySem.W.keepIn K (.ref f49) = true)
  {f50 : Addr} {od50 an50 : Option Addr} {sl50 : Array (Option Value)} {oc50 kV50 dc50 pm50 cd50 ct50 : Value}
  (a50 : PySem.W.nsIn K mainGlobals "with_all_done" = some (some (.ref f50)))
  (l50 : K.lookup f50 = some ⟨oc50, od50, .func (PySem.W.fnOf "with_all_done" "with_all_done" (aD cG) (aC cG) (ak cG) .none kV50 dc50 pm50 an50 cd50 ct50), sl50⟩)
  (d50 : PySem.W.codeIn K cd50 "with_all_done" = true)
  (k50 : PySem.W.keepIn K (.ref f50) = true)
  {f51 : Addr} {od51 an51 : Option Addr} {sl51 : Array (Option Value)} {oc51 kV51 dc51 pm51 cd51 ct51 : Value}
  (a51 : PySem.W.findIn K (.ref c1) "__init__" = some (some (.ref f51)))
  (l51 : K.lookup f51 = some ⟨oc51, od51, .func (PySem.W.fnOf "__init__" "Book.__init__" (aD cD) (aC cD) (ak cD) .none kV51 dc51 pm51 an51 cd51 ct51), sl51⟩)
  (d51 : PySem.W.codeIn K cd51 "Book.__init__" = true)
  (k51 : PySem.W.keepIn K (.ref f51) = true)
  {f52 : Addr} {od52 an52 : Option Addr} {sl52 : Array (Option Value)} {oc52 kV52 dc52 pm52 cd52 ct52 : Value}
  (a52 : PySem.W.nsIn K mainGlobals "book_of" = some (some (.ref f52)))
  (l52 : K.lookup f52 = some ⟨oc52, od52, .func (PySem.W.fnOf "book_of" "book_of" (aD gj) (aC gj) (ak gj) .none kV52 dc52 pm52 an52 cd52 ct52), sl52⟩)
  (d52 : PySem.W.codeIn K cd52 "book_of" = true)
  (k52 : PySem.W.keepIn K (.ref f52) = true)
  {f53 : Addr} {od53 an53 : Option Addr} {sl53 : Array (Option Value)} {oc53 kV53 dc53 pm53 cd53 ct53 : Value}
  (a53 : PySem.W.nsIn K mainGlobals "is_whole_number" = some (some (.ref f53)))
  (l53 : K.lookup f53 = some ⟨oc53, od53, .func (PySem.W.fnOf "is_whole_number" "is_whole_number" (aD bM) (aC bM) (ak bM) .none kV53 dc53 pm53 an53 cd53 ct53), sl53⟩)
  (d53 : PySem.W.codeIn K cd53 "is_whole_number" = true)
  (k53 : PySem.W.keepIn K (.ref f53) = true)
  {f54 : Addr} {od54 an54 : Option Addr} {sl54 : Array (Option Value)} {oc54 kV54 dc54 pm54 cd54 ct54 : Value}
  (a54 : PySem.W.nsIn K mainGlobals "check_number" = some (some (.ref f54)))
  (l54 : K.lookup f54 = some ⟨oc54, od54, .func (PySem.W.fnOf "check_number" "check_number" (aD cN) (aC cN) (ak cN) .none kV54 dc54 pm54 an54 cd54 ct54), sl54⟩)
  (d54 : PySem.W.codeIn K cd54 "check_number" = true)
  (k54 : PySem.W.keepIn K (.ref f54) = true)
  {f55 : Addr} {od55 an55 : Option Addr} {sl55 : Array (Option Value)} {oc55 kV55 dc55 pm55 cd55 ct55 : Value}
  (a55 : PySem.W.nsIn K mainGlobals "is_name" = some (some (.ref f55)))
  (l55 : K.lookup f55 = some ⟨oc55, od55, .func (PySem.W.fnOf "is_name" "is_name" (aD gG) (aC gG) (ak gG) .none kV55 dc55 pm55 an55 cd55 ct55), sl55⟩)
  (d55 : PySem.W.codeIn K cd55 "is_name" = true)
  (k55 : PySem.W.keepIn K (.ref f55) = true)
  {f56 : Addr} {od56 an56 : Option Addr} {sl56 : Array (Option Value)} {oc56 kV56 dc56 pm56 cd56 ct56 : Value}
  (a56 : PySem.W.nsIn K mainGlobals "check_name" = some (some (.ref f56)))
  (l56 : K.lookup f56 = some ⟨oc56, od56, .func (PySem.W.fnOf "check_name" "check_name" (aD dU) (aC dU) (ak dU) .none kV56 dc56 pm56 an56 cd56 ct56), sl56⟩)
  (d56 : PySem.W.codeIn K cd56 "check_name" = true)
  (k56 : PySem.W.keepIn K (.ref f56) = true)
  {f57 : Addr} {od57 an57 : Option Addr} {sl57 : Array (Option Value)} {oc57 kV57 dc57 pm57 cd57 ct57 : Value}
  (a57 : PySem.W.findIn K (.ref c9) "__init__" = some (some (.ref f57)))
  (l57 : K.lookup f57 = some ⟨oc57, od57, .func (PySem.W.fnOf "__init__" "Entry.__init__" (aD bV) (aC bV) (ak bV) .none kV57 dc57 pm57 an57 cd57 ct57), sl57⟩)
  (d57 : PySem.W.codeIn K cd57 "Entry.__init__" = true)
  (k57 : PySem.W.keepIn K (.ref f57) = true)
  {f58 : Addr} {od58 an58 : Option Addr} {sl58 : Array (Option Value)} {oc58 kV58 dc58 pm58 cd58 ct58 : Value}
  (a58 : PySem.W.nsIn K mainGlobals "check_trade" = some (some (.ref f58)))
  (l58 : K.lookup f58 = some ⟨oc58, od58, .func (PySem.W.fnOf "check_trade" "check_trade" (aD dm) (aC dm) (ak dm) .none kV58 dc58 pm58 an58 cd58 ct58), sl58⟩)
  (d58 : PySem.W.codeIn K cd58 "check_trade" = true)
  (k58 : PySem.W.keepIn K (.ref f58) = true)
  {f59 : Addr} {od59 an59 : Option Addr} {sl59 : Array (Option Value)} {oc59 kV59 dc59 pm59 cd59 ct59 : Value}
  (a59 : PySem.W.nsIn K mainGlobals "check_named" = some (some (.ref f59)))
  (l59 : K.lookup f59 = some ⟨oc59, od59, .func (PySem.W.fnOf "check_named" "check_named" (aD dh) (aC dh) (ak dh) .none kV59 dc59 pm59 an59 cd59 ct59), sl59⟩)
  (d59 : PySem.W.codeIn K cd59 "check_named" = true)
  (k59 : PySem.W.keepIn K (.ref f59) = true)
  {f60 : Addr} {od60 an60 : Option Addr} {sl60 : Array (Option Value)} {oc60 kV60 dc60 pm60 cd60 ct60 : Value}
  (a60 : PySem.W.nsIn K mainGlobals "named_copy" = some (some (.ref f60)))
  (l60 : K.lookup f60 = some ⟨oc60, od60, .func (PySem.W.fnOf "named_copy" "named_copy" (aD dR) (aC dR) (ak dR) .none kV60 dc60 pm60 an60 cd60 ct60), sl60⟩)
  (d60 : PySem.W.codeIn K cd60 "named_copy" = true)
  (k60 : PySem.W.keepIn K (.ref f60) = true)
  {f61 : Addr} {od61 an61 : Option Addr} {sl61 : Array (Option Value)} {oc61 kV61 dc61 pm61 cd61 ct61 : Value}
  (a61 : PySem.W.findIn K (.ref c8) "__init__" = some (some (.ref f61)))
  {td61 : Addr} {odt61 : Option Addr} {oct61 : Value} {slt61 : Array (Option Value)} {nt61 : Nat} {tk61_0 : Tok}
  (l61 : K.lookup f61 = some ⟨oc61, od61, .func (PySem.W.fnOf "__init__" "Sell.__init__" (aD cg) (aC cg) (ak cg) (.ref td61) kV61 dc61 pm61 an61 cd61 ct61), sl61⟩)
  (d61 : PySem.W.codeIn K cd61 "Sell.__init__" = true)
  (k61 : PySem.W.keepIn K (.ref f61) = true)
  (lt61 : K.lookup td61 = some ⟨oct61, odt61, .seq #[.int 0 tk61_0, .none] nt61, slt61⟩)
  {f62 : Addr} {od62 an62 : Option Addr} {sl62 : Array (Option Value)} {oc62 kV62 dc62 pm62 cd62 ct62 : Value}
  (a62 : PySem.W.nsIn K mainGlobals "_law_gone" = some (some (.ref f62)))
  (l62 : K.lookup f62 = some ⟨oc62, od62, .func (PySem.W.fnOf "_law_gone" "_law_gone" (aD eG) (aC eG) (ak eG) .none kV62 dc62 pm62 an62 cd62 ct62), sl62⟩)
  (d62 : PySem.W.codeIn K cd62 "_law_gone" = true)
  (k62 : PySem.W.keepIn K (.ref f62) = true)
  {f63 : Addr} {od63 an63 : Option Addr} {sl63 : Array (Option Value)} {oc63 kV63 dc63 pm63 cd63 ct63 : Value}
  (a63 : PySem.W.findIn K (.ref c7) "__init__" = some (some (.ref f63)))
  (l63 : K.lookup f63 = some ⟨oc63, od63, .func (PySem.W.fnOf "__init__" "Gift.__init__" (aD cj) (aC cj) (ak cj) .none kV63 dc63 pm63 an63 cd63 ct63), sl63⟩)
  (d63 : PySem.W.codeIn K cd63 "Gift.__init__" = true)
  (k63 : PySem.W.keepIn K (.ref f63) = true)
  {f64 : Addr} {od64 an64 : Option Addr} {sl64 : Array (Option Value)} {oc64 kV64 dc64 pm64 cd64 ct64 : Value}
  (a64 : PySem.W.findIn K (.ref c6) "__init__" = some (some (.ref f64)))
  {td64 : Addr} {odt64 : Option Addr} {oct64 : Value} {slt64 : Array (Option Value)} {nt64 : Nat} {tk64_0 : Tok}
  (l64 : K.lookup f64 = some ⟨oc64, od64, .func (PySem.W.fnOf "__init__" "Buy.__init__" (aD cO) (aC cO) (ak cO) (.ref td64) kV64 dc64 pm64 an64 cd64 ct64), sl64⟩)
  (d64 : PySem.W.codeIn K cd64 "Buy.__init__" = true)
  (k64 : PySem.W.keepIn K (.ref f64) = true)
  (lt64 : K.lookup td64 = some ⟨oct64, odt64, .seq #[.int 0 tk64_0] nt64, slt64⟩)
  {f65 : Addr} {od65 an65 : Option Addr} {sl65 : Array (Option Value)} {oc65 kV65 dc65 pm65 cd65 ct65 : Value}
  (a65 : PySem.W.nsIn K mainGlobals "_law_left" = some (some (.ref f65)))
  (l65 : K.lookup f65 = some ⟨oc65, od65, .func (PySem.W.fnOf "_law_left" "_law_left" (aD eE) (aC eE) (ak eE) .none kV65 dc65 pm65 an65 cd65 ct65), sl65⟩)
  (d65 : PySem.W.codeIn K cd65 "_law_left" = true)
  (k65 : PySem.W.keepIn K (.ref f65) = true)
  {f66 : Addr} {od66 an66 : Option Addr} {sl66 : Array (Option Value)} {oc66 kV66 dc66 pm66 cd66 ct66 : Value}
  (a66 : PySem.W.nsIn K mainGlobals "law" = some (some (.ref f66)))
  (l66 : K.lookup f66 = some ⟨oc66, od66, .func (PySem.W.fnOf "law" "law" (aD sY) (aC sY) (ak sY) .none kV66 dc66 pm66 an66 cd66 ct66), sl66⟩)
  (d66 : PySem.W.codeIn K cd66 "law" = true)
  (k66 : PySem.W.keepIn K (.ref f66) = true)
  (z_list : PySem.W.nsIn K mainGlobals "list" = some none)
  (z_sum : PySem.W.nsIn K mainGlobals "sum" = some none)
  (z_str : PySem.W.nsIn K mainGlobals "str" = some none)
  (z_dict : PySem.W.nsIn K mainGlobals "dict" = some none)
  (z_sorted : PySem.W.nsIn K mainGlobals "sorted" = some none)
  (z_max : PySem.W.nsIn K mainGlobals "max" = some none)
  (z_len : PySem.W.nsIn K mainGlobals "len" = some none)
  (z_min : PySem.W.nsIn K mainGlobals "min" = some none)
  (z_range : PySem.W.nsIn K mainGlobals "range" = some none)
  (z_zip : PySem.W.nsIn K mainGlobals "zip" = some none)
  (z_any : PySem.W.nsIn K mainGlobals "any" = some none)
  (z_isinstance : PySem.W.nsIn K mainGlobals "isinstance" = some none)
  (z_int : PySem.W.nsIn K mainGlobals "int" = some none)
  (z_bool : PySem.W.nsIn K mainGlobals "bool" = some none)
  (z_all : PySem.W.nsIn K mainGlobals "all" = some none)
  (z_enumerate : PySem.W.nsIn K mainGlobals "enumerate" = some none)
  {t_MOST_LETTERS : Tok}
  (g_MOST_LETTERS : PySem.W.nsIn K mainGlobals "MOST_LETTERS" = some (some (.int 8 t_MOST_LETTERS)))
  {t_MOST_DAY : Tok}
  (g_MOST_DAY : PySem.W.nsIn K mainGlobals "MOST_DAY" = some (some (.int 1000000 t_MOST_DAY)))
  {t_MOST_NUMBER : Tok}
  (g_MOST_NUMBER : PySem.W.nsIn K mainGlobals "MOST_NUMBER" = some (some (.int 1000000 t_MOST_NUMBER)))
  {t_MOST_PIECES : Tok}
  (g_MOST_PIECES : PySem.W.nsIn K mainGlobals "MOST_PIECES" = some (some (.int 1000000000 t_MOST_PIECES)))
  {t_MOST_PRICE : Tok}
  (g_MOST_PRICE : PySem.W.nsIn K mainGlobals "MOST_PRICE" = some (some (.int 1000000000 t_MOST_PRICE)))
  {t_MOST_FEE : Tok}
  (g_MOST_FEE : PySem.W.nsIn K mainGlobals "MOST_FEE" = some (some (.int 1000000000 t_MOST_FEE)))
  {t_MOST_GIFT_COST : Tok}
  (g_MOST_GIFT_COST : PySem.W.nsIn K mainGlobals "MOST_GIFT_COST" = some (some (.int 1000000000000000000 t_MOST_GIFT_COST)))
  (oc_n : PySem.W.specialIn K (.builtin "object.__class__") "__get__" = some (some (.builtin "getset_descriptor.__get__")))
  (oc_t : PySem.W.takesIn K (.builtin "object.__class__") = some true)
  (pg_Sale : PySem.W.plainGet K c0 Str.empty = true)
  (hd_Sale : PySem.W.hasDictIn K c0 = true)
  (po_Sale : PySem.W.plainOver K c0 = true)
  (sa_Sale : PySem.W.findIn K (.ref c0) "__setattr__" = some (some (.builtin "object.__setattr__")))
  (ha_Sale : PySem.W.findIn K (.ref c0) "__class__" = some (some (.builtin "object.__class__")))
  (hm_Sale : PySem.W.mroIn K c0 (.type "object") = some true)
  (n_Sale_number : PySem.W.findIn K (.ref c0) "number" = some none)
  (n_Sale_day : PySem.W.findIn K (.ref c0) "day" = some none)
  (n_Sale_ware : PySem.W.findIn K (.ref c0) "ware" = some none)
  (n_Sale_proceeds : PySem.W.findIn K (.ref c0) "proceeds" = some none)
  (n_Sale_parts : PySem.W.findIn K (.ref c0) "parts" = some none)
  (n_Sale_laid_on : PySem.W.findIn K (.ref c0) "laid_on" = some none)
  (pg_Book : PySem.W.plainGet K c1 Str.empty = true)
  (hd_Book : PySem.W.hasDictIn K c1 = true)
  (po_Book : PySem.W.plainOver K c1 = true)
  (sa_Book : PySem.W.findIn K (.ref c1) "__setattr__" = some (some (.builtin "object.__setattr__")))
  (ha_Book : PySem.W.findIn K (.ref c1) "__class__" = some (some (.builtin "object.__class__")))
  (hm_Book : PySem.W.mroIn K c1 (.type "object") = some true)
  (n_Book_way : PySem.W.findIn K (.ref c1) "way" = some none)
  (n_Book_rows : PySem.W.findIn K (.ref c1) "rows" = some none)
  (n_Book_last_place : PySem.W.findIn K (.ref c1) "last_place" = some none)
  (n_Book_paid : PySem.W.findIn K (.ref c1) "paid" = some none)
  (n_Book_brought : PySem.W.findIn K (.ref c1) "brought" = some none)
  (n_Book_sales_done : PySem.W.findIn K (.ref c1) "sales_done" = some none)
  (n_Book_givings_done : PySem.W.findIn K (.ref c1) "givings_done" = some none)
  (pg_Lot : PySem.W.plainGet K c2 Str.empty = true)
  (hd_Lot : PySem.W.hasDictIn K c2 = true)
  (po_Lot : PySem.W.plainOver K c2 = true)
  (sa_Lot : PySem.W.findIn K (.ref c2) "__setattr__" = some (some (.builtin "object.__setattr__")))
  (ha_Lot : PySem.W.findIn K (.ref c2) "__class__" = some (some (.builtin "object.__class__")))
  (hm_Lot : PySem.W.mroIn K c2 (.type "object") = some true)
  (n_Lot_number : PySem.W.findIn K (.ref c2) "number" = some none)
  (n_Lot_since : PySem.W.findIn K (.ref c2) "since" = some none)
  (n_Lot_pieces : PySem.W.findIn K (.ref c2) "pieces" = some none)
  (n_Lot_cost : PySem.W.findIn K (.ref c2) "cost" = some none)
  (pg_Way : PySem.W.plainGet K c3 Str.empty = true)
  (hd_Way : PySem.W.hasDictIn K c3 = true)
  (po_Way : PySem.W.plainOver K c3 = true)
  (sa_Way : PySem.W.findIn K (.ref c3) "__setattr__" = some (some (.builtin "object.__setattr__")))
  (ha_Way : PySem.W.findIn K (.ref c3) "__class__" = some (some (.builtin "object.__class__")))
  (hm_Way : PySem.W.mroIn K c3 (.type "object") = some true)
  (pg_Eldest : PySem.W.plainGet K c4 Str.empty = true)
  (hd_Eldest : PySem.W.hasDictIn K c4 = true)
  (po_Eldest : PySem.W.plainOver K c4 = true)
  (sa_Eldest : PySem.W.findIn K (.ref c4) "__setattr__" = some (some (.builtin "object.__setattr__")))
  (ha_Eldest : PySem.W.findIn K (.ref c4) "__class__" = some (some (.builtin "object.__class__")))
  (hm_Eldest : PySem.W.mroIn K c4 (.type "object") = some true)
  (pg_Buy : PySem.W.plainGet K c6 Str.empty = true)
  (hd_Buy : PySem.W.hasDictIn K c6 = true)
  (po_Buy : PySem.W.plainOver K c6 = true)
  (sa_Buy : PySem.W.findIn K (.ref c6) "__setattr__" = some (some (.builtin "object.__setattr__")))
  (ha_Buy : PySem.W.findIn K (.ref c6) "__class__" = some (some (.builtin "object.__class__")))
  (hm_Buy : PySem.W.mroIn K c6 (.type "object") = some true)
  (n_Buy_day : PySem.W.findIn K (.ref c6) "day" = some none)
  (n_Buy_number : PySem.W.findIn K (.ref c6) "number" = some none)
  (n_Buy_ware : PySem.W.findIn K (.ref c6) "ware" = some none)
  (n_Buy_pieces : PySem.W.findIn K (.ref c6) "pieces" = some none)
  (n_Buy_price : PySem.W.findIn K (.ref c6) "price" = some none)
  (n_Buy_fee : PySem.W.findIn K (.ref c6) "fee" = some none)
  (n_Buy_cost : PySem.W.findIn K (.ref c6) "cost" = some none)
  (pg_Gift : PySem.W.plainGet K c7 Str.empty = true)
  (hd_Gift : PySem.W.hasDictIn K c7 = true)
  (po_Gift : PySem.W.plainOver K c7 = true)
  (sa_Gift : PySem.W.findIn K (.ref c7) "__setattr__" = some (some (.builtin "object.__setattr__")))
  (ha_Gift : PySem.W.findIn K (.ref c7) "__class__" = some (some (.builtin "object.__class__")))
  (hm_Gift : PySem.W.mroIn K c7 (.type "object") = some true)
  (n_Gift_day : PySem.W.findIn K (.ref c7) "day" = some none)
  (n_Gift_number : PySem.W.findIn K (.ref c7) "number" = some none)
  (n_Gift_ware : PySem.W.findIn K (.ref c7) "ware" = some none)
  (n_Gift_pieces : PySem.W.findIn K (.ref c7) "pieces" = some none)
  (n_Gift_cost : PySem.W.findIn K (.ref c7) "cost" = some none)
  (n_Gift_since : PySem.W.findIn K (.ref c7) "since" = some none)
  (pg_Sell : PySem.W.plainGet K c8 Str.empty = true)
  (hd_Sell : PySem.W.hasDictIn K c8 = true)
  (po_Sell : PySem.W.plainOver K c8 = true)
  (sa_Sell : PySem.W.findIn K (.ref c8) "__setattr__" = some (some (.builtin "object.__setattr__")))
  (ha_Sell : PySem.W.findIn K (.ref c8) "__class__" = some (some (.builtin "object.__class__")))
  (hm_Sell : PySem.W.mroIn K c8 (.type "object") = some true)
  (n_Sell_day : PySem.W.findIn K (.ref c8) "day" = some none)
  (n_Sell_number : PySem.W.findIn K (.ref c8) "number" = some none)
  (n_Sell_ware : PySem.W.findIn K (.ref c8) "ware" = some none)
  (n_Sell_pieces : PySem.W.findIn K (.ref c8) "pieces" = some none)
  (n_Sell_price : PySem.W.findIn K (.ref c8) "price" = some none)
  (n_Sell_fee : PySem.W.findIn K (.ref c8) "fee" = some none)
  (n_Sell_named : PySem.W.findIn K (.ref c8) "named" = some none)
  (n_Sell_proceeds : PySem.W.findIn K (.ref c8) "proceeds" = some none)
  (pg_Entry : PySem.W.plainGet K c9 Str.empty = true)
  (hd_Entry : PySem.W.hasDictIn K c9 = true)
  (po_Entry : PySem.W.plainOver K c9 = true)
  (sa_Entry : PySem.W.findIn K (.ref c9) "__setattr__" = some (some (.builtin "object.__setattr__")))
  (ha_Entry : PySem.W.findIn K (.ref c9) "__class__" = some (some (.builtin "object.__class__")))
  (hm_Entry : PySem.W.mroIn K c9 (.type "object") = some true)
  (n_Entry_day : PySem.W.findIn K (.ref c9) "day" = some none)
  (n_Entry_number : PySem.W.findIn K (.ref c9) "number" = some none)
  (n_Entry_ware : PySem.W.findIn K (.ref c9) "ware" = some none)
  (mka_Sale : PySem.W.makesIn K c0 = true)
  (mkb_Sale : PySem.W.findIn K (.ref c0) "__init__" = some (some (.ref f1)))
  (mkc_Sale : PySem.W.isFn K (.ref f1) = true)
  (mkd_Sale : PySem.W.keepIn K (.ref c0) = true)
  (mka_Lot : PySem.W.makesIn K c2 = true)
  (mkb_Lot : PySem.W.findIn K (.ref c2) "__init__" = some (some (.ref f23)))
  (mkc_Lot : PySem.W.isFn K (.ref f23) = true)
  (mkd_Lot : PySem.W.keepIn K (.ref c2) = true)
  (mka_Book : PySem.W.makesIn K c1 = true)
  (mkb_Book : PySem.W.findIn K (.ref c1) "__init__" = some (some (.ref f51)))
  (mkc_Book : PySem.W.isFn K (.ref f51) = true)
  (mkd_Book : PySem.W.keepIn K (.ref c1) = true)
  (mka_Sell : PySem.W.makesIn K c8 = true)
  (mkb_Sell : PySem.W.findIn K (.ref c8) "__init__" = some (some (.ref f61)))
  (mkc_Sell : PySem.W.isFn K (.ref f61) = true)
  (mkd_Sell : PySem.W.keepIn K (.ref c8) = true)
  (mka_Gift : PySem.W.makesIn K c7 = true)
  (mkb_Gift : PySem.W.findIn K (.ref c7) "__init__" = some (some (.ref f63)))
  (mkc_Gift : PySem.W.isFn K (.ref f63) = true)
  (mkd_Gift : PySem.W.keepIn K (.ref c7) = true)
  (mka_Buy : PySem.W.makesIn K c6 = true)
  (mkb_Buy : PySem.W.findIn K (.ref c6) "__init__" = some (some (.ref f64)))
  (mkc_Buy : PySem.W.isFn K (.ref f64) = true)
  (mkd_Buy : PySem.W.keepIn K (.ref c6) = true)
  (m0a_Eldest : PySem.W.makesIn K c4 = true)
  (m0b_Eldest : PySem.W.findIn K (.ref c4) "__init__" = some (some (.builtin "object.__init__")))
  (m0c_Eldest : PySem.W.keepIn K (.ref c4) = true)
  (mea_Sale_gain : PySem.W.findIn K (.ref c0) "gain" = some (some (.ref f5)))
  (meb_Sale_gain : PySem.W.isFn K (.ref f5) = true)
  (mea_Sale_counted : PySem.W.findIn K (.ref c0) "counted" = some (some (.ref f6)))
  (meb_Sale_counted : PySem.W.isFn K (.ref f6) = true)
  (mea_Book_sales : PySem.W.findIn K (.ref c1) "sales" = some (some (.ref f3)))
  (meb_Book_sales : PySem.W.isFn K (.ref f3) = true)
  (mea_Book_row_of : PySem.W.findIn K (.ref c1) "row_of" = some (some (.ref f13)))
  (meb_Book_row_of : PySem.W.isFn K (.ref f13) = true)
  (mea_Book_held : PySem.W.findIn K (.ref c1) "held" = some (some (.ref f14)))
  (meb_Book_held : PySem.W.isFn K (.ref f14) = true)
  (mea_Lot_with_more : PySem.W.findIn K (.ref c2) "with_more" = some (some (.ref f24)))
  (meb_Lot_with_more : PySem.W.isFn K (.ref f24) = true)
  (mea_Book_keep_row : PySem.W.findIn K (.ref c1) "keep_row" = some (some (.ref f21)))
  (meb_Book_keep_row : PySem.W.isFn K (.ref f21) = true)
  (mea_Book_put : PySem.W.findIn K (.ref c1) "put" = some (some (.ref f26)))
  (meb_Book_put : PySem.W.isFn K (.ref f26) = true)
  (mea_Book_lay_on : PySem.W.findIn K (.ref c1) "lay_on" = some (some (.ref f27)))
  (meb_Book_lay_on : PySem.W.isFn K (.ref f27) = true)
  (mea_Lot_taken : PySem.W.findIn K (.ref c2) "taken" = some (some (.ref f35)))
  (meb_Lot_taken : PySem.W.isFn K (.ref f35) = true)
  (mea_Eldest_levelled : PySem.W.findIn K (.ref c4) "levelled" = some (some (.ref f34)))
  (meb_Eldest_levelled : PySem.W.isFn K (.ref f34) = true)
  (mea_Eldest_picks : PySem.W.findIn K (.ref c4) "picks" = some (some (.ref f38)))
  (meb_Eldest_picks : PySem.W.isFn K (.ref f38) = true)
  (mea_Book_taken_for : PySem.W.findIn K (.ref c1) "taken_for" = some (some (.ref f40)))
  (meb_Book_taken_for : PySem.W.isFn K (.ref f40) = true)
  (mea_Book_do_buy : PySem.W.findIn K (.ref c1) "do_buy" = some (some (.ref f28)))
  (meb_Book_do_buy : PySem.W.isFn K (.ref f28) = true)
  (mea_Book_do_gift : PySem.W.findIn K (.ref c1) "do_gift" = some (some (.ref f29)))
  (meb_Book_do_gift : PySem.W.isFn K (.ref f29) = true)
  (mea_Book_do_sell : PySem.W.findIn K (.ref c1) "do_sell" = some (some (.ref f41)))
  (meb_Book_do_sell : PySem.W.isFn K (.ref f41) = true)
  (mea_Book_do_by_kind : PySem.W.findIn K (.ref c1) "do_by_kind" = some (some (.ref f42)))
  (meb_Book_do_by_kind : PySem.W.isFn K (.ref f42) = true)
  (mea_Buy_held_behind : PySem.W.findIn K (.ref c6) "held_behind" = some (some (.ref f45)))
  (meb_Buy_held_behind : PySem.W.isFn K (.ref f45) = true)
  (mea_Gift_held_behind : PySem.W.findIn K (.ref c7) "held_behind" = some (some (.ref f46)))
  (meb_Gift_held_behind : PySem.W.isFn K (.ref f46) = true)
  (mea_Sell_held_behind : PySem.W.findIn K (.ref c8) "held_behind" = some (some (.ref f48)))
  (meb_Sell_held_behind : PySem.W.isFn K (.ref f48) = true)
  (mea_Book_do : PySem.W.findIn K (.ref c1) "do" = some (some (.ref f49)))
  (meb_Book_do : PySem.W.isFn K (.ref f49) = true)
  (cfa_Entry___init__ : PySem.W.specialIn K (.ref c9) "__getattribute__" = some (some (.builtin "type.__getattribute__")))
  (cfb_Entry___init__ : PySem.W.readsIn K c9 (.type "type") = true)
  (cfc_Entry___init__ : PySem.W.findCls K (.ref c9) (.type "type") "__init__" = some (.val (.ref f57)))
  (w_ki_BB : PySem.W.kitOne K (.ref c6) (.ref c6) = some true)
  (w_ki_GB : PySem.W.kitOne K (.ref c7) (.ref c6) = some false)
  (w_ki_GG : PySem.W.kitOne K (.ref c7) (.ref c7) = some true)
  (w_ki_SB : PySem.W.kitOne K (.ref c8) (.ref c6) = some false)
  (w_ki_SG : PySem.W.kitOne K (.ref c8) (.ref c7) = some false)
  (w_ki_SS : PySem.W.kitOne K (.ref c8) (.ref c8) = some true)
  : ∃ fd : FuncData, (∀ (s : Shared) (v : Value), BindsTo s fd ⟨[v], []⟩ [("_law_script", v)]) /\ ∀ base : Heap, K.In base -> base.Ns mainGlobals mg -> FnOk l.prog w K mg base CX0 12 fa fd ["_law_script"] (yt K) := by
 have e := hfa.symm.trans (PySem.W.mg_of X G a66)
 cases e
 have T : Txt K mg ⟨f0, f1, f2, f3, f4, f5, f6, f7, f8, f9, f10, f11, f12, f13, f14, f15, f16, f17, f18, f19, f20, f21, f22, f23, f24, f25, f26, f27, f28, f29, f30, f31, f32, f33, f34, f35, f36, f37, f38, f39, f40, f41, f42, f43, f44, f45, f46, f47, f48, f49, f50, f51, f52, f53, f54, f55, f56, f57, f58, f59, f60, f61, f62, f63, f64, f65, fa, c0, c1, c2, c3, c4, c5, c6, c7, c8, c9, t_MOST_LETTERS, t_MOST_DAY, t_MOST_NUMBER, t_MOST_PIECES, t_MOST_PRICE, t_MOST_FEE, t_MOST_GIFT_COST⟩ ⟨_, _, _, _, _, _, _, _, _, _, _, _, _, _, _, _, _, _, _, _, _, _, _, _, _, _, _, _, _, _, _, _, _, _, _, _, _, _, _, _, _, _, _, _, _, _, _, _, _, _, _, _, _, _, _, _, _, _, _, _, _, _, _, _, _, _, _⟩ := ⟨PySem.W.mg_of X G a0, k0, aM (st := dF) l0 d0 k0, aM (st := bZ) l1 d1 k1, PySem.W.mg_of X G a2, k2, aM (st := cR) l2 d2 k2, aM (st := dX) l3 d3 k3, PySem.W.mg_of X G a4, k4, aM (st := cA) l4 d4 k4, aM (st := eU) l5 d5 k5, aM (st := cW) l6 d6 k6, PySem.W.mg_of X G a7, k7, aM (st := cI) l7 d7 k7, PySem.W.mg_of X G a8, k8, aM (st := eX) l8 d8 k8, PySem.W.mg_of X G a9, k9, aM (st := gD) l9 d9 k9, PySem.W.mg_of X G a10, k10, aM (st := dH) l10 d10 k10, PySem.W.mg_of X G a11, k11, aM (st := cH) l11 d11 k11, PySem.W.mg_of X G a12, k12, aM (st := cT) l12 d12 k12, aM (st := dG) l13 d13 k13, aM (st := eY) l14 d14 k14, PySem.W.mg_of X G a15, k15, aM (st := eN) l15 d15 k15, PySem.W.mg_of X G a16, k16, aM (st := dW) l16 d16 k16, PySem.W.mg_of X G a17, k17, aM (st := dO) l17 d17 k17, PySem.W.mg_of X G a18, k18, aM (st := cV) l18 d18 k18, PySem.W.mg_of X G a19, k19, aM (st := fJ) l19 d19 k19, PySem.W.mg_of X G a20, k20, aM (st := fH) l20 d20 k20, aM (st := cF) l21 d21 k21, PySem.W.mg_of X G a22, k22, aM (st := cU) l22 d22 k22, aM (st := cL) l23 d23 k23, aM (st := cu) l24 d24 k24, PySem.W.mg_of X G a25, k25, aM (st := fG) l25 d25 k25, aM (st := fK) l26 d26 k26, aM (st := dB) l27 d27 k27, aM (st := di) l28 d28 k28, aM (st := cP) l29 d29 k29, PySem.W.mg_of X G a30, k30, aM (st := bR) l30 d30 k30, PySem.W.mg_of X G a31, k31, aM (st := gC) l31 d31 k31, PySem.W.mg_of X G a32, k32, aM (st := kh) l32 d32 k32, PySem.W.mg_of X G a33, k33, aM (st := gw) l33 d33 k33, aM (st := cM) l34 d34 k34, aM (st := eQ) l35 d35 k35, PySem.W.mg_of X G a36, k36, aM (st := dD) l36 d36 k36, PySem.W.mg_of X G a37, k37, aM (st := cC) l37 d37 k37, aM (st := cQ) l38 d38 k38, PySem.W.mg_of X G a39, k39, aM (st := eF) l39 d39 k39, aM (st := bT) l40 d40 k40, aM (st := cX) l41 d41 k41, aM (st := bN) l42 d42 k42, PySem.W.mg_of X G a43, k43, aM (st := eO) l43 d43 k43, PySem.W.mg_of X G a44, k44, aM (st := bU) l44 d44 k44, aM (st := bO) l45 d45 k45, aM (st := bG) l46 d46 k46, PySem.W.mg_of X G a47, k47, aM (st := bL) l47 d47 k47, aM (st := bD) l48 d48 k48, aM (st := fZ) l49 d49 k49, PySem.W.mg_of X G a50, k50, aM (st := cG) l50 d50 k50, aM (st := cD) l51 d51 k51, PySem.W.mg_of X G a52, k52, aM (st := gj) l52 d52 k52, PySem.W.mg_of X G a53, k53, aM (st := bM) l53 d53 k53, PySem.W.mg_of X G a54, k54, aM (st := cN) l54 d54 k54, PySem.W.mg_of X G a55, k55, aM (st := gG) l55 d55 k55, PySem.W.mg_of X G a56, k56, aM (st := dU) l56 d56 k56, aM (st := bV) l57 d57 k57, PySem.W.mg_of X G a58, k58, aM (st := dm) l58 d58 k58, PySem.W.mg_of X G a59, k59, aM (st := dh) l59 d59 k59, PySem.W.mg_of X G a60, k60, aM (st := dR) l60 d60 k60, Dr (st := cg) (its := [.int 0 tk61_0, .none]) l61 d61 k61 lt61 rfl (.cons ⟨_, rfl⟩ (.cons rfl .nil)), PySem.W.mg_of X G a62, k62, aM (st := eG) l62 d62 k62, aM (st := cj) l63 d63 k63, Dr (st := cO) (its := [.int 0 tk64_0]) l64 d64 k64 lt64 rfl (.cons ⟨_, rfl⟩ .nil), PySem.W.mg_of X G a65, k65, aM (st := eE) l65 d65 k65, PySem.W.mg_of X G a66, k66, aM (st := sY) l66 d66 k66, PySem.W.mg_none_of X G z_list, PySem.W.mg_none_of X G z_sum, PySem.W.mg_none_of X G z_str, PySem.W.mg_none_of X G z_dict, PySem.W.mg_none_of X G z_sorted, PySem.W.mg_none_of X G z_max, PySem.W.mg_none_of X G z_len, PySem.W.mg_none_of X G z_min, PySem.W.mg_none_of X G z_range, PySem.W.mg_none_of X G z_zip, PySem.W.mg_none_of X G z_any, PySem.W.mg_none_of X G z_isinstance, PySem.W.mg_none_of X G z_int, PySem.W.mg_none_of X G z_bool, PySem.W.mg_none_of X G z_all, PySem.W.mg_none_of X G z_enumerate, PySem.W.mg_of X G u_Sale, PySem.W.mg_of X G u_Book, PySem.W.mg_of X G u_Lot, PySem.W.mg_of X G u_Way, PySem.W.mg_of X G u_Eldest, PySem.W.mg_of X G u_NoLot, PySem.W.mg_of X G u_Buy, PySem.W.mg_of X G u_Gift, PySem.W.mg_of X G u_Sell, PySem.W.mg_of X G u_Entry, PySem.W.mg_of X G g_MOST_LETTERS, PySem.W.mg_of X G g_MOST_DAY, PySem.W.mg_of X G g_MOST_NUMBER, PySem.W.mg_of X G g_MOST_PIECES, PySem.W.mg_of X G g_MOST_PRICE, PySem.W.mg_of X G g_MOST_FEE, PySem.W.mg_of X G g_MOST_GIFT_COST, ⟨pg_Sale, hd_Sale, po_Sale, sa_Sale⟩, ⟨⟨pg_Sale, hd_Sale, po_Sale, sa_Sale⟩, ha_Sale, oc_n, oc_t, hm_Sale⟩, n_Sale_number, n_Sale_day, n_Sale_ware, n_Sale_proceeds, n_Sale_parts, n_Sale_laid_on, ⟨pg_Book, hd_Book, po_Book, sa_Book⟩, ⟨⟨pg_Book, hd_Book, po_Book, sa_Book⟩, ha_Book, oc_n, oc_t, hm_Book⟩, n_Book_way, n_Book_rows, n_Book_last_place, n_Book_paid, n_Book_brought, n_Book_sales_done, n_Book_givings_done, ⟨pg_Lot, hd_Lot, po_Lot, sa_Lot⟩, ⟨⟨pg_Lot, hd_Lot, po_Lot, sa_Lot⟩, ha_Lot, oc_n, oc_t, hm_Lot⟩, n_Lot_number, n_Lot_since, n_Lot_pieces, n_Lot_cost, ⟨pg_Way, hd_Way, po_Way, sa_Way⟩, ⟨⟨pg_Way, hd_Way, po_Way, sa_Way⟩, ha_Way, oc_n, oc_t, hm_Way⟩, ⟨pg_Eldest, hd_Eldest, po_Eldest, sa_Eldest⟩, ⟨⟨pg_Eldest, hd_Eldest, po_Eldest, sa_Eldest⟩, ha_Eldest, oc_n, oc_t, hm_Eldest⟩, ⟨pg_Buy, hd_Buy, po_Buy, sa_Buy⟩, ⟨⟨pg_Buy, hd_Buy, po_Buy, sa_Buy⟩, ha_Buy, oc_n, oc_t, hm_Buy⟩, n_Buy_day, n_Buy_number, n_Buy_ware, n_Buy_pieces, n_Buy_price, n_Buy_fee, n_Buy_cost, ⟨pg_Gift, hd_Gift, po_Gift, sa_Gift⟩, ⟨⟨pg_Gift, hd_Gift, po_Gift, sa_Gift⟩, ha_Gift, oc_n, oc_t, hm_Gift⟩, n_Gift_day, n_Gift_number, n_Gift_ware, n_Gift_pieces, n_Gift_cost, n_Gift_since, ⟨pg_Sell, hd_Sell, po_Sell, sa_Sell⟩, ⟨⟨pg_Sell, hd_Sell, po_Sell, sa_Sell⟩, ha_Sell, oc_n, oc_t, hm_Sell⟩, n_Sell_day, n_Sell_number, n_Sell_ware, n_Sell_pieces, n_Sell_price, n_Sell_fee, n_Sell_named, n_Sell_proceeds, ⟨pg_Entry, hd_Entry, po_Entry, sa_Entry⟩, ⟨⟨pg_Entry, hd_Entry, po_Entry, sa_Entry⟩, ha_Entry, oc_n, oc_t, hm_Entry⟩, n_Entry_day, n_Entry_number, n_Entry_ware, ⟨mka_Sale, mkb_Sale, mkc_Sale, mkd_Sale⟩, ⟨mka_Lot, mkb_Lot, mkc_Lot, mkd_Lot⟩, ⟨mka_Book, mkb_Book, mkc_Book, mkd_Book⟩, ⟨mka_Sell, mkb_Sell, mkc_Sell, mkd_Sell⟩, ⟨mka_Gift, mkb_Gift, mkc_Gift, mkd_Gift⟩, ⟨mka_Buy, mkb_Buy, mkc_Buy, mkd_Buy⟩, ⟨m0a_Eldest, m0b_Eldest, m0c_Eldest⟩, ⟨mea_Sale_gain, meb_Sale_gain, k5⟩, ⟨mea_Sale_counted, meb_Sale_counted, k6⟩, ⟨mea_Book_sales, meb_Book_sales, k3⟩, ⟨mea_Book_row_of, meb_Book_row_of, k13⟩, ⟨mea_Book_held, meb_Book_held, k14⟩, ⟨mea_Lot_with_more, meb_Lot_with_more, k24⟩, ⟨mea_Book_keep_row, meb_Book_keep_row, k21⟩, ⟨mea_Book_put, meb_Book_put, k26⟩, ⟨mea_Book_lay_on, meb_Book_lay_on, k27⟩, ⟨mea_Lot_taken, meb_Lot_taken, k35⟩, ⟨mea_Eldest_levelled, meb_Eldest_levelled, k34⟩, ⟨mea_Eldest_picks, meb_Eldest_picks, k38⟩, ⟨mea_Book_taken_for, meb_Book_taken_for, k40⟩, ⟨mea_Book_do_buy, meb_Book_do_buy, k28⟩, ⟨mea_Book_do_gift, meb_Book_do_gift, k29⟩, ⟨mea_Book_do_sell, meb_Book_do_sell, k41⟩, ⟨mea_Book_do_by_kind, meb_Book_do_by_kind, k42⟩, ⟨mea_Buy_held_behind, meb_Buy_held_behind, k45⟩, ⟨mea_Gift_held_behind, meb_Gift_held_behind, k46⟩, ⟨mea_Sell_held_behind, meb_Sell_held_behind, k48⟩, ⟨mea_Book_do, meb_Book_do, k49⟩, ⟨cfa_Entry___init__, cfb_Entry___init__, cfc_Entry___init__⟩, w_ki_BB, w_ki_GB, w_ki_GG, w_ki_SB, w_ki_SG, w_ki_SS⟩
 exact ⟨_, fun s v => .of_eq rfl, fun base _ _ => JC T⟩
theorem walk {l : PySem.W.OpenLaw} {q : Program} {loose : List Str} {XP : (Str -> Option Value) -> Heap -> Prop} {YP : World -> Heap -> Prop} {d : DefRec} {K : Params -> Fg_} (hn : l.most = some 63) (hdf : d.params.defaults = [])
  (hY : ∀ (w : World) (h : Heap), YP w h -> (K w.params).In h)
  (F : ∀ (w : World) (mg : Str -> Option Value) (fa : Addr) (h : Heap), (K w.params).In h -> h.Ns mainGlobals mg -> mg d.name = some (.ref fa) ->
   ∃ fd : FuncData, (∀ (s : Shared) (u : Value), BindsTo s fd ⟨[u], []⟩ [("_law_script", u)]) /\ ∀ base : Heap, (K w.params).In base -> base.Ns mainGlobals mg -> FnOk l.prog w (K w.params) mg base CX0 12 fa fd ["_law_script"] (yt (K w.params))) :
  PySem.W.WalkO q loose XP YP l.row.toRowW d [] (fun f vs => PySem.call f vs) :=
 L2.walk_of (n := 63) (k := 12) (x := "_law_script") (CX := fun _ => CX0) (sp := fun w => yt (K w.params)) hn (by decide) hdf ⟨rfl, by decide, by decide⟩ hY F (fun _ _ a ns hl _ hS => ⟨a, ns, rfl, hS, hl, fun _ => rfl⟩) fun _ _ _ _ _ z => z
end My
namespace PySem.W.Fast
def tw3097916104180702016:=0
def tw10448871779996273387:=0
def tw14271738622392151807:=0
def tw3217874227510094805:=0
def tw2951672092703830940:=0
def tw7682145933955291807:=0
def tw3169887621287226376:=0
def tw10911174103046863214:=0
def tw8350819670151739786:=0
def tw8601864967400130598:=0
def tw17238459410762897719:=0
def tw16726980605481336604:=0
def tw18195235975562670495:=0
def tw2214061642247934073:=0
def tw2909855300422888100:=0
def tw11467018901499061414:=0
def tw17075534799299413437:=0
def tw7583756682615887015:=0
def tw5619928761390412097:=0
def tw12353540181857244491:=0
def tw1021381835019923069:=0
def tw10337884087099516938:=0
def tw7898997400228211654:=0
def tw11987946069179270115:=0
def tw6962251331653401704:=0
def tw11559462534537739422:=0
def tw12217785436449589756:=0
def tw13931577965343485905:=0
def tw13587859793561898047:=0
def tw504798738121600518:=0
def tw828234903348230019:=0
def tw14583310645835320458:=0
def tw14506599485131762790:=0
def tw6676148418451596367:=0
def tw16864936118564454479:=0
def tw10653935734801409247:=0
def tw8518482435090495843:=0
def tw8560564059216217947:=0
def tw9520651726648900814:=0
def tw13465853180841874064:=0
def tw3191584670061664538:=0
def tw7319772915207999925:=0
def tw8144137049694724822:=0
def tw7863116427996389165:=0
def tw4333363502080782006:=0
def tw10835080076148238654:=0
def tw8399887161499464649:=0
def tw2207800034896109748:=0
def tw17578470078984562999:=0
def tw9894866431645133887:=0
def tw5072373621428203752:=0
def tw12095181485239645329:=0
def tw778260456052237507:=0
def tw6953466887160485175:=0
def tw13340879307601504931:=0
def tw9532394517026451155:=0
def tw17096181572669059252:=0
def tw9944298763153561345:=0
def tw15458386892717157807:=0
def tw10126807347729964647:=0
def tw2631945124385921454:=0
def tw15819164118786635042:=0
def tw4685645332274163948:=0
def tw3235999780988430355:=0
def tw8496453437395659125:=0
def tw6376251595912940422:=0
def tw17679852175274560028:=0
def tw12364700430027160064:=0
def tw5608966704082588708:=0
def tw6446435333316819942:=0
def tw2827480982400119038:=0
def tw10282660151953201836:=0
def tw8990480917262091973:=0
def tw15966779378467831987:=0
def tw10033973977726943467:=0
def tw8343043774191096931:=0
def tw3746322988724999954:=0
def tw7012093720580388670:=0
def tw12014056020610414890:=0
def tw13184696897207949780:=0
def tw16300953107433923333:=0
def tw7197039447529141827:=0
def tw14786394842413992463:=0
def tw8869551720601661817:=0
def tw4394790111914761000:=0
def tw8909093502285877200:=0
def tw13411718474649271543:=0
def tw4525933653016241034:=0
def tw11516612755427154376:=0
def tw14644159197104153042:=0
def tw8739249913836141148:=0
def tw7776753835218391059:=0
def tw7287676688959157327:=0
def tw432566993350147489:=0
def tw6789276557204882836:=0
def tw9513573835702693467:=0
def tw17703624926176999928:=0
def tw11413101283402017527:=0
def tw4008973707276238898:=0
def tw3595151206930044243:=0
def tw5470688150243982805:=0
def tw4376583301024036564:=0
def tw8475713288126795693:=0
def tw8565051086526303124:=0
def tw6296875760867702165:=0
def tw15849774991708506179:=0
def tw18345403826859398199:=0
def tw11061984414528536117:=0
def tw4228624787652939833:=0
def tw2974687591494118944:=0
def tw8542241048261282843:=0
def tw1097983375778158703:=0
def tw7846170657285580353:=0
def tw7170794026786869830:=0
def tw13066875370167810509:=0
def tw14901991726832335550:=0
def tw7433847936900172115:=0
def tw14756512254445337208:=0
def tw8265163216595151904:=0
def tw14423298980855429765:=0
def tw9846583421299879827:=0
def tw10546359899836722285:=0
def tw7777003904592396443:=0
def tw11901417336216561475:=0
def tw10190723472544858684:=0
def tw16258453536727193170:=0
def tw5821567373119972593:=0
def tw3894012321389496037:=0
def tw16104987166168822927:=0
def tw15748008237901200243:=0
def tw6654384245846108090:=0
def tw11139674012905927906:=0
def tw18381480104082290030:=0
def tw13755436015475633310:=0
def tw10837578102219380285:=0
def tw7667999732616611065:=0
def tw8598503251032163397:=0
def tw11331814849904953857:=0
def tw17263622596568008488:=0
def tw1350530945052949504:=0
def tw16362451135463630999:=0
def tw9085112118615940896:=0
def tw15807826479912275052:=0
def tw12769765174467612735:=0
def tw163554738098044844:=0
def tw7834872259052418354:=0
def tw16403046360211115332:=0
def tw15140376128567582772:=0
def tw13308505462642405860:=0
def tw7542125310029048911:=0
def tw11742332667613212212:=0
def tw9715672305182668458:=0
def tw14791943272183455183:=0
def tw2441730877244953127:=0
def tw2707615896397846099:=0
def tw10882134594630692153:=0
def tw14189358401019888111:=0
def tw1179753214328021718:=0
def tw7410139327952900309:=0
def tw4706545263695851685:=0
def tw2490812502920521817:=0
def tw15460431226572242252:=0
def tw3049100917377404865:=0
def tw10053408175265537197:=0
def tw8197078891597111041:=0
def tw2804112956217141267:=0
def tw14943538926933089228:=0
def tw17470696499087708325:=0
def tw16134353976378293919:=0
def tw16761386187409421557:=0
def tw4104520384380343860:=0
def tw835992341544918627:=0
def tw16523773601774272880:=0
def tw15197639863142788533:=0
def tw12839368553544990284:=0
def tw2751860008282546068:=0
def tw1701418199619401425:=0
def tw7112829413808459378:=0
def tw16946474022217745857:=0
def tw1278570549144428278:=0
def tw5585879054156414044:=0
def tw2428095780390764362:=0
def tw6418479745962021598:=0
def tw15294081116667760916:=0
def tw15173464172470718993:=0
def tw9107297909675271199:=0
def tw15440224328173153995:=0
def tw14744427618073864202:=0
def tw16914326293508005760:=0
def tw14750843448671626965:=0
def tw180465480643450437:=0
def tw5914282113625103471:=0
def tw13940756767486131327:=0
def tw13250405860077466905:=0
def tw5430443311934630458:=0
def tw1534858495906655666:=0
def tw17516149973594470354:=0
def tw10527147536743353195:=0
def tw2538482965764300272:=0
def tw5665535287545365141:=0
def tw6235583031386964780:=0
def tw6926190927297802327:=0
def tw15193674372235853950:=0
def tw3064982348717765082:=0
def tw7144229366467744020:=0
def tw16321146895722873704:=0
def tw10195729945255815944:=0
def tw11721557417747198105:=0
def tw2067046360272173233:=0
def tw10749413321544706606:=0
def tw11276984223652123909:=0
def tw15176274995713554951:=0
def tw17421862255066305539:=0
def tw17918960840874407585:=0
def tw7381532254713208523:=0
def tw13790222112522613823:=0
def tw1470440428564763411:=0
def tw18307751198418215793:=0
def tw16196446244821974467:=0
def tw17146287853179958732:=0
def tw11851588284599787017:=0
def tw3531740520709278326:=0
def tw6507248023785469292:=0
def tw10414450348309821844:=0
def tw2836862995876067903:=0
def tw4837594458266082730:=0
def tw12306233448705285032:=0
def tw15685548998583214158:=0
def tw3799834760719437427:=0
def tw16906079069921467368:=0
def tw11047122777016749445:=0
def tw10697070914153128344:=0
def tw2025288611312009571:=0
def tw380704888179107274:=0
def tw1340273132321159322:=0
def tw9438459175333666503:=0
def tw13291421349391800777:=0
def tw6446034463893583160:=0
def tw17207687314626396575:=0
def tw12394758272274109598:=0
def tw12872925063620441828:=0
def tw18062386026973300238:=0
def tw9962058315974185834:=0
def tw9490526790513901880:=0
def tw3914232175084240294:=0
def tw946007449433900227:=0
def tw788446706256039796:=0
def tw10078095281557436255:=0
def tw9741116346320020299:=0
def tw16463718171640704771:=0
def tw10437200130705067253:=0
def tw480057438414738811:=0
def tw6185273091154286580:=0
def tw17653900153519554965:=0
end PySem.W.Fast
open PySem PySem.W PyProof.Rows
set_option maxRecDepth 100000 in
set_option maxHeartbeats 0 in
theorem PySem.Challenge.cw_lotledger_k85_reports_by_hand_holds : PySem.Challenge.rw_lotledger_k85_reports_by_hand.Holds := by
 w_on; o_law; k_head; (case hw => w_witness2)
 k_fill
 refine My.walk (l := PySem.Challenge.rw_lotledger_k85_reports_by_hand) rfl rfl (fun w h Y => PySem.W.kIn_of Y) ?F
 case F =>
  intro w mg fa h KX G hmg
  refine' My.all_mk KX G hmg ?u_Sale ?u_Book ?u_Lot ?u_Way ?u_Eldest ?u_NoLot ?u_Buy ?u_Gift ?u_Sell ?u_Entry ?a0 ?l0 ?d0 ?k0 ?a1 ?l1 ?d1 ?k1 ?a2 ?l2 ?d2 ?k2 ?a3 ?l3 ?d3 ?k3 ?a4 ?l4 ?d4 ?k4 ?a5 ?l5 ?d5 ?k5 ?a6 ?l6 ?d6 ?k6 ?a7 ?l7 ?d7 ?k7 ?a8 ?l8 ?d8 ?k8 ?a9 ?l9 ?d9 ?k9 ?a10 ?l10 ?d10 ?k10 ?a11 ?l11 ?d11 ?k11 ?a12 ?l12 ?d12 ?k12 ?a13 ?l13 ?d13 ?k13 ?a14 ?l14 ?d14 ?k14 ?a15 ?l15 ?d15 ?k15 ?a16 ?l16 ?d16 ?k16 ?a17 ?l17 ?d17 ?k17 ?a18 ?l18 ?d18 ?k18 ?a19 ?l19 ?d19 ?k19 ?a20 ?l20 ?d20 ?k20 ?a21 ?l21 ?d21 ?k21 ?a22 ?l22 ?d22 ?k22 ?a23 ?l23 ?d23 ?k23 ?a24 ?l24 ?d24 ?k24 ?a25 ?l25 ?d25 ?k25 ?a26 ?l26 ?d26 ?k26 ?a27 ?l27 ?d27 ?k27 ?a28 ?l28 ?d28 ?k28 ?a29 ?l29 ?d29 ?k29 ?a30 ?l30 ?d30 ?k30 ?a31 ?l31 ?d31 ?k31 ?a32 ?l32 ?d32 ?k32 ?a33 ?l33 ?d33 ?k33 ?a34 ?l34 ?d34 ?k34 ?a35 ?l35 ?d35 ?k35 ?a36 ?l36 ?d36 ?k36 ?a37 ?l37 ?d37 ?k37 ?a38 ?l38 ?d38 ?k38 ?a39 ?l39 ?d39 ?k39 ?a40 ?l40 ?d40 ?k40 ?a41 ?l41 ?d41 ?k41 ?a42 ?l42 ?d42 ?k42 ?a43 ?l43 ?d43 ?k43 ?a44 ?l44 ?d44 ?k44 ?a45 ?l45 ?d45 ?k45 ?a46 ?l46 ?d46 ?k46 ?a47 ?l47 ?d47 ?k47 ?a48 ?l48 ?d48 ?k48 ?a49 ?l49 ?d49 ?k49 ?a50 ?l50 ?d50 ?k50 ?a51 ?l51 ?d51 ?k51 ?a52 ?l52 ?d52 ?k52 ?a53 ?l53 ?d53 ?k53 ?a54 ?l54 ?d54 ?k54 ?a55 ?l55 ?d55 ?k55 ?a56 ?l56 ?d56 ?k56 ?a57 ?l57 ?d57 ?k57 ?a58 ?l58 ?d58 ?k58 ?a59 ?l59 ?d59 ?k59 ?a60 ?l60 ?d60 ?k60 ?a61 ?l61 ?d61 ?k61 ?lt61 ?a62 ?l62 ?d62 ?k62 ?a63 ?l63 ?d63 ?k63 ?a64 ?l64 ?d64 ?k64 ?lt64 ?a65 ?l65 ?d65 ?k65 ?a66 ?l66 ?d66 ?k66 ?z_list ?z_sum ?z_str ?z_dict ?z_sorted ?z_max ?z_len ?z_min ?z_range ?z_zip ?z_any ?z_isinstance ?z_int ?z_bool ?z_all ?z_enumerate ?g_MOST_LETTERS ?g_MOST_DAY ?g_MOST_NUMBER ?g_MOST_PIECES ?g_MOST_PRICE ?g_MOST_FEE ?g_MOST_GIFT_COST ?oc_n ?oc_t ?pg_Sale ?hd_Sale ?po_Sale ?sa_Sale ?ha_Sale ?hm_Sale ?n_Sale_number ?n_Sale_day ?n_Sale_ware ?n_Sale_proceeds ?n_Sale_parts ?n_Sale_laid_on ?pg_Book ?hd_Book ?po_Book ?sa_Book ?ha_Book ?hm_Book ?n_Book_way ?n_Book_rows ?n_Book_last_place ?n_Book_paid ?n_Book_brought ?n_Book_sales_done ?n_Book_givings_done ?pg_Lot ?hd_Lot ?po_Lot ?sa_Lot ?ha_Lot ?hm_Lot ?n_Lot_number ?n_Lot_since ?n_Lot_pieces ?n_Lot_cost ?pg_Way ?hd_Way ?po_Way ?sa_Way ?ha_Way ?hm_Way ?pg_Eldest ?hd_Eldest ?po_Eldest ?sa_Eldest ?ha_Eldest ?hm_Eldest ?pg_Buy ?hd_Buy ?po_Buy ?sa_Buy ?ha_Buy ?hm_Buy ?n_Buy_day ?n_Buy_number ?n_Buy_ware ?n_Buy_pieces ?n_Buy_price ?n_Buy_fee ?n_Buy_cost ?pg_Gift ?hd_Gift ?po_Gift ?sa_Gift ?ha_Gift ?hm_Gift ?n_Gift_day ?n_Gift_number ?n_Gift_ware ?n_Gift_pieces ?n_Gift_cost ?n_Gift_since ?pg_Sell ?hd_Sell ?po_Sell ?sa_Sell ?ha_Sell ?hm_Sell ?n_Sell_day ?n_Sell_number ?n_Sell_ware ?n_Sell_pieces ?n_Sell_price ?n_Sell_fee ?n_Sell_named ?n_Sell_proceeds ?pg_Entry ?hd_Entry ?po_Entry ?sa_Entry ?ha_Entry ?hm_Entry ?n_Entry_day ?n_Entry_number ?n_Entry_ware ?mka_Sale ?mkb_Sale ?mkc_Sale ?mkd_Sale ?mka_Lot ?mkb_Lot ?mkc_Lot ?mkd_Lot ?mka_Book ?mkb_Book ?mkc_Book ?mkd_Book ?mka_Sell ?mkb_Sell ?mkc_Sell ?mkd_Sell ?mka_Gift ?mkb_Gift ?mkc_Gift ?mkd_Gift ?mka_Buy ?mkb_Buy ?mkc_Buy ?mkd_Buy ?m0a_Eldest ?m0b_Eldest ?m0c_Eldest ?mea_Sale_gain ?meb_Sale_gain ?mea_Sale_counted ?meb_Sale_counted ?mea_Book_sales ?meb_Book_sales ?mea_Book_row_of ?meb_Book_row_of ?mea_Book_held ?meb_Book_held ?mea_Lot_with_more ?meb_Lot_with_more ?mea_Book_keep_row ?meb_Book_keep_row ?mea_Book_put ?meb_Book_put ?mea_Book_lay_on ?meb_Book_lay_on ?mea_Lot_taken ?meb_Lot_taken ?mea_Eldest_levelled ?meb_Eldest_levelled ?mea_Eldest_picks ?meb_Eldest_picks ?mea_Book_taken_for ?meb_Book_taken_for ?mea_Book_do_buy ?meb_Book_do_buy ?mea_Book_do_gift ?meb_Book_do_gift ?mea_Book_do_sell ?meb_Book_do_sell ?mea_Book_do_by_kind ?meb_Book_do_by_kind ?mea_Buy_held_behind ?meb_Buy_held_behind ?mea_Gift_held_behind ?meb_Gift_held_behind ?mea_Sell_held_behind ?meb_Sell_held_behind ?mea_Book_do ?meb_Book_do ?cfa_Entry___init__ ?cfb_Entry___init__ ?cfc_Entry___init__ ?w_ki_BB ?w_ki_GB ?w_ki_GG ?w_ki_SB ?w_ki_SG ?w_ki_SS
  (case u_Sale => k_is)
  (case u_Book => k_is)
  (case u_Lot => k_is)
  (case u_Way => k_is)
  (case u_Eldest => k_is)
  (case u_NoLot => k_is)
  (case u_Buy => k_is)
  (case u_Gift => k_is)
  (case u_Sell => k_is)
  (case u_Entry => k_is)
  (case a0 => k_is)
  (case l0 => k_is)
  (case d0 => k_is)
  (case k0 => k_is)
  (case a1 => k_is)
  (case l1 => k_is)
  (case d1 => k_is)
  (case k1 => k_is)
  (case a2 => k_is)
  (case l2 => k_is)
  (case d2 => k_is)
  (case k2 => k_is)
  (case a3 => k_is)
  (case l3 => k_is)
  (case d3 => k_is)
  (case k3 => k_is)
  (case a4 => k_is)
  (case l4 => k_is)
  (case d4 => k_is)
  (case k4 => k_is)
  (case a5 => k_is)
  (case l5 => k_is)
  (case d5 => k_is)
  (case k5 => k_is)
  (case a6 => k_is)
  (case l6 => k_is)
  (case d6 => k_is)
  (case k6 => k_is)
  (case a7 => k_is)
  (case l7 => k_is)
  (case d7 => k_is)
  (case k7 => k_is)
  (case a8 => k_is)
  (case l8 => k_is)
  (case d8 => k_is)
  (case k8 => k_is)
  (case a9 => k_is)
  (case l9 => k_is)
  (case d9 => k_is)
  (case k9 => k_is)
  (case a10 => k_is)
  (case l10 => k_is)
  (case d10 => k_is)
  (case k10 => k_is)
  (case a11 => k_is)
  (case l11 => k_is)
  (case d11 => k_is)
  (case k11 => k_is)
  (case a12 => k_is)
  (case l12 => k_is)
  (case d12 => k_is)
  (case k12 => k_is)
  (case a13 => k_is)
  (case l13 => k_is)
  (case d13 => k_is)
  (case k13 => k_is)
  (case a14 => k_is)
  (case l14 => k_is)
  (case d14 => k_is)
  (case k14 => k_is)
  (case a15 => k_is)
  (case l15 => k_is)
  (case d15 => k_is)
  (case k15 => k_is)
  (case a16 => k_is)
  (case l16 => k_is)
  (case d16 => k_is)
  (case k16 => k_is)
  (case a17 => k_is)
  (case l17 => k_is)
  (case d17 => k_is)
  (case k17 => k_is)
  (case a18 => k_is)
  (case l18 => k_is)
  (case d18 => k_is)
  (case k18 => k_is)
  (case a19 => k_is)
  (case l19 => k_is)
  (case d19 => k_is)
  (case k19 => k_is)
  (case a20 => k_is)
  (case l20 => k_is)
  (case d20 => k_is)
  (case k20 => k_is)
  (case a21 => k_is)
  (case l21 => k_is)
  (case d21 => k_is)
  (case k21 => k_is)
  (case a22 => k_is)
  (case l22 => k_is)
  (case d22 => k_is)
  (case k22 => k_is)
  (case a23 => k_is)
  (case l23 => k_is)
  (case d23 => k_is)
  (case k23 => k_is)
  (case a24 => k_is)
  (case l24 => k_is)
  (case d24 => k_is)
  (case k24 => k_is)
  (case a25 => k_is)
  (case l25 => k_is)
  (case d25 => k_is)
  (case k25 => k_is)
  (case a26 => k_is)
  (case l26 => k_is)
  (case d26 => k_is)
  (case k26 => k_is)
  (case a27 => k_is)
  (case l27 => k_is)
  (case d27 => k_is)
  (case k27 => k_is)
  (case a28 => k_is)
  (case l28 => k_is)
  (case d28 => k_is)
  (case k28 => k_is)
  (case a29 => k_is)
  (case l29 => k_is)
  (case d29 => k_is)
  (case k29 => k_is)
  (case a30 => k_is)
  (case l30 => k_is)
  (case d30 => k_is)
  (case k30 => k_is)
  (case a31 => k_is)
  (case l31 => k_is)
  (case d31 => k_is)
  (case k31 => k_is)
  (case a32 => k_is)
  (case l32 => k_is)
  (case d32 => k_is)
  (case k32 => k_is)
  (case a33 => k_is)
  (case l33 => k_is)
  (case d33 => k_is)
  (case k33 => k_is)
  (case a34 => k_is)
  (case l34 => k_is)
  (case d34 => k_is)
  (case k34 => k_is)
  (case a35 => k_is)
  (case l35 => k_is)
  (case d35 => k_is)
  (case k35 => k_is)
  (case a36 => k_is)
  (case l36 => k_is)
  (case d36 => k_is)
  (case k36 => k_is)
  (case a37 => k_is)
  (case l37 => k_is)
  (case d37 => k_is)
  (case k37 => k_is)
  (case a38 => k_is)
  (case l38 => k_is)
  (case d38 => k_is)
  (case k38 => k_is)
  (case a39 => k_is)
  (case l39 => k_is)
  (case d39 => k_is)
  (case k39 => k_is)
  (case a40 => k_is)
  (case l40 => k_is)
  (case d40 => k_is)
  (case k40 => k_is)
  (case a41 => k_is)
  (case l41 => k_is)
  (case d41 => k_is)
  (case k41 => k_is)
  (case a42 => k_is)
  (case l42 => k_is)
  (case d42 => k_is)
  (case k42 => k_is)
  (case a43 => k_is)
  (case l43 => k_is)
  (case d43 => k_is)
  (case k43 => k_is)
  (case a44 => k_is)
  (case l44 => k_is)
  (case d44 => k_is)
  (case k44 => k_is)
  (case a45 => k_is)
  (case l45 => k_is)
  (case d45 => k_is)
  (case k45 => k_is)
  (case a46 => k_is)
  (case l46 => k_is)
  (case d46 => k_is)
  (case k46 => k_is)
  (case a47 => k_is)
  (case l47 => k_is)
  (case d47 => k_is)
  (case k47 => k_is)
  (case a48 => k_is)
  (case l48 => k_is)
  (case d48 => k_is)
  (case k48 => k_is)
  (case a49 => k_is)
  (case l49 => k_is)
  (case d49 => k_is)
  (case k49 => k_is)
  (case a50 => k_is)
  (case l50 => k_is)
  (case d50 => k_is)
  (case k50 => k_is)
  (case a51 => k_is)
  (case l51 => k_is)
  (case d51 => k_is)
  (case k51 => k_is)
  (case a52 => k_is)
  (case l52 => k_is)
  (case d52 => k_is)
  (case k52 => k_is)
  (case a53 => k_is)
  (case l53 => k_is)
  (case d53 => k_is)
  (case k53 => k_is)
  (case a54 => k_is)
  (case l54 => k_is)
  (case d54 => k_is)
  (case k54 => k_is)
  (case a55 => k_is)
  (case l55 => k_is)
  (case d55 => k_is)
  (case k55 => k_is)
  (case a56 => k_is)
  (case l56 => k_is)
  (case d56 => k_is)
  (case k56 => k_is)
  (case a57 => k_is)
  (case l57 => k_is)
  (case d57 => k_is)
  (case k57 => k_is)
  (case a58 => k_is)
  (case l58 => k_is)
  (case d58 => k_is)
  (case k58 => k_is)
  (case a59 => k_is)
  (case l59 => k_is)
  (case d59 => k_is)
  (case k59 => k_is)
  (case a60 => k_is)
  (case l60 => k_is)
  (case d60 => k_is)
  (case k60 => k_is)
  (case a61 => k_is)
  (case l61 => k_is)
  (case d61 => k_is)
  (case k61 => k_is)
  (case lt61 => k_is)
  (case a62 => k_is)
  (case l62 => k_is)
  (case d62 => k_is)
  (case k62 => k_is)
  (case a63 => k_is)
  (case l63 => k_is)
  (case d63 => k_is)
  (case k63 => k_is)
  (case a64 => k_is)
  (case l64 => k_is)
  (case d64 => k_is)
  (case k64 => k_is)
  (case lt64 => k_is)
  (case a65 => k_is)
  (case l65 => k_is)
  (case d65 => k_is)
  (case k65 => k_is)
  (case a66 => k_is)
  (case l66 => k_is)
  (case d66 => k_is)
  (case k66 => k_is)
  (case z_list => k_is)
  (case z_sum => k_is)
  (case z_str => k_is)
  (case z_dict => k_is)
  (case z_sorted => k_is)
  (case z_max => k_is)
  (case z_len => k_is)
  (case z_min => k_is)
  (case z_range => k_is)
  (case z_zip => k_is)
  (case z_any => k_is)
  (case z_isinstance => k_is)
  (case z_int => k_is)
  (case z_bool => k_is)
  (case z_all => k_is)
  (case z_enumerate => k_is)
  (case g_MOST_LETTERS => k_is)
  (case g_MOST_DAY => k_is)
  (case g_MOST_NUMBER => k_is)
  (case g_MOST_PIECES => k_is)
  (case g_MOST_PRICE => k_is)
  (case g_MOST_FEE => k_is)
  (case g_MOST_GIFT_COST => k_is)
  (case oc_n => k_is)
  (case oc_t => k_is)
  (case pg_Sale => k_is)
  (case hd_Sale => k_is)
  (case po_Sale => k_is)
  (case sa_Sale => k_is)
  (case ha_Sale => k_is)
  (case hm_Sale => k_is)
  (case n_Sale_number => k_is)
  (case n_Sale_day => k_is)
  (case n_Sale_ware => k_is)
  (case n_Sale_proceeds => k_is)
  (case n_Sale_parts => k_is)
  (case n_Sale_laid_on => k_is)
  (case pg_Book => k_is)
  (case hd_Book => k_is)
  (case po_Book => k_is)
  (case sa_Book => k_is)
  (case ha_Book => k_is)
  (case hm_Book => k_is)
  (case n_Book_way => k_is)
  (case n_Book_rows => k_is)
  (case n_Book_last_place => k_is)
  (case n_Book_paid => k_is)
  (case n_Book_brought => k_is)
  (case n_Book_sales_done => k_is)
  (case n_Book_givings_done => k_is)
  (case pg_Lot => k_is)
  (case hd_Lot => k_is)
  (case po_Lot => k_is)
  (case sa_Lot => k_is)
  (case ha_Lot => k_is)
  (case hm_Lot => k_is)
  (case n_Lot_number => k_is)
  (case n_Lot_since => k_is)
  (case n_Lot_pieces => k_is)
  (case n_Lot_cost => k_is)
  (case pg_Way => k_is)
  (case hd_Way => k_is)
  (case po_Way => k_is)
  (case sa_Way => k_is)
  (case ha_Way => k_is)
  (case hm_Way => k_is)
  (case pg_Eldest => k_is)
  (case hd_Eldest => k_is)
  (case po_Eldest => k_is)
  (case sa_Eldest => k_is)
  (case ha_Eldest => k_is)
  (case hm_Eldest => k_is)
  (case pg_Buy => k_is)
  (case hd_Buy => k_is)
  (case po_Buy => k_is)
  (case sa_Buy => k_is)
  (case ha_Buy => k_is)
  (case hm_Buy => k_is)
  (case n_Buy_day => k_is)
  (case n_Buy_number => k_is)
  (case n_Buy_ware => k_is)
  (case n_Buy_pieces => k_is)
  (case n_Buy_price => k_is)
  (case n_Buy_fee => k_is)
  (case n_Buy_cost => k_is)
  (case pg_Gift => k_is)
  (case hd_Gift => k_is)
  (case po_Gift => k_is)
  (case sa_Gift => k_is)
  (case ha_Gift => k_is)
  (case hm_Gift => k_is)
  (case n_Gift_day => k_is)
  (case n_Gift_number => k_is)
  (case n_Gift_ware => k_is)
  (case n_Gift_pieces => k_is)
  (case n_Gift_cost => k_is)
  (case n_Gift_since => k_is)
  (case pg_Sell => k_is)
  (case hd_Sell => k_is)
  (case po_Sell => k_is)
  (case sa_Sell => k_is)
  (case ha_Sell => k_is)
  (case hm_Sell => k_is)
  (case n_Sell_day => k_is)
  (case n_Sell_number => k_is)
  (case n_Sell_ware => k_is)
  (case n_Sell_pieces => k_is)
  (case n_Sell_price => k_is)
  (case n_Sell_fee => k_is)
  (case n_Sell_named => k_is)
  (case n_Sell_proceeds => k_is)
  (case pg_Entry => k_is)
  (case hd_Entry => k_is)
  (case po_Entry => k_is)
  (case sa_Entry => k_is)
  (case ha_Entry => k_is)
  (case hm_Entry => k_is)
  (case n_Entry_day => k_is)
  (case n_Entry_number => k_is)
  (case n_Entry_ware => k_is)
  (case mka_Sale => k_is)
  (case mkb_Sale => k_is)
  (case mkc_Sale => k_is)
  (case mkd_Sale => k_is)
  (case mka_Lot => k_is)
  (case mkb_Lot => k_is)
  (case mkc_Lot => k_is)
  (case mkd_Lot => k_is)
  (case mka_Book => k_is)
  (case mkb_Book => k_is)
  (case mkc_Book => k_is)
  (case mkd_Book => k_is)
  (case mka_Sell => k_is)
  (case mkb_Sell => k_is)
  (case mkc_Sell => k_is)
  (case mkd_Sell => k_is)
  (case mka_Gift => k_is)
  (case mkb_Gift => k_is)
  (case mkc_Gift => k_is)
  (case mkd_Gift => k_is)
  (case mka_Buy => k_is)
  (case mkb_Buy => k_is)
  (case mkc_Buy => k_is)
  (case mkd_Buy => k_is)
  (case m0a_Eldest => k_is)
  (case m0b_Eldest => k_is)
  (case m0c_Eldest => k_is)
  (case mea_Sale_gain => k_is)
  (case meb_Sale_gain => k_is)
  (case mea_Sale_counted => k_is)
  (case meb_Sale_counted => k_is)
  (case mea_Book_sales => k_is)
  (case meb_Book_sales => k_is)
  (case mea_Book_row_of => k_is)
  (case meb_Book_row_of => k_is)
  (case mea_Book_held => k_is)
  (case meb_Book_held => k_is)
  (case mea_Lot_with_more => k_is)
  (case meb_Lot_with_more => k_is)
  (case mea_Book_keep_row => k_is)
  (case meb_Book_keep_row => k_is)
  (case mea_Book_put => k_is)
  (case meb_Book_put => k_is)
  (case mea_Book_lay_on => k_is)
  (case meb_Book_lay_on => k_is)
  (case mea_Lot_taken => k_is)
  (case meb_Lot_taken => k_is)
  (case mea_Eldest_levelled => k_is)
  (case meb_Eldest_levelled => k_is)
  (case mea_Eldest_picks => k_is)
  (case meb_Eldest_picks => k_is)
  (case mea_Book_taken_for => k_is)
  (case meb_Book_taken_for => k_is)
  (case mea_Book_do_buy => k_is)
  (case meb_Book_do_buy => k_is)
  (case mea_Book_do_gift => k_is)
  (case meb_Book_do_gift => k_is)
  (case mea_Book_do_sell => k_is)
  (case meb_Book_do_sell => k_is)
  (case mea_Book_do_by_kind => k_is)
  (case meb_Book_do_by_kind => k_is)
  (case mea_Buy_held_behind => k_is)
  (case meb_Buy_held_behind => k_is)
  (case mea_Gift_held_behind => k_is)
  (case meb_Gift_held_behind => k_is)
  (case mea_Sell_held_behind => k_is)
  (case meb_Sell_held_behind => k_is)
  (case mea_Book_do => k_is)
  (case meb_Book_do => k_is)
  (case cfa_Entry___init__ => k_is)
  (case cfb_Entry___init__ => k_is)
  (case cfc_Entry___init__ => k_is)
  (case w_ki_BB => kit_is)
  (case w_ki_GB => kit_is)
  (case w_ki_GG => kit_is)
  (case w_ki_SB => kit_is)
  (case w_ki_SG => kit_is)
  (case w_ki_SS => kit_is)
