import PyProof.Rows.All
import Wide.All
import OpenK.AllK
import Wide.FinOn
import Lean
import PyProof.EqAt
import PyProof.EqKinds
import PyProof.NeKinds
import PyProof.TupleCall
import PySem.Challenge.RW_lotledger_k81_entries_read
set_option Elab.async false
set_option linter.all false
set_option maxRecDepth 100000
set_option maxHeartbeats 4000000
abbrev Fg_ := PySem.W.Frag
namespace L2
open PySem PySem.Spec PyProof.Rows
abbrev Key := Sum Int Str
def keyIs : Key -> Value -> Bool
 | .inl k, v => Value.isInt k v
 | .inr x, v => Value.isStrOf x v
def keyH (w : World) : Key -> Int
 | .inl k => hashInt k
 | .inr x => hashStr w x
theorem keyIs_shape : ∀ {k : Key} {v : Value}, keyIs k v = true -> (∃ i t, k = Sum.inl i /\ v = Value.int i t) \/ (∃ x t, k = Sum.inr x /\ v = Value.str x t)
 | .inl i, v, h => by
  obtain ⟨t, e⟩ := Value.isInt_shape (k := i) (v := v) h
  exact .inl ⟨i, t, rfl, e⟩
 | .inr x, v, h => by
  obtain ⟨t, e⟩ := Value.isStrOf_shape (x := x) (v := v) h
  exact .inr ⟨x, t, rfl, e⟩
theorem keyIs_int (i : Int) (t : Tok) : keyIs (.inl i) (.int i t) = true := by simp [keyIs, Value.isInt]
theorem keyIs_str (x : Str) (t : Tok) : keyIs (.inr x) (.str x t) = true := by simp [keyIs, Value.isStrOf]
theorem key_ll (a b : Int) : decide ((Sum.inl a : Key) = Sum.inl b) = (a == b) := by
 by_cases e : a = b
 ·subst e; simp
 ·have h : ¬ (Sum.inl a : Key) = Sum.inl b := fun q => e (Sum.inl.inj q)
  rw [decide_eq_false h]
  exact (beq_eq_false_iff_ne.mpr e).symm
theorem key_rr (a b : Str) : decide ((Sum.inr a : Key) = Sum.inr b) = decide (a = b) := by
 by_cases e : a = b
 ·subst e; simp
 ·have h : ¬ (Sum.inr a : Key) = Sum.inr b := fun q => e (Sum.inr.inj q)
  rw [decide_eq_false h, decide_eq_false e]
theorem key_lr (a : Int) (b : Str) : decide ((Sum.inl a : Key) = Sum.inr b) = false := decide_eq_false (fun q => nomatch q)
theorem key_rl (a : Str) (b : Int) : decide ((Sum.inr a : Key) = Sum.inl b) = false := decide_eq_false (fun q => nomatch q)
def mixKind (prog : Program) (w : World) : PySem.KeyKind prog w Key where
 is := keyIs
 hash := keyH w
 inj := fun v a b ha hb => by
  rcases keyIs_shape ha with ⟨i, t, rfl, rfl⟩ | ⟨x, t, rfl, rfl⟩
  ·rcases keyIs_shape hb with ⟨j, u, rfl, e⟩ | ⟨y, u, rfl, e⟩
   ·injection e with e1 _; rw [e1]
   ·exact nomatch e
  ·rcases keyIs_shape hb with ⟨j, u, rfl, e⟩ | ⟨y, u, rfl, e⟩
   ·exact nomatch e
   ·injection e with e1 _; rw [e1]
 byValue := fun k v h => by
  rcases keyIs_shape h with ⟨i, t, rfl, rfl⟩ | ⟨x, t, rfl, rfl⟩ <;> rfl
 pyHash := fun hv h => by
  rcases keyIs_shape hv with ⟨i, t, rfl, rfl⟩ | ⟨x, t, rfl, rfl⟩
  ·exact wpAny_pyHash_int h
  ·exact wpAny_pyHash_str h
 eqBool := fun hu hv h => by
  rcases keyIs_shape hu with ⟨i, t, rfl, rfl⟩ | ⟨x, t, rfl, rfl⟩
  ·rcases keyIs_shape hv with ⟨j, u, rfl, rfl⟩ | ⟨y, u, rfl, rfl⟩
   ·rw [key_ll] at h; exact wpAny_eqBool_int h
   ·rw [key_lr] at h; exact SeqAt.EqAt.int_str i t y u _ _ _ _ h
  ·rcases keyIs_shape hv with ⟨j, u, rfl, rfl⟩ | ⟨y, u, rfl, rfl⟩
   ·rw [key_rl] at h; exact SeqAt.EqAt.str_int x t j u _ _ _ _ h
   ·rw [key_rr] at h; exact wpAny_eqBool_str h
 «strs» := fun k x t v h => by
  rcases keyIs_shape h with ⟨i, u, rfl, e⟩ | ⟨y, u, rfl, e⟩
  ·exact nomatch e
  ·injection e with e1 _
   subst e1
   cases v <;> rfl
theorem mixKind_int (prog : Program) (w : World) (i : Int) (t : Tok) : (mixKind prog w).is (.inl i) (.int i t) = true := keyIs_int i t
theorem mixKind_str (prog : Program) (w : World) (x : Str) (t : Tok) : (mixKind prog w).is (.inr x) (.str x t) = true := keyIs_str x t
end L2
namespace L2
open PySem PySem.Spec PyProof.Rows
inductive V where
 | non | bl (b : Bool) | int (i : Int) | str (x : Str) | byt (b : Array UInt8) | flt (b : UInt64) | ref (a : Addr) | ty (n : String)
 deriving DecidableEq
def RelV : V -> Value -> Prop
 | .non, u => u = Value.none
 | .bl b, u => u = Value.bool b
 | .int i, u => ∃ t, u = Value.int i t
 | .str x, u => ∃ t, u = Value.str x t
 | .byt b, u => ∃ t, u = Value.bytes b t
 | .flt b, u => ∃ t, u = Value.float b t
 | .ref a, u => u = Value.ref a
 | .ty n, u => u = Value.type n
abbrev Vals : List V -> List Value -> Prop := Paired RelV
theorem Vals.length {xs : List V} {us : List Value} (r : Vals xs us) : xs.length = us.length := Paired.length r
theorem Vals.get : ∀ {xs : List V} {us : List Value} {i : Nat} {x : V}, Vals xs us -> xs[i]? = some x -> ∃ u, us[i]? = some u /\ RelV x u
 | _, _, _, _, .nil, e => by simp at e
 | _, _, 0, _, .cons r _, e => by simp at e; subst e; exact ⟨_, rfl, r⟩
 | _, _, i + 1, x, .cons _ t, e => by
  obtain ⟨u, h1, h2⟩ := Vals.get (i := i) (x := x) t (by simpa using e)
  exact ⟨u, by simpa using h1, h2⟩
theorem Vals.append : ∀ {xs ys : List V} {us ws : List Value}, Vals xs us -> Vals ys ws -> Vals (xs ++ ys) (us ++ ws)
 | _, _, _, _, .nil, s => s
 | _, _, _, _, .cons r t, s => .cons r (Vals.append t s)
theorem Vals.take : ∀ {xs : List V} {us : List Value} (n : Nat), Vals xs us -> Vals (xs.take n) (us.take n)
 | _, _, 0, _ => .nil
 | _, _, _ + 1, .nil => .nil
 | _, _, n + 1, .cons r t => .cons r (Vals.take n t)
theorem Vals.drop : ∀ {xs : List V} {us : List Value} (n : Nat), Vals xs us -> Vals (xs.drop n) (us.drop n)
 | _, _, 0, r => r
 | _, _, _ + 1, .nil => .nil
 | _, _, n + 1, .cons _ t => Vals.drop n t
def RelO : Option V -> Option Value -> Prop
 | some v, some u => RelV v u
 | none, none => True
 | _, _ => False
def KV {κ : Type} : List (κ × V) -> List (κ × Value) -> Prop := Paired fun (p : κ × V) (q : κ × Value) => p.1 = q.1 /\ RelV p.2 q.2
def kV : Key -> V
 | .inl i => .int i
 | .inr x => .str x
inductive HO where
 | lst (xs : List V)
 | tup (xs : List V)
 | dK (kvs : List (Key × V)) | dT (kvs : List (List Key × V))
 | set (S : Int -> Bool) (n : Nat)
 | ins (C dx : Addr) (fs : List (Str × V))
 | own (x : Addr)
 | xd (fs : List (Str × V))
 | met (f x : Addr)
 | rng (lo hi : Int)
 | frz (o : Obj) (u : HO)
 | tbl (ps : Array Value)
 | ext (φ : Heap -> Prop)
abbrev Hp := Addr -> Option HO
def upd (H : Hp) (a : Addr) (o : HO) : Hp := fun b => if b = a then some o else H b
theorem upd_same {H : Hp} {a : Addr} {o : HO} : upd H a o a = some o := by unfold upd; rw [if_pos rfl]
theorem upd_ne {H : Hp} {a b : Addr} {o : HO} (h : b ≠ a) : upd H a o b = H b := by unfold upd; rw [if_neg h]
theorem upd_upd {H : Hp} {a : Addr} {o u : HO} : upd (upd H a o) a u = upd H a u := by
 funext b; unfold upd; split <;> rfl
theorem ne_of {H : Hp} {a b : Addr} {o u : HO} (h : H a = some o) (h' : H b = some u) (d : o ≠ u) : a ≠ b := by
 intro e; subst e; rw [h] at h'; exact d (Option.some.inj h')
theorem ne_of_none {H : Hp} {a b : Addr} {o : HO} (h : H a = some o) (h' : H b = none) : a ≠ b := by
 intro e; subst e; rw [h] at h'; cases h'
section
variable (P : Program) (w : World)
def ObjOk (H : Hp) (h : Heap) (a : Addr) : HO -> Prop
 | .lst xs => xs.length <= sizeLine /\ ∃ (its : List Value) (n : Nat), Vals xs its /\ h.get? a = some { cls := .type "list", data := .seq its.toArray n }
 | .tup xs => xs.length <= sizeLine /\ ∃ its : List Value, Vals xs its /\ IsTup h a its.toArray
 | .dK kvs => kvs.length <= sizeLine /\ (a == sysModules) = false /\ ∃ vs, KV kvs vs /\ h.DictOf (mixKind P w) a vs
 | .dT kvs => kvs.length <= sizeLine /\ (a == sysModules) = false /\ ∃ xs : List (List Key × Addr × Value),
   Paired (fun (p : List Key × V) (q : List Key × Addr × Value) => p.1 = q.1 /\ H q.2.1 = some (.tup (p.1.map kV)) /\ RelV p.2 q.2.2) kvs xs /\
   ∃ o es ep, h.get? a = some o /\ o.ExactDict /\ o.data = .dict es ep /\ es.toList = xs.map (entryOfKey (tupleKind (mixKind P w))) /\ (xs.map (·.1)).Nodup
 | .set S n => h.SetOf (intKind P w) a S n
 | .ins C dx fs => H dx = some (.own a) /\ fs.length <= 1000 /\ dx ≠ a /\ h.get? a = some (PySem.W.instObj C dx) /\
   ∃ mA, h.Ns1 dx mA /\ (∀ f, RelO (fs.lookup f) (mA f)) /\ PySem.Within mA (fs.map (·.1))
 | .own _ => ∃ o, h.get? a = some o
 | .xd fs => ∃ mA, h.Ns1 a mA /\ ∀ f, RelO (fs.lookup f) (mA f)
 | .rng lo hi => ∃ t u v, h.get? a = some { cls := .type "range", data := .fields #[.int lo t, .int hi u, .int 1 v] }
 | .frz o u => h.get? a = some o /\ ObjOk H h a u
 | .tbl ps => h.get? a = some { cls := .none, data := .fields ps }
 | .met f x => h.get? a = some (PySem.W.methodObj (.ref f) (.ref x))
 | .ext φ => φ h /\ (∃ o, h.get? a = some o) /\ ∀ h1 h2 : Heap, φ h1 -> (∀ o, h1.get? a = some o -> h2.get? a = some o) -> φ h2
def HOk (H : Hp) (h : Heap) : Prop := ∀ a o, H a = some o -> ObjOk P w H h a o
end
section
variable {P : Program} {w : World} {H H' : Hp} {h h' : Heap} {a : Addr} {o : HO}
theorem ObjOk.lt (x : ObjOk P w H h a o) : a < h.objs.size := by
 cases o with
 | lst xs => obtain ⟨_, _, _, _, e⟩ := x; exact Heap.lt_size e
 | tup xs => obtain ⟨_, _, _, p⟩ := x; exact p.lt
 | dK kvs => obtain ⟨_, _, _, _, o, _, _, e, _⟩ := x; exact Heap.lt_size e
 | dT kvs => obtain ⟨_, _, _, _, o, _, _, e, _⟩ := x; exact Heap.lt_size e
 | set S n => obtain ⟨o, _, _, _, e, _⟩ := x; exact Heap.lt_size e
 | ins C dx fs => obtain ⟨_, _, _, e, _⟩ := x; exact Heap.lt_size e
 | own y => obtain ⟨_, e⟩ := x; exact Heap.lt_size e
 | xd fs => obtain ⟨_, ⟨_, _, _, e, _⟩, _⟩ := x; exact Heap.lt_size e
 | rng lo hi => obtain ⟨_, _, _, e⟩ := x; exact Heap.lt_size e
 | frz ob u => obtain ⟨e, _⟩ := x; exact Heap.lt_size e
 | tbl ps => exact Heap.lt_size (show h.get? a = some _ from x)
 | met f y => exact Heap.lt_size (show h.get? a = some _ from x)
 | ext φ => obtain ⟨_, ⟨_, e⟩, _⟩ := x; exact Heap.lt_size e
theorem Paired.mapP {α β : Type} {F G : α -> β -> Prop} : ∀ {l₁ : List α} {l₂ : List β}, Paired F l₁ l₂ -> (∀ a b, F a b -> G a b) -> Paired G l₁ l₂
 | _, _, .nil, _ => .nil
 | _, _, .cons r t, f => .cons (f _ _ r) (Paired.mapP t f)
theorem ObjOk.stay (x : ObjOk P w H h a o) (k : ∀ b u, (b = a \/ H b = some (.own a)) -> h.get? b = some u -> h'.get? b = some u)
  (ho : ∀ b, H b = some (.own a) -> H' b = some (.own a)) (ht : ∀ b xs, H b = some (.tup xs) -> H' b = some (.tup xs)) : ObjOk P w H' h' a o := by
 induction o with
 | lst xs => obtain ⟨z, its, n, r, e⟩ := x; exact ⟨z, its, n, r, k _ _ (.inl rfl) e⟩
 | tup xs => obtain ⟨z, its, r, ob, e, c⟩ := x; exact ⟨z, its, r, ob, k _ _ (.inl rfl) e, c⟩
 | dK kvs => obtain ⟨z, y, vs, r, ob, es, ep, e, c⟩ := x; exact ⟨z, y, vs, r, ob, es, ep, k _ _ (.inl rfl) e, c⟩
 | dT kvs =>
  obtain ⟨z, y, xs, r, ob, es, ep, e, c⟩ := x
  exact ⟨z, y, xs, Paired.mapP r fun p q z => ⟨z.1, ht _ _ z.2.1, z.2.2⟩, ob, es, ep, k _ _ (.inl rfl) e, c⟩
 | set S n => obtain ⟨ob, es, ep, t, e, c⟩ := x; exact ⟨ob, es, ep, t, k _ _ (.inl rfl) e, c⟩
 | ins C dx fs =>
  obtain ⟨d, z, ne, e, mA, ⟨od, es, ep, e2, c⟩, r⟩ := x
  exact ⟨ho _ d, z, ne, k _ _ (.inl rfl) e, mA, ⟨od, es, ep, k _ _ (.inr d) e2, c⟩, r⟩
 | own y => obtain ⟨ob, e⟩ := x; exact ⟨ob, k _ _ (.inl rfl) e⟩
 | xd fs => obtain ⟨mA, ⟨od, es, ep, e, c⟩, r⟩ := x; exact ⟨mA, ⟨od, es, ep, k _ _ (.inl rfl) e, c⟩, r⟩
 | rng lo hi => obtain ⟨t, u, v, e⟩ := x; exact ⟨t, u, v, k _ _ (.inl rfl) e⟩
 | frz ob u ih => obtain ⟨e, q⟩ := x; exact ⟨k _ _ (.inl rfl) e, ih q⟩
 | tbl ps =>
  have e : h.get? a = some { cls := .none, data := .fields ps } := x
  show h'.get? a = some { cls := .none, data := .fields ps }
  exact k a _ (.inl rfl) e
 | met f y =>
  have e : h.get? a = some (PySem.W.methodObj (.ref f) (.ref y)) := x
  show h'.get? a = some (PySem.W.methodObj (.ref f) (.ref y))
  exact k a _ (.inl rfl) e
 | ext φ => obtain ⟨p, ⟨o, e⟩, st⟩ := x; exact ⟨st _ _ p fun o q => k _ _ (.inl rfl) q, ⟨o, k _ _ (.inl rfl) e⟩, st⟩
theorem HOk.lt (x : HOk P w H h) (e : H a = some o) : a < h.objs.size := (x a o e).lt
theorem HOk.fresh (x : HOk P w H h) (e : h.objs.size <= a) : H a = none := by
 cases q : H a with
 | none => rfl
 | some u => exact absurd (Nat.lt_of_lt_of_le (x.lt q) e) (Nat.lt_irrefl _)
theorem HOk.kept (x : HOk P w H h) (k : ∀ b u, h.get? b = some u -> h'.get? b = some u) : HOk P w H h' := fun a o e =>
 (x a o e).stay (fun b u _ q => k b u q) (fun _ q => q) fun _ _ q => q
theorem HOk.laid (x : HOk P w H h) (k : ∀ b u, h.get? b = some u -> h'.get? b = some u) (hp : h.objs.size <= a) (new : ObjOk P w (upd H a o) h' a o) : HOk P w (upd H a o) h' := fun b u e => by
 have hn := x.fresh hp
 by_cases hb : b = a
 ·subst hb; rw [upd_same] at e; cases e; exact new
 ·rw [upd_ne hb] at e
  exact (x b u e).stay (fun c v _ q => k c v q) (fun c q => by rw [upd_ne (ne_of_none q hn)]; exact q) fun c xs q => by rw [upd_ne (ne_of_none q hn)]; exact q
end
def Rd (H : Hp) (a : Addr) (u : HO) : Prop := H a = some u \/ ∃ o, H a = some (.frz o u)
theorem Rd.of {H : Hp} {a : Addr} {u : HO} (h : H a = some u) : Rd H a u := .inl h
theorem Rd.ok {P : Program} {w : World} {H : Hp} {h : Heap} {a : Addr} {u : HO} (r : Rd H a u) (x : HOk P w H h) : ObjOk P w H h a u := by
 rcases r with r | ⟨o, r⟩
 ·exact x a u r
 ·obtain ⟨_, q⟩ := x a _ r
  exact q
def Mut : Option HO -> Prop
 | some (.lst _) => True
 | some (.dK _) => True
 | some (.dT _) => True
 | some (.set _ _) => True
 | some (.ins _ _ _) => True
 | some (.ext _) => True
 | _ => False
section
variable {P : Program} {w : World} {H : Hp} {h h' : Heap} {x e : Addr} {o' : HO}
theorem HOk.write (ok : HOk P w H h) (mu : Mut (H x)) (he : e = x \/ H e = some (.own x)) (k : ∀ b u, b ≠ e -> h.get? b = some u -> h'.get? b = some u) (heo : ∃ u, h'.get? e = some u)
  (new : ObjOk P w (upd H x o') h' x o') : HOk P w (upd H x o') h' := fun b u q => by
 have nown : ∀ c y, H c = some (.own y) -> c ≠ x := fun c y r z => by subst z; rw [r] at mu; exact mu
 have ntup : ∀ c xs, H c = some (.tup xs) -> c ≠ x := fun c xs r z => by subst z; rw [r] at mu; exact mu
 by_cases hb : b = x
 ·subst hb; rw [upd_same] at q; cases q; exact new
 ·rw [upd_ne hb] at q
  by_cases hbe : b = e
  ·have q' : H b = some (.own x) := by
    rcases he with z | z
    ·exact absurd (hbe.trans z) hb
    ·rw [hbe]; exact z
   rw [q] at q'; cases q'
   obtain ⟨v, hv⟩ := heo
   exact ⟨v, by rw [hbe]; exact hv⟩
  ·refine (ok b u q).stay (fun c v hc r => k c v ?_ r) (fun c r => by rw [upd_ne (nown c b r)]; exact r) fun c xs r => by rw [upd_ne (ntup c xs r)]; exact r
   rcases hc with rfl | hc
   ·exact hbe
   ·rintro rfl
    rcases he with z | z
    ·exact nown c b hc z
    ·rw [hc] at z; cases z; exact hb rfl
end
structure Un (fs ex : List Addr) (H H' : Hp) (h h' : Heap) : Prop where
 keep : ∀ b o, h.get? b = some o -> H b = none -> b ∉ fs -> b ∉ ex -> h'.get? b = some o
 slot : ∀ b o, h.get? b = some o -> H b = none -> b ∈ fs -> b ∉ ex -> ∃ sl, h'.get? b = some { o with slots := sl }
 free : ∀ b o, h.get? b = some o -> H b = none -> b ∉ ex -> H' b = none
 there : ∀ b o, h.get? b = some o -> b ∉ ex -> ∃ o', h'.get? b = some o'
 tups : ∀ b xs, H b = some (.tup xs) -> H' b = some (.tup xs)
 frzs : ∀ b o u, H b = some (.frz o u) -> H' b = some (.frz o u)
 tbls : ∀ b ps, H b = some (.tbl ps) -> ∃ more, H' b = some (.tbl (ps ++ more))
section
variable {fs fs' ex ex' : List Addr} {H H1 H2 : Hp} {h h1 h2 h' : Heap} {a x e : Addr} {o : HO}
theorem Un.any (u : Un fs ex H H1 h h1) {b : Addr} {ob : Obj} (q : h.get? b = some ob) (n : H b = none) (hx : b ∉ ex) : ∃ sl, h1.get? b = some { ob with slots := sl } := by
 by_cases hb : b ∈ fs
 ·exact u.slot b ob q n hb hx
 ·exact ⟨ob.slots, u.keep b ob q n hb hx⟩
theorem Un.trans (a : Un fs ex H H1 h h1) (b : Un fs ex H1 H2 h1 h2) : Un fs ex H H2 h h2 where
 keep := fun c ob q n hc hx => b.keep c ob (a.keep c ob q n hc hx) (a.free c ob q n hx) hc hx
 slot := fun c ob q n hc hx => by
  obtain ⟨sl, e1⟩ := a.slot c ob q n hc hx
  obtain ⟨sl', e2⟩ := b.slot c _ e1 (a.free c ob q n hx) hc hx
  exact ⟨sl', e2⟩
 free := fun c ob q n hx => by
  obtain ⟨o', e1⟩ := a.there c ob q hx
  exact b.free c o' e1 (a.free c ob q n hx) hx
 there := fun c ob q hx => by
  obtain ⟨o', e1⟩ := a.there c ob q hx
  exact b.there c o' e1 hx
 tups := fun c xs q => b.tups c xs (a.tups c xs q)
 frzs := fun c ob xs q => b.frzs c ob xs (a.frzs c ob xs q)
 tbls := fun c ps q => by
  obtain ⟨m1, e1⟩ := a.tbls c ps q
  obtain ⟨m2, e2⟩ := b.tbls c _ e1
  exact ⟨m1 ++ m2, by rw [e2, Array.append_assoc]⟩
theorem Un.kept (k : ∀ b u, h.get? b = some u -> h'.get? b = some u) : Un fs ex H H h h' :=
 ⟨fun b ob q _ _ _ => k b ob q, fun b ob q _ _ _ => ⟨ob.slots, k b ob q⟩, fun _ _ _ n _ => n, fun b ob q _ => ⟨ob, k b ob q⟩, fun _ _ q => q, fun _ _ _ q => q, fun _ ps q => ⟨#[], by rw [q]; simp⟩⟩
theorem Un.refl : Un fs ex H H h h := Un.kept fun _ _ q => q
theorem Un.laid (k : ∀ b u, h.get? b = some u -> h'.get? b = some u) (hp : h.objs.size <= a) (hn : H a = none) : Un fs ex H (upd H a o) h h' where
 keep := fun b u q _ _ _ => k b u q
 slot := fun b u q _ _ _ => ⟨u.slots, k b u q⟩
 free := fun b u q n _ => by rw [upd_ne (Nat.ne_of_lt (Nat.lt_of_lt_of_le (Heap.lt_size q) hp))]; exact n
 there := fun b u q _ => ⟨u, k b u q⟩
 tups := fun b xs q => by rw [upd_ne (ne_of_none q hn)]; exact q
 frzs := fun b u xs q => by rw [upd_ne (ne_of_none q hn)]; exact q
 tbls := fun b ps q => ⟨#[], by rw [upd_ne (ne_of_none q hn), q]; simp⟩
theorem Un.write (mu : Mut (H x)) (he : e = x \/ H e = some (.own x)) (k : ∀ b u, b ≠ e -> h.get? b = some u -> h'.get? b = some u) (heo : ∃ u, h'.get? e = some u) : Un fs ex H (upd H x o) h h' := by
 have hx : ∀ b, H b = none -> b ≠ x := fun b n z => by subst z; rw [n] at mu; exact mu
 have hb : ∀ b, H b = none -> b ≠ e := fun b n z => by
  subst z
  rcases he with r | r
  ·exact hx b n r
  ·rw [n] at r; cases r
 have hm : ∀ b u, H b = some u -> ¬ Mut (some u) -> b ≠ x := fun b u q nm z => by subst z; rw [q] at mu; exact nm mu
 refine ⟨fun b u q n _ _ => k b u (hb b n) q, fun b u q n _ _ => ⟨u.slots, k b u (hb b n) q⟩, fun b u q n _ => by rw [upd_ne (hx b n)]; exact n, fun b u q _ => ?_,
  fun b xs q => by rw [upd_ne (hm b _ q fun z => z)]; exact q, fun b u xs q => by rw [upd_ne (hm b _ q fun z => z)]; exact q, fun b ps q => ⟨#[], by rw [upd_ne (hm b _ q fun z => z), q]; simp⟩⟩
 by_cases hbe : b = e
 ·subst hbe; exact heo
 ·exact ⟨u, k b u hbe q⟩
end
def trk (h : Heap) (H : Hp) : List Addr := (List.range h.objs.size).filter fun a => (H a).isSome
def hidT (h : Heap) (H : Hp) : Heap := PySem.W.hideAll h (trk h H)
theorem hidT_size (h : Heap) (H : Hp) : (hidT h H).objs.size = h.objs.size := PySem.W.hideAll_size _ _
theorem hidT_get {h : Heap} {H : Hp} {b : Addr} {o : Obj} (e : h.get? b = some o) (n : H b = none) : (hidT h H).get? b = some o :=
 PySem.W.hideAll_get _ e fun hm => by
  have q : (H b).isSome = true := (List.mem_filter.mp hm).2
  rw [n] at q; simp at q
theorem of_hidT {h : Heap} {H : Hp} {b : Addr} {o : Obj} (e : (hidT h H).get? b = some o) : h.get? b = some o /\ H b = none := by
 have e' : h.get? b = some o := PySem.W.of_hideAll (trk h H) e
 refine ⟨e', ?_⟩
 cases q : H b with
 | none => rfl
 | some x =>
  have hm : b ∈ trk h H := List.mem_filter.mpr ⟨List.mem_range.mpr (Heap.lt_size e'), by simp [q]⟩
  have z : (hidT h H).get? b = none := PySem.W.hideAll_none (trk h H) hm
  rw [z] at e; cases e
def allNews (g h : Heap) (L : Addr) : List (Addr × Obj) := (List.range h.objs.size).filterMap fun a => if a = L \/ (g.get? a).isSome = true then none else (h.get? a).map fun o => (a, o)
def rest (g h : Heap) (L d : Addr) : List (Addr × Obj) := (allNews g h L).filter fun p => decide (p.1 ≠ d)
theorem rest_ne {g h : Heap} {L d : Addr} : ∀ p ∈ rest g h L d, p.1 ≠ d := fun p hp => of_decide_eq_true (List.mem_filter.mp hp).2
end L2
namespace L2
open PySem PySem.Spec PyProof.Rows
structure Mod (K : Fg_) (mg : Str -> Option Value) (base : Heap) : Prop where
 kin : K.In base
 glob : base.Ns mainGlobals mg
 blt : ∃ mb, base.Ns builtinsNs mb /\ ∀ x : Str, x ≠ "__name__" -> mb x = bootBuiltins x
 nolimit : base.NoLimit
structure Cx where
 prog : Program
 w : World
 K : Fg_
 mg : Str -> Option Value
 base : Heap
 A : Around
 N : List Str
 s₀ : Shared
 H₀ : Hp
 env : Env
 outer : List Env
 stack : List Env
 ex : List Addr
 fn : Str -> Bool
 calm : Bool
 pn : List (Addr × Obj)
 xe : Value -> Shared -> Prop
def frs (l : List Env) : List Addr := l.filterMap (·.frame)
abbrev Cx.fs (X : Cx) : List Addr := frs X.outer
def Vis (sc : Scope) (x : Str) : Prop := sc.names.lookup x = some .local \/ sc.names.lookup x = some .cell \/ sc.names.lookup x = some .free
def Loc (sc : Scope) (x : Str) : Prop := sc.names.lookup x = some .local \/ sc.names.lookup x = some .cell
def Look (env : Env) (h : Heap) (m : Str -> Option Value) (x : Str) (u : Value) : Prop :=
 (env.kindOf x = some .local /\ m x = some u) \/ ((env.kindOf x = some .cell \/ env.kindOf x = some .free) /\ ∃ c, env.cells.lookup x = some c /\ h.IsCell c (some u))
structure Cx.Ok (X : Cx) : Prop where
 mod : Mod X.K X.mg X.base
 kind : X.env.scope.kind = .function
 glob : X.env.globals = mainGlobals
 blt : X.env.builtins = builtinsNs
 above : X.s₀.heap.objs.size <= X.env.locals
 inj : ∀ x y c, X.env.cells.lookup x = some c -> X.env.cells.lookup y = some c -> x = y
 has : ∀ x, (X.env.kindOf x = some .cell \/ X.env.kindOf x = some .free) -> ∃ c, X.env.cells.lookup x = some c
 cab : ∀ x c, X.fn x = true -> X.env.cells.lookup x = some c -> X.s₀.heap.objs.size <= c
 hd : X.calm = true -> X.A.handled = none
 frames : X.A.frames = some X.stack
 stk : X.stack = X.outer \/ (X.stack = X.env :: X.outer /\ X.env.frame = some X.env.locals)
 exf : ∀ b ∈ X.ex, b ≠ X.env.locals /\ ∀ x c, X.env.cells.lookup x = some c -> c ≠ b
 bs : ∀ b o, X.base.get? b = some o -> X.s₀.heap.get? b = some o /\ X.H₀ b = none
 bsz : X.base.objs.size <= X.s₀.heap.objs.size
 noex : ∀ b o, X.base.get? b = some o -> b ∉ X.ex
 exfs : ∀ b ∈ X.ex, b ∉ X.fs
 funs : X.s₀.heap.FunFrames X.base X.outer
 frf : ∀ b ∈ X.fs, X.H₀ b = none
structure Inv (X : Cx) (pins : List (Addr × Obj)) (σ : List (Option V)) (H : Hp) (s : Shared) : Prop where
 ok : X.Ok
 os : s.os = X.s₀.os
 bare : AllBare s.gens
 base : Un X.fs X.ex X.H₀ H X.s₀.heap s.heap
 loc : ∃ m, s.heap.Ns X.env.locals m /\ ∀ (i : Nat) (x : Str) (v : V), X.N[i]? = some x -> σ[i]? = some (some v) -> Vis X.env.scope x -> ∃ u, RelV v u /\ Look X.env s.heap m x u
 cell : ∀ x c, X.env.cells.lookup x = some c -> ∃ v, s.heap.IsCell c v
 free : H X.env.locals = none
 freeC : ∀ x c, X.env.cells.lookup x = some c -> H c = none
 pin : ∀ p ∈ X.pn ++ pins, s.heap.get? p.1 = some p.2 /\ H p.1 = none /\ p.1 ≠ X.env.locals /\ p.1 ∉ X.fs /\ ∀ v, p.2.data ≠ .cell v
 hok : HOk X.prog X.w H s.heap
 len : σ.length = X.N.length
section
variable {X : Cx} {pins : List (Addr × Obj)} {σ : List (Option V)} {H H' : Hp} {s : Shared} {h' : Heap}
theorem Cx.Ok.nofr (ok : X.Ok) {b : Addr} {o : Obj} (e : X.base.get? b = some o) : b ∉ X.fs := fun hb => by
 have := (ok.funs.mem hb).1
 rw [e] at this; cases this
theorem Inv.bs (I : Inv X pins σ H s) : ∀ b o, X.base.get? b = some o -> s.heap.get? b = some o /\ H b = none := fun b o e =>
 ⟨I.base.keep b o (I.ok.bs b o e).1 (I.ok.bs b o e).2 (I.ok.nofr e) (I.ok.noex b o e), I.base.free b o (I.ok.bs b o e).1 (I.ok.bs b o e).2 (I.ok.noex b o e)⟩
theorem Inv.bk (I : Inv X pins σ H s) : ∀ b o, X.base.get? b = some o -> s.heap.get? b = some o := fun b o e => (I.bs b o e).1
theorem Inv.mod (I : Inv X pins σ H s) : Mod X.K X.mg X.base := I.ok.mod
theorem Inv.kIn (I : Inv X pins σ H s) : X.K.In s.heap := I.ok.mod.kin.keeps I.bk
theorem Inv.lt (I : Inv X pins σ H s) : X.env.locals < s.heap.objs.size := let ⟨_, hn, _⟩ := I.loc; hn.lt
theorem Inv.sz (I : Inv X pins σ H s) : X.s₀.heap.objs.size <= s.heap.objs.size := Nat.le_trans I.ok.above (Nat.le_of_lt I.lt)
theorem Inv.nofs (I : Inv X pins σ H s) {a : Addr} (h : s.heap.objs.size <= a) : a ∉ X.fs := fun hb => by
 obtain ⟨_, o, ho, _⟩ := I.ok.funs.mem hb
 exact absurd (Nat.lt_of_lt_of_le (Heap.lt_size ho) (Nat.le_trans I.sz h)) (Nat.lt_irrefl _)
theorem Inv.cne (I : Inv X pins σ H s) : ∀ x c, X.env.cells.lookup x = some c -> c ≠ X.env.locals := fun x c e z => by
 obtain ⟨v, o, ho, hd⟩ := I.cell x c e
 obtain ⟨m, ⟨o', es, ep, ho', hd', _⟩, _⟩ := I.loc
 rw [z, ho'] at ho; cases ho; rw [hd'] at hd; cases hd
theorem Inv.funs (I : Inv X pins σ H s) : s.heap.FunFrames X.base X.outer := by
 have all : ∀ (l : List Env), (∀ b ∈ frs l, b ∈ X.fs) -> X.s₀.heap.FunFrames X.base l -> s.heap.FunFrames X.base l := by
  intro l
  induction l with
  | nil => intro _ _; trivial
  | cons env r ih =>
   intro hs hl
   obtain ⟨hk, ⟨L, o, hf, hn, ho, hd⟩, hr⟩ := hl
   have hL : L ∈ X.fs := hs L (by unfold frs; rw [List.filterMap_cons, hf]; exact List.mem_cons_self)
   obtain ⟨sl, e⟩ := I.base.slot L o ho (I.ok.frf L hL) hL fun z => I.ok.exfs L z hL
   exact ⟨hk, ⟨L, _, hf, hn, e, hd⟩, ih (fun b hb => hs b (by unfold frs; rw [List.filterMap_cons, hf]; exact List.mem_cons_of_mem _ hb)) hr⟩
 exact all X.outer (fun _ hb => hb) I.ok.funs
theorem Inv.stack (I : Inv X pins σ H s) : s.heap.FunFrames X.base X.stack := by
 rcases I.ok.stk with e | ⟨e, hf⟩
 ·rw [e]; exact I.funs
 ·rw [e]
  obtain ⟨m, hn, _⟩ := I.loc
  refine .cons (by rw [I.ok.kind]; decide) hf hn ?_ I.funs
  exact Heap.get?_none_of_le (Nat.le_trans I.ok.bsz I.ok.above)
theorem Inv.stkSub (I : Inv X pins σ H s) : ∀ b ∈ frs X.stack, b ∈ X.env.locals :: X.fs := fun b hb => by
 rcases I.ok.stk with e | ⟨e, hf⟩
 ·rw [e] at hb; exact List.mem_cons_of_mem _ hb
 ·rw [e] at hb
  unfold frs at hb
  rw [List.filterMap_cons, hf] at hb
  exact hb
theorem Inv.stkFree (I : Inv X pins σ H s) : ∀ b ∈ frs X.stack, H b = none := fun b hb => by
 rcases List.mem_cons.mp (I.stkSub b hb) with e | hb
 ·rw [e]; exact I.free
 ·obtain ⟨_, o, ho, _⟩ := I.ok.funs.mem hb
  exact I.base.free b o ho (I.ok.frf b hb) fun z => I.ok.exfs b z hb
theorem Inv.step {g' : Array GenState} {t' : Nat} {d' : Drawn} {ch : List Addr} (I : Inv X pins σ H s)
  (hch : ∀ b ∈ ch, (b ∈ X.ex \/ X.s₀.heap.objs.size <= b) /\ b ≠ X.env.locals /\ (∀ x c, X.env.cells.lookup x = some c -> c ≠ b) /\ ∀ p ∈ X.pn ++ pins, p.1 ≠ b)
  (keep : ∀ b o, b ≠ X.env.locals -> b ∉ X.fs -> b ∉ ch -> s.heap.get? b = some o -> H b = none -> h'.get? b = some o)
  (slot : ∀ b o, b ≠ X.env.locals -> b ∈ X.fs -> b ∉ ch -> s.heap.get? b = some o -> H b = none -> ∃ sl, h'.get? b = some { o with slots := sl }) (free : ∀ b o, b ∉ ch -> s.heap.get? b = some o -> H b = none -> H' b = none)
  (there : ∀ b o, b ∉ ch -> s.heap.get? b = some o -> ∃ o', h'.get? b = some o')
  (tups : ∀ b xs, H b = some (.tup xs) -> H' b = some (.tup xs)) (frzs : ∀ b o u, H b = some (.frz o u) -> H' b = some (.frz o u)) (tbls : ∀ b ps, H b = some (.tbl ps) -> ∃ more, H' b = some (.tbl (ps ++ more)))
  (ns : ∀ m, s.heap.Ns X.env.locals m -> h'.Ns X.env.locals m) (hok : HOk X.prog X.w H' h') (hg : AllBare g') :
  Inv X pins σ H' { s with heap := h', gens := g', drawn := d', toks := t' } := by
 have neL : ∀ b o, X.s₀.heap.get? b = some o -> b ≠ X.env.locals := fun b o e => Nat.ne_of_lt (Nat.lt_of_lt_of_le (Heap.lt_size e) I.ok.above)
 have neC : ∀ b o, X.s₀.heap.get? b = some o -> b ∉ X.ex -> b ∉ ch := fun b o e hx hb => by
  rcases (hch b hb).1 with z | z
  ·exact hx z
  ·exact absurd (Nat.lt_of_lt_of_le (Heap.lt_size e) z) (Nat.lt_irrefl _)
 have cellK : ∀ x c, X.env.cells.lookup x = some c -> ∀ v, s.heap.IsCell c v -> h'.IsCell c v := fun x c e v ⟨o, ho, hd⟩ => by
  have nch : c ∉ ch := fun z => (hch c z).2.2.1 x c e rfl
  by_cases hc : c ∈ X.fs
  ·obtain ⟨sl, q⟩ := slot c o (I.cne x c e) hc nch ho (I.freeC x c e)
   exact ⟨_, q, hd⟩
  ·exact ⟨o, keep c o (I.cne x c e) hc nch ho (I.freeC x c e), hd⟩
 refine ⟨I.ok, I.os, hg, ⟨fun b o e n hb hx => ?_, fun b o e n hb hx => ?_, fun b o e n hx => ?_, fun b o e hx => ?_, fun b xs e => tups b xs (I.base.tups b xs e), fun b o xs e => frzs b o xs (I.base.frzs b o xs e), fun b ps e => ?_⟩, ?_, fun x c e => ?_, ?_, fun x c e => ?_, fun p hp => ?_, hok, I.len⟩
 ·exact keep b o (neL b o e) hb (neC b o e hx) (I.base.keep b o e n hb hx) (I.base.free b o e n hx)
 ·obtain ⟨sl, e1⟩ := I.base.slot b o e n hb hx
  obtain ⟨sl', e2⟩ := slot b _ (neL b o e) hb (neC b o e hx) e1 (I.base.free b o e n hx)
  exact ⟨sl', e2⟩
 ·obtain ⟨o', e1⟩ := I.base.there b o e hx
  exact free b o' (neC b o e hx) e1 (I.base.free b o e n hx)
 ·obtain ⟨o', e1⟩ := I.base.there b o e hx
  exact there b o' (neC b o e hx) e1
 ·obtain ⟨m1, e1⟩ := I.base.tbls b ps e
  obtain ⟨m2, e2⟩ := tbls b _ e1
  exact ⟨m1 ++ m2, by rw [e2, Array.append_assoc]⟩
 ·obtain ⟨m, hn, hl⟩ := I.loc
  refine ⟨m, ns m hn, fun i x v e1 e2 e3 => ?_⟩
  obtain ⟨u, r, l⟩ := hl i x v e1 e2 e3
  refine ⟨u, r, ?_⟩
  rcases l with l | ⟨k, c, e, z⟩
  ·exact .inl l
  ·exact .inr ⟨k, c, e, cellK x c e _ z⟩
 ·obtain ⟨v, z⟩ := I.cell x c e
  exact ⟨v, cellK x c e v z⟩
 ·obtain ⟨m, ⟨o, _, _, ho, _⟩, _⟩ := I.loc
  exact free _ o (fun z => (hch _ z).2.1 rfl) ho I.free
 ·obtain ⟨v, o, ho, hd⟩ := I.cell x c e
  exact free c o (fun z => (hch c z).2.2.1 x c e rfl) ho (I.freeC x c e)
 ·obtain ⟨e, n, ne, nf, d⟩ := I.pin p hp
  have nch : p.1 ∉ ch := fun z => (hch p.1 z).2.2.2 p hp rfl
  exact ⟨keep p.1 p.2 ne nf nch e n, free p.1 p.2 nch e n, ne, nf, d⟩
theorem Inv.un {t' : Nat} (I : Inv X pins σ H s) (u : Un X.fs [] H H' s.heap h') (hok : HOk X.prog X.w H' h') : Inv X pins σ H' { s with heap := h', toks := t' } := by
 obtain ⟨m, ⟨o, es, ep, ho, r⟩, _⟩ := id I.loc
 obtain ⟨sl, hL⟩ := u.any ho I.free (by simp)
 exact I.step (g' := s.gens) (d' := s.drawn) (ch := []) (fun _ z => nomatch z) (fun b o _ hb _ e n => u.keep b o e n hb (by simp)) (fun b o _ hb _ e n => u.slot b o e n hb (by simp)) (fun b o _ e n => u.free b o e n (by simp)) (fun b o _ e => u.there b o e (by simp)) u.tups u.frzs u.tbls (fun m' hm => by
  obtain ⟨o', es', ep', ho', r'⟩ := hm
  rw [ho] at ho'; cases ho'
  exact ⟨_, es', ep', hL, r'⟩) hok I.bare
theorem Inv.call {g' : Array GenState} {t' : Nat} {d' : Drawn} {ch : List Addr} (I : Inv X pins σ H s) (u : Un (frs X.stack) ch H H' s.heap h') (hok : HOk X.prog X.w H' h') (hg : AllBare g')
  (hch : ∀ b ∈ ch, (b ∈ X.ex \/ X.s₀.heap.objs.size <= b) /\ b ≠ X.env.locals /\ (∀ x c, X.env.cells.lookup x = some c -> c ≠ b) /\ ∀ p ∈ X.pn ++ pins, p.1 ≠ b) :
  Inv X pins σ H' { s with heap := h', gens := g', drawn := d', toks := t' } := by
 obtain ⟨m, ⟨o, es, ep, ho, r⟩, _⟩ := id I.loc
 obtain ⟨sl, hL⟩ := u.any ho I.free fun z => (hch _ z).2.1 rfl
 exact I.step (ch := ch) hch (fun b o hL hb hc e n => u.keep b o e n (fun z => (List.mem_cons.mp (I.stkSub b z)).elim hL hb) hc) (fun b o _ _ hc e n => u.any e n hc) (fun b o hc e n => u.free b o e n hc) (fun b o hc e => u.there b o e hc) u.tups u.frzs u.tbls (fun m' hm => by
  obtain ⟨o', es', ep', ho', r'⟩ := hm
  rw [ho] at ho'; cases ho'
  exact ⟨_, es', ep', hL, r'⟩) hok hg
theorem Inv.turned {t' : Nat} {it : Addr} (I : Inv X pins σ H s) (k : ∀ b o, b ≠ it -> s.heap.get? b = some o -> h'.get? b = some o) (hn : H it = none) (hL : it ≠ X.env.locals)
  (h1 : it ∈ X.ex \/ X.s₀.heap.objs.size <= it) (h2 : ∀ x c, X.env.cells.lookup x = some c -> c ≠ it) (h3 : ∀ p ∈ X.pn ++ pins, p.1 ≠ it) : Inv X pins σ H { s with heap := h', toks := t' } := by
 have nit : ∀ b u, H b = some u -> b ≠ it := fun b u e z => by rw [z, hn] at e; cases e
 refine I.step (g' := s.gens) (d' := s.drawn) (ch := [it]) (fun b hb => ?_) (fun b o _ _ hc e _ => k b o (fun z => hc (by simp [z])) e) (fun b o _ _ hc e _ => ⟨o.slots, k b o (fun z => hc (by simp [z])) e⟩) (fun _ _ _ _ n => n)
  (fun b o hc e => ⟨o, k b o (fun z => hc (by simp [z])) e⟩) (fun _ _ e => e) (fun _ _ _ e => e) (fun b ps e => ⟨#[], by rw [e]; simp⟩) (fun m hm => ?_) (fun b u e => ?_) I.bare
 ·have e : b = it := by simpa using hb
  subst e
  exact ⟨h1, hL, h2, h3⟩
 ·obtain ⟨o, es, ep, ho, r⟩ := hm
  exact ⟨o, es, ep, k _ o (Ne.symm hL) ho, r⟩
 ·refine (I.hok b u e).stay (fun c v hc q => k c v ?_ q) (fun _ q => q) fun _ _ q => q
  rcases hc with z | z
  ·rw [z]; exact nit b u e
  ·exact nit c _ z
theorem Inv.tok (I : Inv X pins σ H s) (t : Nat) : Inv X pins σ H { s with toks := t } := I.un (h' := s.heap) (t' := t) Un.refl I.hok
theorem Inv.kept {t' : Nat} (I : Inv X pins σ H s) (k : ∀ b u, s.heap.get? b = some u -> h'.get? b = some u) : Inv X pins σ H { s with heap := h', toks := t' } := I.un (Un.kept k) (I.hok.kept k)
theorem Inv.laid {a : Addr} {o : HO} {t' : Nat} (I : Inv X pins σ H s) (k : ∀ b u, s.heap.get? b = some u -> h'.get? b = some u) (hp : s.heap.objs.size <= a) (new : ObjOk X.prog X.w (upd H a o) h' a o) :
  Inv X pins σ (upd H a o) { s with heap := h', toks := t' } := I.un (Un.laid k hp (I.hok.fresh hp)) (I.hok.laid k hp new)
theorem Inv.write {x e : Addr} {o : HO} {t' : Nat} (I : Inv X pins σ H s) (mu : Mut (H x)) (he : e = x \/ H e = some (.own x)) (k : ∀ b u, b ≠ e -> s.heap.get? b = some u -> h'.get? b = some u) (heo : ∃ u, h'.get? e = some u)
  (new : ObjOk X.prog X.w (upd H x o) h' x o) : Inv X pins σ (upd H x o) { s with heap := h', toks := t' } := I.un (Un.write mu he k heo) (I.hok.write mu he k heo new)
theorem Inv.pins_of {pins' : List (Addr × Obj)} (I : Inv X pins σ H s) (h : ∀ p ∈ pins', s.heap.get? p.1 = some p.2 /\ H p.1 = none /\ p.1 ≠ X.env.locals /\ p.1 ∉ X.fs /\ ∀ v, p.2.data ≠ .cell v) : Inv X pins' σ H s :=
 ⟨I.ok, I.os, I.bare, I.base, I.loc, I.cell, I.free, I.freeC, fun p hp => (List.mem_append.mp hp).elim (fun z => I.pin p (List.mem_append_left _ z)) (h p), I.hok, I.len⟩
theorem nodup_ix {N : List Str} (hN : N.Nodup) {i j : Nat} {x : Str} (a : N[i]? = some x) (b : N[j]? = some x) : i = j := by
 obtain ⟨h1, e1⟩ := List.getElem?_eq_some_iff.mp a
 obtain ⟨h2, e2⟩ := List.getElem?_eq_some_iff.mp b
 exact (List.getElem_inj hN).mp (e1.trans e2.symm)
theorem store_ok2 {M : Model} {A : Around} {E : Value -> Shared -> Prop} {i : Nat} {x : Str} {v : V} {u : Value} {Q : Unit -> Shared -> Prop} (I : Inv X pins σ H s) (hN : X.N.Nodup) (hi : X.N[i]? = some x) (hx : Loc X.env.scope x) (r : RelV v u)
  (h : ∀ s', Inv X pins (σ.set i (some v)) H s' -> (∃ a, Heap.SameBut a s.heap s'.heap /\ (a = X.env.locals \/ X.env.cells.lookup x = some a)) -> Q () s') (hf : X.fn x = true \/ X.env.scope.names.lookup x = some .local := by first | exact .inl rfl | exact .inr rfl | assumption) : wpAny M A (storeName X.env x u) Q E s := by
 obtain ⟨m, hn, hl⟩ := id I.loc
 have hcls : (X.env.scope.kind == .class || (X.env.scope.kind == .module && X.env.locals != X.env.globals)) = false := by rw [I.ok.kind]; rfl
 have hiσ : i < σ.length := by rw [I.len]; exact (List.getElem?_eq_some_iff.mp hi).1
 have cne := I.cne
 have tracked : ∀ {a : Addr} {h' : Heap}, (∃ o, s.heap.get? a = some o /\ H a = none) -> Heap.SameBut a s.heap h' -> HOk X.prog X.w H h' := fun {a h'} ha hs b ob e => by
  obtain ⟨_, _, hfree⟩ := ha
  refine (I.hok b ob e).stay (fun c w' hc q => (hs.2 c ?_).trans q) (fun _ q => q) fun _ _ q => q
  rintro rfl
  rcases hc with rfl | hc
  ·rw [hfree] at e; cases e
  ·rw [hfree] at hc; cases hc
 rcases hx with hk | hk
 ·refine wpAny_storeName_local hk hn (fun h' hn' hs => ?_) hcls
  obtain ⟨oL, _, _, hoL, _⟩ := id hn
  refine h _ ⟨I.ok, I.os, I.bare, ⟨fun b o e n hb hx => ?_, fun b o e n hb hx => ?_, I.base.free, fun b o e hx => ?_, I.base.tups, I.base.frzs, I.base.tbls⟩, ⟨_, hn', fun j y v' e1 e2 e3 => ?_⟩, fun y c e => ?_, I.free, I.freeC, fun p hp => ?_, tracked ⟨oL, hoL, I.free⟩ hs, by simpa using I.len⟩ ⟨_, hs, .inl rfl⟩
  ·exact (hs.2 b (Nat.ne_of_lt (Nat.lt_of_lt_of_le (Heap.lt_size e) I.ok.above))).trans (I.base.keep b o e n hb hx)
  ·obtain ⟨sl, e1⟩ := I.base.slot b o e n hb hx
   exact ⟨sl, (hs.2 b (Nat.ne_of_lt (Nat.lt_of_lt_of_le (Heap.lt_size e) I.ok.above))).trans e1⟩
  ·obtain ⟨o', e1⟩ := I.base.there b o e hx
   exact ⟨o', (hs.2 b (Nat.ne_of_lt (Nat.lt_of_lt_of_le (Heap.lt_size e) I.ok.above))).trans e1⟩
  ·by_cases hj : j = i
   ·subst hj
    rw [hi] at e1; cases e1
    rw [List.getElem?_set_self hiσ] at e2
    cases e2
    exact ⟨u, r, .inl ⟨hk, by simp⟩⟩
   ·rw [List.getElem?_set_ne (Ne.symm hj)] at e2
    obtain ⟨u', r', q⟩ := hl j y v' e1 e2 e3
    refine ⟨u', r', ?_⟩
    rcases q with ⟨k, e⟩ | ⟨k, c, e, z⟩
    ·refine .inl ⟨k, ?_⟩
     have : y ≠ x := fun e => hj (nodup_ix hN e1 (e ▸ hi))
     simp [this, e]
    ·exact .inr ⟨k, c, e, z.sameBut hs (cne y c e)⟩
  ·obtain ⟨w', z⟩ := I.cell y c e
   exact ⟨w', z.sameBut hs (cne y c e)⟩
  ·obtain ⟨e, n, ne, nf, d⟩ := I.pin p hp
   exact ⟨(hs.2 p.1 ne).trans e, n, ne, nf, d⟩
 ·have hfn : X.fn x = true := by
   rcases hf with z | z
   ·exact z
   ·rw [z] at hk; cases hk
  obtain ⟨c, hc⟩ := I.ok.has x (.inl hk)
  obtain ⟨w', z⟩ := I.cell x c hc
  refine wpAny_storeName_cell I.ok.kind hk hc z (fun h' hc' hs => ?_)
  obtain ⟨oc, hoc, hocd⟩ := id z
  refine h { s with heap := h' } ⟨I.ok, I.os, I.bare, ⟨fun b o e n hb hx => ?_, fun b o e n hb hx => ?_, I.base.free, fun b o e hx => ?_, I.base.tups, I.base.frzs, I.base.tbls⟩, ⟨m, hn.sameBut hs (Ne.symm (cne x c hc)), fun j y v' e1 e2 e3 => ?_⟩, fun y c' e => ?_, I.free, I.freeC, fun p hp => ?_, tracked ⟨oc, hoc, I.freeC x c hc⟩ hs, by simpa using I.len⟩ ⟨c, hs, .inr hc⟩
  ·exact (hs.2 b (Nat.ne_of_lt (Nat.lt_of_lt_of_le (Heap.lt_size e) (I.ok.cab x c hfn hc)))).trans (I.base.keep b o e n hb hx)
  ·obtain ⟨sl, e1⟩ := I.base.slot b o e n hb hx
   exact ⟨sl, (hs.2 b (Nat.ne_of_lt (Nat.lt_of_lt_of_le (Heap.lt_size e) (I.ok.cab x c hfn hc)))).trans e1⟩
  ·obtain ⟨o', e1⟩ := I.base.there b o e hx
   exact ⟨o', (hs.2 b (Nat.ne_of_lt (Nat.lt_of_lt_of_le (Heap.lt_size e) (I.ok.cab x c hfn hc)))).trans e1⟩
  ·by_cases hj : j = i
   ·subst hj
    rw [hi] at e1; cases e1
    rw [List.getElem?_set_self hiσ] at e2
    cases e2
    exact ⟨u, r, .inr ⟨.inl hk, c, hc, hc'⟩⟩
   ·rw [List.getElem?_set_ne (Ne.symm hj)] at e2
    obtain ⟨u', r', q⟩ := hl j y v' e1 e2 e3
    refine ⟨u', r', ?_⟩
    rcases q with q | ⟨k, c', e, z'⟩
    ·exact .inl q
    ·refine .inr ⟨k, c', e, z'.sameBut hs ?_⟩
     rintro rfl
     exact hj (nodup_ix hN e1 (I.ok.inj _ _ _ e hc ▸ hi))
  ·by_cases hcc : c' = c
   ·subst hcc; exact ⟨_, hc'⟩
   ·obtain ⟨w2, z2⟩ := I.cell y c' e
    exact ⟨w2, z2.sameBut hs hcc⟩
  ·obtain ⟨e, n, ne, nf, d⟩ := I.pin p hp
   refine ⟨(hs.2 p.1 ?_).trans e, n, ne, nf, d⟩
   intro q
   rw [q, hoc] at e
   have q' : oc = p.2 := Option.some.inj e
   exact d w' (by rw [<- q']; exact hocd)
theorem store_ok {M : Model} {A : Around} {E : Value -> Shared -> Prop} {i : Nat} {x : Str} {v : V} {u : Value} {Q : Unit -> Shared -> Prop} (I : Inv X pins σ H s) (hN : X.N.Nodup) (hi : X.N[i]? = some x) (hx : Loc X.env.scope x) (r : RelV v u)
  (h : ∀ s', Inv X pins (σ.set i (some v)) H s' -> Q () s') (hf : X.fn x = true \/ X.env.scope.names.lookup x = some .local := by first | exact .inl rfl | exact .inr rfl | assumption) : wpAny M A (storeName X.env x u) Q E s :=
 store_ok2 I hN hi hx r (fun s' I' _ => h s' I') hf
theorem Inv.call' {s' : Shared} {ch : List Addr} (I : Inv X pins σ H s) (ho : s'.os = s.os) (u : Un (frs X.stack) ch H H' s.heap s'.heap) (hok : HOk X.prog X.w H' s'.heap) (hg : AllBare s'.gens)
  (hch : ∀ b ∈ ch, (b ∈ X.ex \/ X.s₀.heap.objs.size <= b) /\ b ≠ X.env.locals /\ (∀ x c, X.env.cells.lookup x = some c -> c ≠ b) /\ ∀ p ∈ X.pn ++ pins, p.1 ≠ b) : Inv X pins σ H' s' := by
 obtain ⟨h', g', d', t', o'⟩ := s'
 have e : o' = s.os := ho
 subst e
 exact I.call (g' := g') (t' := t') (d' := d') u hok hg hch
end
abbrev XK := Value -> Option Addr -> Hp -> Prop
abbrev St := List (Option V)
abbrev VK := V -> Hp -> Prop
abbrev TE := St -> Hp -> VK -> Prop
abbrev TT := St -> Hp -> (Bool -> Hp -> Prop) -> Prop
abbrev TA := St -> Hp -> (List V -> Hp -> Prop) -> Prop
structure Ends where
 nx : St -> Hp -> Prop
 rt : VK
 bk : St -> Hp -> Prop := fun _ _ => False
 ct : St -> Hp -> Prop := fun _ _ => False
abbrev TS := Ends -> St -> Hp -> Prop
def EP (X : Cx) (pins : List (Addr × Obj)) (σ : St) (Q : VK) (u : Value) (s' : Shared) : Prop := ∃ v H', Inv X pins σ H' s' /\ RelV v u /\ Q v H'
def TP (X : Cx) (pins : List (Addr × Obj)) (σ : St) (Q : Bool -> Hp -> Prop) (b : Bool) (s' : Shared) : Prop := ∃ H', Inv X pins σ H' s' /\ Q b H'
def AP (X : Cx) (pins : List (Addr × Obj)) (σ : St) (Q : List V -> Hp -> Prop) (us : List Value) (s' : Shared) : Prop := ∃ vs H', Inv X pins σ H' s' /\ Vals vs us /\ Q vs H'
def SP (X : Cx) (pins : List (Addr × Obj)) (D : Ends) (f : Flow) (s' : Shared) : Prop :=
 match f with
 | .next => ∃ σ' H', Inv X pins σ' H' s' /\ D.nx σ' H'
 | .brk => ∃ σ' H', Inv X pins σ' H' s' /\ D.bk σ' H'
 | .cont => ∃ σ' H', Inv X pins σ' H' s' /\ D.ct σ' H'
 | .ret u => ∃ v σ' H', Inv X pins σ' H' s' /\ RelV v u /\ D.rt v H'
def PE (X : Cx) (e : Expr) (t : TE) : Prop :=
 ∀ (pins : List (Addr × Obj)) (s : Shared) (σ : St) (H : Hp) (Q : VK), Inv X pins σ H s -> t σ H Q -> wpAny (model X.prog X.w) X.A (eval e X.env) (EP X pins σ Q) X.xe s
def PT (X : Cx) (e : Expr) (t : TT) : Prop :=
 ∀ (pins : List (Addr × Obj)) (s : Shared) (σ : St) (H : Hp) (Q : Bool -> Hp -> Prop), Inv X pins σ H s -> t σ H Q -> wpAny (model X.prog X.w) X.A (isTrue e X.env (eval e X.env)) (TP X pins σ Q) X.xe s
def PW (X : Cx) (e : Expr) (t : TT) : Prop :=
 ∀ (whole : Sem Value) (pins : List (Addr × Obj)) (s : Shared) (σ : St) (H : Hp) (Q : Bool -> Hp -> Prop), Inv X pins σ H s -> t σ H Q -> wpAny (model X.prog X.w) X.A (isTrue e X.env whole) (TP X pins σ Q) X.xe s
theorem PW.pt {X : Cx} {e : Expr} {t : TT} (h : PW X e t) : PT X e t := h _
def PA (X : Cx) (es : List Expr) (t : TA) : Prop :=
 ∀ (pos : Pos) (pins : List (Addr × Obj)) (s : Shared) (σ : St) (H : Hp) (Q : List V -> Hp -> Prop), Inv X pins σ H s -> t σ H Q -> wpAny (model X.prog X.w) X.A (spliced (backTo pos (starEach es X.env))) (AP X pins σ Q) X.xe s
def PS (X : Cx) (st : Stmt) (t : TS) : Prop :=
 ∀ (pins : List (Addr × Obj)) (s : Shared) (σ : St) (H : Hp) (D : Ends), Inv X pins σ H s -> t D σ H -> wpAny (model X.prog X.w) X.A (exec st X.env) (SP X pins D) X.xe s
def PSs (X : Cx) (st : List Stmt) (t : TS) : Prop :=
 ∀ (pins : List (Addr × Obj)) (s : Shared) (σ : St) (H : Hp) (D : Ends), Inv X pins σ H s -> t D σ H -> wpAny (model X.prog X.w) X.A (execs st X.env) (SP X pins D) X.xe s
theorem thn {α : Type} {t : Sem α} {Q Q' : α -> Shared -> Prop} {M : Model} {A : Around} {E : Value -> Shared -> Prop} {s : Shared} (h : wpAny M A t Q E s) (hQ : ∀ a s, Q a s -> Q' a s) : wpAny M A t Q' E s := wpAny_mono h hQ fun _ _ x => x
end L2
namespace L2
open PySem PySem.Spec PyProof.Rows
section
variable {X : Cx}
def tVar (i : Nat) : TE := fun σ H Q => ∃ v, σ[i]? = some (some v) /\ Q v H
def tC (v : V) : TE := fun _ H Q => Q v H
theorem pe_var {i : Nat} {x : Str} {pos : Pos} (hN : X.N[i]? = some x) (hv : Vis X.env.scope x) (hd : (x == ("__debug__" : Str)) = false := by decide) (hcd : (x == ("__classdict__" : Str)) = false := by decide) : PE X (.Name x pos) (tVar i) := by
 intro pins s σ H Q I h
 obtain ⟨v, e, h⟩ := h
 obtain ⟨m, hn, hl⟩ := I.loc
 obtain ⟨u, r, l⟩ := hl i x v hN e hv
 have fin : EP X pins σ Q u s := ⟨v, H, I, r, h⟩
 rcases l with ⟨hk, hm⟩ | ⟨hk, c, hc, hcell⟩
 ·exact wpAny_Name (wpAny_loadName_local I.ok.kind hk hn hm fin) hd
 ·rcases hk with hk | hk
  ·exact wpAny_Name (wpAny_loadName_cell I.ok.kind hk hc hcell fin) hd
  ·exact wpAny_Name (wpAny_loadName_free I.ok.kind hk hc hcell fin hcd) hd
theorem pe_int {i j pos} : PE X (.Constant (.int i) j pos) (tC (.int i)) := fun _ _ _ H _ I h => wpAny_Constant_int ⟨.int i, H, I.tok _, ⟨_, rfl⟩, h⟩
theorem pe_bl {b j pos} : PE X (.Constant (.bool b) j pos) (tC (.bl b)) := fun _ _ _ H _ I h => Constant_bool ⟨.bl b, H, I, rfl, h⟩
theorem pe_non {j pos} : PE X (.Constant .none j pos) (tC .non) := fun _ _ _ H _ I h => Constant_none ⟨.non, H, I, rfl, h⟩
theorem pe_str {x j pos} : PE X (.Constant (.str x) j pos) (tC (.str x)) := fun _ _ _ H _ I h => Calls.Constant_str ⟨.str x, H, I.tok _, ⟨_, rfl⟩, h⟩
def Gl (X : Cx) (x : Str) : Prop := X.env.kindOf x = some .globalImplicit
theorem ld_glob {E : Value -> Shared -> Prop} {pins : List (Addr × Obj)} {s : Shared} {σ : St} {H : Hp} {x : Str} {u : Value} {pos : Pos} {Q : Value -> Shared -> Prop} (I : Inv X pins σ H s) (hg : Gl X x) (hm : X.mg x = some u) (h : Q u s)
  (hd : (x == ("__debug__" : Str)) = false := by decide) : wpAny (model X.prog X.w) X.A (eval (.Name x pos) X.env) Q E s :=
 Calls.Name_function_global I.ok.kind hg (Calls.loadGlobal_global (by rw [I.ok.glob]; exact I.mod.glob.keeps I.bk) hm h) hd
theorem ld_blt {E : Value -> Shared -> Prop} {pins : List (Addr × Obj)} {s : Shared} {σ : St} {H : Hp} {x : Str} {u : Value} {pos : Pos} {Q : Value -> Shared -> Prop} (I : Inv X pins σ H s) (hg : Gl X x) (hm : X.mg x = none) (hv : bootBuiltins x = some u) (h : Q u s)
  (hn : x ≠ "__name__" := by decide) (hd : (x == ("__debug__" : Str)) = false := by decide) : wpAny (model X.prog X.w) X.A (eval (.Name x pos) X.env) Q E s := by
 obtain ⟨mb, h1, h2⟩ := I.mod.blt
 exact Calls.Name_function_global I.ok.kind hg (Calls.loadGlobal_builtin (by rw [I.ok.glob]; exact I.mod.glob.keeps I.bk) hm (by rw [I.ok.blt]; exact h1.keeps I.bk) ((h2 x hn).trans hv) h) hd
theorem pe_glob {x : Str} {v : V} {u : Value} {pos : Pos} (hg : Gl X x) (hm : X.mg x = some u) (r : RelV v u) (hd : (x == ("__debug__" : Str)) = false := by decide) : PE X (.Name x pos) (tC v) :=
 fun _ _ _ H _ I h => ld_glob I hg hm ⟨v, H, I, r, h⟩ hd
theorem pe_bltn {x : Str} {v : V} {u : Value} {pos : Pos} (hg : Gl X x) (hm : X.mg x = none) (hv : bootBuiltins x = some u) (r : RelV v u) (hn : x ≠ "__name__" := by decide) (hd : (x == ("__debug__" : Str)) = false := by decide) : PE X (.Name x pos) (tC v) :=
 fun _ _ _ H _ I h => ld_blt I hg hm hv ⟨v, H, I, r, h⟩ hn hd
variable {a b : Expr} {ta tb : TE} {pos : Pos}
def tB (t : TE) : TT := fun σ H Q => t σ H fun x H1 => ∃ c, x = .bl c /\ Q c H1
theorem pt_val {e : Expr} {t : TE} (h : PE X e t) (he : ∀ whole, isTrue e X.env whole = (do let v <- whole; standAt e.pos; holding [v] (truthy v)) := by intro _; rfl) : PT X e (tB t) := by
 intro pins s σ H Q I hw
 refine isTrue_plain (thn (h pins s σ H _ I hw) fun v s1 ⟨x, H1, I1, r1, q1⟩ => ?_) (he _)
 obtain ⟨d, rfl, q⟩ := q1
 cases r1
 exact wpAny_truthy_bool ⟨H1, I1, q⟩
variable {tA tB' : TT} {rest : List Expr}
def tAnd (t u : TT) : TT := fun σ H Q => t σ H fun c H1 => if c = true then u σ H1 Q else Q false H1
def tOr (t u : TT) : TT := fun σ H Q => t σ H fun c H1 => if c = true then Q true H1 else u σ H1 Q
def tNot (t : TT) : TT := fun σ H Q => t σ H fun c H1 => Q (!c) H1
theorem pw_and1 (ha : PT X a tA) : PW X (.BoolOp .And [a] pos) tA := by
 intro wh pins s σ H Q I h
 refine isTrue_and (thn (ha pins s σ H Q I h) fun c s1 e => ?_)
 cases c with
 | true => exact isTrue_and_nil e
 | false => exact e
theorem pw_or1 (ha : PT X a tA) : PW X (.BoolOp .Or [a] pos) tA := by
 intro wh pins s σ H Q I h
 refine isTrue_or (thn (ha pins s σ H Q I h) fun c s1 e => ?_)
 cases c with
 | false => exact isTrue_or_nil e
 | true => exact e
theorem pw_and (ha : PT X a tA) (hb : PW X (.BoolOp .And (b :: rest) pos) tB') : PW X (.BoolOp .And (a :: b :: rest) pos) (tAnd tA tB') := by
 intro wh pins s σ H Q I h
 refine isTrue_and (thn (ha pins s σ H _ I h) fun c s1 ⟨H1, I1, q1⟩ => ?_)
 cases c with
 | true => exact hb wh pins s1 σ H1 Q I1 q1
 | false => exact ⟨H1, I1, q1⟩
theorem pw_or (ha : PT X a tA) (hb : PW X (.BoolOp .Or (b :: rest) pos) tB') : PW X (.BoolOp .Or (a :: b :: rest) pos) (tOr tA tB') := by
 intro wh pins s σ H Q I h
 refine isTrue_or (thn (ha pins s σ H _ I h) fun c s1 ⟨H1, I1, q1⟩ => ?_)
 cases c with
 | true => exact ⟨H1, I1, q1⟩
 | false => exact hb wh pins s1 σ H1 Q I1 q1
theorem pt_not (ha : PT X a tA) : PT X (.UnaryOp .Not a pos) (tNot tA) := by
 intro pins s σ H Q I h
 exact isTrue_not (ha pins s σ H (fun c H1 => Q (!c) H1) I h)
def tAndV (ta tb : TE) : TE := fun σ H Q => ta σ H fun x H1 => ∃ c, x = .bl c /\ if c = true then tb σ H1 Q else Q (.bl false) H1
def tOrV (ta tb : TE) : TE := fun σ H Q => ta σ H fun x H1 => ∃ c, x = .bl c /\ if c = true then Q (.bl true) H1 else tb σ H1 Q
def tNotV (ta : TE) : TE := fun σ H Q => ta σ H fun x H1 => ∃ c, x = .bl c /\ Q (.bl (!c)) H1
theorem pe_one {op} {t : TE} (h : PE X a t) : PE X (.BoolOp op [a] pos) t := fun pins s σ H Q I hw => BoolOp_one (h pins s σ H Q I hw)
theorem pe_and (ha : PE X a ta) (hb : PE X (.BoolOp .And (b :: rest) pos) tb) : PE X (.BoolOp .And (a :: b :: rest) pos) (tAndV ta tb) := by
 intro pins s σ H Q I h
 refine BoolOp_and (thn (ha pins s σ H _ I h) fun v s1 ⟨x, H1, I1, r1, q1⟩ => ?_)
 obtain ⟨c, rfl, q1⟩ := q1
 cases r1
 refine wpAny_truthy_bool ?_
 cases c with
 | true => exact hb pins s1 σ H1 Q I1 q1
 | false => exact ⟨.bl false, H1, I1, rfl, q1⟩
theorem pe_not (ha : PE X a ta) : PE X (.UnaryOp .Not a pos) (tNotV ta) := by
 intro pins s σ H Q I h
 refine UnaryOp_ (thn (ha pins s σ H _ I h) fun v s1 ⟨x, H1, I1, r1, q1⟩ => ?_)
 obtain ⟨c, rfl, q1⟩ := q1
 cases r1
 exact not_of (wpAny_truthy_bool ⟨.bl (!c), H1, I1, rfl, q1⟩)
def tIf (t : TT) (ta tb : TE) : TE := fun σ H Q => t σ H fun c H1 => if c = true then ta σ H1 Q else tb σ H1 Q
theorem pe_ifExp {c : Expr} (hc : PT X c tA) (ha : PE X a ta) (hb : PE X b tb) : PE X (.IfExp c a b pos) (tIf tA ta tb) := by
 intro pins s σ H Q I h
 refine wpAny_IfExp (thn (hc pins s σ H _ I h) fun d s1 ⟨H1, I1, q1⟩ => ?_)
 cases d with
 | true => exact ha pins s1 σ H1 Q I1 q1
 | false => exact hb pins s1 σ H1 Q I1 q1
end
end L2
namespace L2
open PySem PySem.Spec PyProof.Rows
def SqL (K : Fg_) (H : Hp) (a : Addr) (xs : List V) : Prop :=
 Rd H a (.lst xs) \/
  ∃ (o : Obj) (its : Array Value) (n : Nat), K.lookup a = some o /\ o.cls = .type "list" /\ o.dict = none /\ o.data = .seq its n /\ its.size <= sizeLine /\ Vals xs its.toList
def SqT (K : Fg_) (H : Hp) (a : Addr) (xs : List V) : Prop :=
 Rd H a (.tup xs) \/
  ∃ (o : Obj) (its : Array Value) (n : Nat), K.lookup a = some o /\ o.cls = .type "tuple" /\ o.data = .seq its n /\ its.size <= sizeLine /\ Vals xs its.toList
def absV : Value -> Option V
 | .none => some .non
 | .bool b => some (.bl b)
 | .int i _ => some (.int i)
 | .str x _ => some (.str x)
 | .bytes b _ => some (.byt b)
 | .float b _ => some (.flt b)
 | .ref a => some (.ref a)
 | .type n => some (.ty n)
 | _ => none
theorem RelV.abs {x : V} {u : Value} (r : RelV x u) : absV u = some x := by
 cases x with
 | non => cases r; rfl
 | bl _ => cases r; rfl
 | int _ => obtain ⟨t, rfl⟩ := r; rfl
 | str _ => obtain ⟨t, rfl⟩ := r; rfl
 | byt _ => obtain ⟨t, rfl⟩ := r; rfl
 | flt _ => obtain ⟨t, rfl⟩ := r; rfl
 | ref _ => cases r; rfl
 | ty _ => cases r; rfl
theorem RelV.inj {x y : V} {u : Value} (r : RelV x u) (q : RelV y u) : x = y := Option.some.inj (r.abs.symm.trans q.abs)
theorem Vals.inj : ∀ {xs ys : List V} {us : List Value}, Vals xs us -> Vals ys us -> xs = ys
 | _, _, _, .nil, .nil => rfl
 | _, _, _, .cons r t, .cons r' t' => by rw [r.inj r', Vals.inj t t']
section
variable {X : Cx} {pins : List (Addr × Obj)} {σ : St} {H : Hp} {s : Shared} {a : Addr} {xs ys : List V}
theorem SqL.of {K : Fg_} (h : H a = some (.lst xs)) : SqL K H a xs := .inl (.inl h)
theorem SqT.of {K : Fg_} (h : H a = some (.tup xs)) : SqT K H a xs := .inl (.inl h)
theorem Inv.list (I : Inv X pins σ H s) (h : SqL X.K H a xs) : ∃ its : List Value, Vals xs its /\ PlainL s.heap a its.toArray /\ xs.length <= sizeLine := by
 rcases h with h | ⟨o, its, n, hk, hc, hd, hs, hz, r⟩
 ·obtain ⟨z, its, n, r, e⟩ := h.ok I.hok
  exact ⟨its, r, ⟨_, n, e, rfl, rfl, rfl⟩, z⟩
 ·refine ⟨its.toList, r, ⟨o, n, I.kIn a o hk, hc, hd, by simpa using hs⟩, ?_⟩
  have e := r.length
  simp only [Array.length_toList] at e
  omega
theorem Inv.tuple (I : Inv X pins σ H s) (h : SqT X.K H a xs) : ∃ its : List Value, Vals xs its /\ IsTup s.heap a its.toArray /\ xs.length <= sizeLine := by
 rcases h with h | ⟨o, its, n, hk, hc, hs, hz, r⟩
 ·obtain ⟨z, its, r, p⟩ := h.ok I.hok
  exact ⟨its, r, p, z⟩
 ·refine ⟨its.toList, r, ⟨o, I.kIn a o hk, hc, n, by simpa using hs⟩, ?_⟩
  have e := r.length
  simp only [Array.length_toList] at e
  omega
theorem Inv.list_inj (I : Inv X pins σ H s) (h : SqL X.K H a xs) (h' : SqL X.K H a ys) : xs = ys := by
 obtain ⟨its, r, ⟨o, n, e, _, _, d⟩, _⟩ := I.list h
 obtain ⟨its', r', ⟨o', n', e', _, _, d'⟩, _⟩ := I.list h'
 rw [e] at e'; cases e'
 rw [d] at d'
 injection d' with d1 _
 have : its = its' := by simpa using congrArg Array.toList d1
 subst this
 exact r.inj r'
theorem Inv.tuple_inj (I : Inv X pins σ H s) (h : SqT X.K H a xs) (h' : SqT X.K H a ys) : xs = ys := by
 obtain ⟨its, r, ⟨o, e, _, n, d⟩, _⟩ := I.tuple h
 obtain ⟨its', r', ⟨o', e', _, n', d'⟩, _⟩ := I.tuple h'
 rw [e] at e'; cases e'
 rw [d] at d'
 injection d' with d1 _
 have : its = its' := by simpa using congrArg Array.toList d1
 subst this
 exact r.inj r'
end
abbrev Cx.wish (X : Cx) (E : Value -> Shared -> Prop) : Cx := { X with xe := E }
abbrev Cx.nox (X : Cx) : Cx := X.wish fun _ _ => False
theorem Cx.Ok.wish {X : Cx} (ok : X.Ok) (E : Value -> Shared -> Prop) : (X.wish E).Ok :=
 ⟨ok.mod, ok.kind, ok.glob, ok.blt, ok.above, ok.inj, ok.has, ok.cab, ok.hd, ok.frames, ok.stk, ok.exf, ok.bs, ok.bsz, ok.noex, ok.exfs, ok.funs, ok.frf⟩
theorem Cx.Ok.unwish {X : Cx} {E : Value -> Shared -> Prop} (ok : (X.wish E).Ok) : X.Ok :=
 ⟨ok.mod, ok.kind, ok.glob, ok.blt, ok.above, ok.inj, ok.has, ok.cab, ok.hd, ok.frames, ok.stk, ok.exf, ok.bs, ok.bsz, ok.noex, ok.exfs, ok.funs, ok.frf⟩
section
variable {X : Cx} {pins : List (Addr × Obj)} {σ : St} {H : Hp} {s : Shared} {E : Value -> Shared -> Prop}
theorem Inv.wish (I : Inv X pins σ H s) (E : Value -> Shared -> Prop) : Inv (X.wish E) pins σ H s := ⟨I.ok.wish E, I.os, I.bare, I.base, I.loc, I.cell, I.free, I.freeC, I.pin, I.hok, I.len⟩
theorem Inv.unwish (I : Inv (X.wish E) pins σ H s) : Inv X pins σ H s := ⟨I.ok.unwish, I.os, I.bare, I.base, I.loc, I.cell, I.free, I.freeC, I.pin, I.hok, I.len⟩
theorem SP.unwish {D : Ends} {f : Flow} {s' : Shared} (h : SP (X.wish E) pins D f s') : SP X pins D f s' := by
 cases f with
 | next => obtain ⟨σ', H', I, q⟩ := h; exact ⟨σ', H', I.unwish, q⟩
 | brk => obtain ⟨σ', H', I, q⟩ := h; exact ⟨σ', H', I.unwish, q⟩
 | cont => obtain ⟨σ', H', I, q⟩ := h; exact ⟨σ', H', I.unwish, q⟩
 | ret u => obtain ⟨v, σ', H', I, r, q⟩ := h; exact ⟨v, σ', H', I.unwish, r, q⟩
theorem PE.nox {e : Expr} {t : TE} (h : PE X.nox e t) : PE X e t := fun pins s σ H Q I hw =>
 wpAny_mono (h pins s σ H Q (I.wish _) hw) (fun _ _ ⟨v, H', I', r, q⟩ => ⟨v, H', I'.unwish, r, q⟩) fun _ _ z => False.elim z
theorem PSs.nox {st : List Stmt} {t : TS} (h : PSs X.nox st t) : PSs X st t := fun pins s σ H D I hw =>
 wpAny_mono (h pins s σ H D (I.wish _) hw) (fun _ _ q => q.unwish) fun _ _ z => False.elim z
end
section
variable {X : Cx} {st : Stmt} {rest : List Stmt} {t u : TS} {e : Expr} {te : TE} {pos : Pos}
def tNext : TS := fun D σ H => D.nx σ H
def tSeq (t u : TS) : TS := fun D σ H => t { D with nx := u D } σ H
theorem pss_nil : PSs X [] tNext := fun _ _ σ H _ I h => wpAny_execs_nil ⟨σ, H, I, h⟩
theorem pss_cons (h1 : PS X st t) (h2 : PSs X rest u) : PSs X (st :: rest) (tSeq t u) := by
 intro pins s σ H D I h
 refine wpAny_execs_cons (thn (h1 pins s σ H { D with nx := u D } I h) fun f s1 q => ?_)
 cases f with
 | next =>
  obtain ⟨σ', H', I', q⟩ := q
  exact h2 pins s1 σ' H' D I' q
 | ret v => exact q
 | brk => exact q
 | cont => exact q
theorem pss_one (h1 : PS X st t) : PSs X [st] t := by
 intro pins s σ H D I h
 refine wpAny_execs_cons (thn (h1 pins s σ H D I h) fun f s1 q => ?_)
 cases f with
 | next => exact wpAny_execs_nil q
 | ret v => exact q
 | brk => exact q
 | cont => exact q
def tBreak : TS := fun D σ H => D.bk σ H
def tCont : TS := fun D σ H => D.ct σ H
theorem Inv.quiet {pins : List (Addr × Obj)} {σ : St} {H : Hp} {s : Shared} (I : Inv X pins σ H s) : interactive X.env = false := by simp [interactive, I.ok.kind]
def tDrop (te : TE) : TS := fun D σ H => te σ H fun _ H1 => D.nx σ H1
theorem ps_expr (he : PE X e te) (hs : swapsWith e none pos.line X.env = pure false := by rfl) : PS X (.Expr e pos) (tDrop te) := by
 intro pins s σ H D I h
 exact wpAny_Expr_any (thn (he pins s σ H _ I h) fun v s1 ⟨x, H1, I1, r1, q1⟩ => ⟨σ, H1, I1, q1⟩) I.quiet hs
def tRet (te : TE) : TS := fun D σ H => te σ H D.rt
theorem ps_ret (he : PE X e te) : PS X (.Return (some e) pos) (tRet te) := by
 intro pins s σ H D I h
 exact wpAny_Return_some (thn (he pins s σ H _ I h) fun v s1 ⟨x, H1, I1, r1, q1⟩ => ⟨x, σ, H1, I1, r1, q1⟩)
def tRetN : TS := fun D _ H => D.rt .non H
theorem ps_retN : PS X (.Return none pos) tRetN := fun _ _ σ H _ I h => wpAny_Return_none ⟨.non, σ, H, I, rfl, h⟩
def tIfS (c : TT) (t u : TS) : TS := fun D σ H => c σ H fun b H1 => if b = true then t D σ H1 else u D σ H1
theorem ps_if {c : Expr} {a b : List Stmt} {tc : TT} (hc : PT X c tc) (ha : PSs X a t) (hb : PSs X b u) : PS X (.If c a b pos) (tIfS tc t u) := by
 intro pins s σ H D I h
 refine wpAny_If (thn (hc pins s σ H _ I h) fun d s1 ⟨H1, I1, q1⟩ => ?_)
 cases d with
 | true => exact ha pins s1 σ H1 D I1 q1
 | false => exact hb pins s1 σ H1 D I1 q1
def tNever : TS := fun _ _ _ => False
theorem ps_never : PS X st tNever := fun _ _ _ _ _ _ h => h.elim
end
abbrev TG := V -> St -> Hp -> (St -> Hp -> Prop) -> Prop
abbrev TGs := List V -> St -> Hp -> (St -> Hp -> Prop) -> Prop
def PG (X : Cx) (target : Expr) (t : TG) : Prop :=
 ∀ (pins : List (Addr × Obj)) (s : Shared) (σ : St) (H : Hp) (v : V) (u : Value) (Q : St -> Hp -> Prop), Inv X pins σ H s -> RelV v u -> t v σ H Q ->
  wpAny (model X.prog X.w) X.A (assign target X.env u) (fun _ s' => ∃ σ' H', Inv X pins σ' H' s' /\ Q σ' H') X.xe s
def PGs (X : Cx) (ts : List Expr) (t : TGs) : Prop :=
 ∀ (pins : List (Addr × Obj)) (s : Shared) (σ : St) (H : Hp) (vs : List V) (us : List Value) (Q : St -> Hp -> Prop), Inv X pins σ H s -> Vals vs us -> t vs σ H Q ->
  wpAny (model X.prog X.w) X.A (assignInOrder ((assignEach ts X.env).map (·.2)) us) (fun _ s' => ∃ σ' H', Inv X pins σ' H' s' /\ Q σ' H') X.xe s
section
variable {X : Cx} {pos : Pos}
def gName (i : Nat) : TG := fun v σ H Q => Q (σ.set i (some v)) H
theorem pg_name {i : Nat} {x : Str} (hN : X.N.Nodup) (hi : X.N[i]? = some x) (hx : Loc X.env.scope x) (hf : X.fn x = true \/ X.env.scope.names.lookup x = some .local := by first | exact .inl rfl | exact .inr rfl | assumption) : PG X (.Name x pos) (gName i) := by
 intro pins s σ H v u Q I r h
 exact wpAny_assign_Name (store_ok I hN hi hx r (fun s' I' => ⟨_, H, I', h⟩) hf)
def gNil : TGs := fun vs σ H Q => vs = [] /\ Q σ H
def gCons (t : TG) (u : TGs) : TGs := fun vs σ H Q => ∃ v r, vs = v :: r /\ t v σ H fun σ' H' => u r σ' H' Q
theorem pgs_nil : PGs X [] gNil := by
 intro pins s σ H vs us Q I r h
 obtain ⟨e, h⟩ := h
 subst e
 cases r
 exact assignInOrder_nil ⟨σ, H, I, h⟩
theorem pgs_cons {e : Expr} {es : List Expr} {t : TG} {u : TGs} (h1 : PG X e t) (h2 : PGs X es u)
  (hs : (assignEach (e :: es) X.env).map (·.2) = assign e X.env :: (assignEach es X.env).map (·.2) := by rfl) : PGs X (e :: es) (gCons t u) := by
 intro pins s σ H vs us Q I r h
 obtain ⟨v, vr, e1, h⟩ := h
 subst e1
 cases r with
 | cons r rr =>
  rw [hs]
  refine assignInOrder_cons (thn (h1 pins s σ H _ _ _ I r h) fun _ s1 ⟨σ1, H1, I1, q1⟩ => ?_)
  exact h2 pins s1 σ1 H1 _ _ Q I1 rr q1
def gTup (K : Fg_) (n : Nat) (t : TGs) : TG := fun v σ H Q => ∃ a xs, v = .ref a /\ SqT K H a xs /\ xs.length = n /\ t xs σ H Q
theorem pg_tup {es : List Expr} {k : Nat} {t : TGs} {n : Nat} (hc : X.calm = true) (h : PGs X es t)
  (hn : (assignEach es X.env).length = n := by rfl) (hst : (assignEach es X.env).findIdx? (·.1) = none := by rfl) : PG X (.Tuple es k pos) (gTup X.K n t) := by
 intro pins s σ H v u Q I r hw
 obtain ⟨a, xs, e1, hq, hl, hw⟩ := hw
 subst e1
 cases r
 obtain ⟨its, rv, ht, hz⟩ := I.tuple hq
 refine assign_Tuple_tuple (I.ok.hd hc) ht (by simp [hn, <- hl, rv.length]) hst fun h' hx => ?_
 have I1 : Inv X pins σ H { s with heap := h' } := I.kept (t' := s.toks) fun b o e => hx b o (Nat.ne_of_lt (Heap.lt_size e)) e
 exact h pins _ σ H xs _ Q I1 (by simpa using rv) hw
def tAsg (te : TE) (g : TG) : TS := fun D σ H => te σ H fun x H1 => g x σ H1 D.nx
theorem ps_asg {tg e : Expr} {te : TE} {g : TG} (he : PE X e te) (hg : PG X tg g) (hs : swapsWithSole [tg] e pos.line X.env = pure false := by rfl) (hw : swappedStores [tg] e X.env = pure none := by rfl)
  (h1 : (assignEach [tg] X.env).map (·.2) = [assign tg X.env] := by rfl) : PS X (.Assign [tg] e pos) (tAsg te g) := by
 intro pins s σ H D I h
 refine wpAny_Assign_stores (thn (he pins s σ H _ I h) fun v s1 ⟨x, H1, I1, r1, q1⟩ => ?_) hs hw
 rw [h1]
 exact thn (hg pins s1 σ H1 x v _ I1 r1 q1) fun _ s2 q => q
theorem ps_set {i : Nat} {x : Str} {e : Expr} {te : TE} {pos' : Pos} (hN : X.N.Nodup) (hi : X.N[i]? = some x) (hx : Loc X.env.scope x) (he : PE X e te) (hs : swapsWith e (some (.Name x pos')) pos.line X.env = pure false := by rfl) (hf : X.fn x = true \/ X.env.scope.names.lookup x = some .local := by first | exact .inl rfl | exact .inr rfl | assumption) :
  PS X (.Assign [.Name x pos'] e pos) (tAsg te (gName i)) := by
 intro pins s σ H D I h
 refine wpAny_Assign_Name (thn (he pins s σ H _ I h) fun v s1 ⟨y, H1, I1, r1, q1⟩ => ?_) hs
 exact store_ok I1 hN hi hx r1 (fun s2 I2 => ⟨_, H1, I2, q1⟩) hf
end
structure It where
 go : Nat -> Hp -> Prop
 yld : Nat -> Hp -> V -> Hp -> Prop
 stop : Nat -> Hp -> Prop
def FpOk (X : Cx) (pins : List (Addr × Obj)) (H : Hp) (b : Addr) : Prop :=
 H b = none /\ b ≠ X.env.locals /\ b ∉ X.fs /\ (b ∈ X.ex \/ X.s₀.heap.objs.size <= b) /\ (∀ x c, X.env.cells.lookup x = some c -> c ≠ b) /\ ∀ p ∈ X.pn ++ pins, p.1 ≠ b
theorem Inv.fpOk {X : Cx} {pins : List (Addr × Obj)} {σ : St} {H H' : Hp} {s : Shared} {b : Addr} (I : Inv X pins σ H s) (hb : s.heap.objs.size <= b) (hn : H' b = none) : FpOk X pins H' b := by
 refine ⟨hn, Nat.ne_of_gt (Nat.lt_of_lt_of_le I.lt hb), I.nofs hb, .inr (Nat.le_trans I.sz hb), fun x c e z => ?_, fun p hp z => ?_⟩
 ·obtain ⟨v, q⟩ := I.cell x c e
  exact absurd (Nat.lt_of_lt_of_le q.lt (by rw [z]; exact hb)) (Nat.lt_irrefl _)
 ·exact absurd (Nat.lt_of_lt_of_le (Heap.lt_size (I.pin p hp).1) (by rw [z]; exact hb)) (Nat.lt_irrefl _)
structure Turn (P : Program) (w : World) (K : Fg_) (tg : Expr) (J : It) (fp : List Addr) (it : Addr) (tn : Nat -> Heap -> Prop) : Prop where
 mem : it ∈ fp
 obj : ∀ i h, tn i h -> ∀ b ∈ fp, ∃ o, h.get? b = some o /\ ∀ v, o.data ≠ .cell v
 keep : ∀ i h h', tn i h -> (∀ b ∈ fp, ∀ o, h.get? b = some o -> h'.get? b = some o) -> tn i h'
 item : ∀ (X : Cx), X.prog = P -> X.w = w -> X.K = K -> X.calm = true -> ∀ (i : Nat) (pins : List (Addr × Obj)) (s : Shared) (σ : St) (H : Hp) (E : Value -> Shared -> Prop), Inv X pins σ H s -> (∀ b ∈ fp, FpOk X pins H b) -> tn i s.heap -> J.go i H ->
  wpAny (model P w) X.A (pyNext (.ref it)) (fun r s1 => ∃ u, r = some u /\
   wpAny (model P w) X.A (letOwnedTupleGo tg (.ref it) u) (fun _ s2 => ∃ x H', Inv X pins σ H' s2 /\ RelV x u /\ J.yld i H x H' /\ tn (i + 1) s2.heap /\ ∀ b ∈ fp, H' b = none) E s1) E s
 done : ∀ (X : Cx), X.prog = P -> X.w = w -> X.K = K -> X.calm = true -> ∀ (i : Nat) (pins : List (Addr × Obj)) (s : Shared) (σ : St) (H : Hp) (E : Value -> Shared -> Prop), Inv X pins σ H s -> (∀ b ∈ fp, FpOk X pins H b) -> tn i s.heap -> J.stop i H ->
  wpAny (model P w) X.A (pyNext (.ref it)) (fun r s1 => r = none /\ Inv X pins σ H s1) E s
 self : ∀ (A : Around) (i : Nat) (s : Shared) (Q : Value -> Shared -> Prop) (E : Value -> Shared -> Prop), tn i s.heap -> Q (.ref it) s -> wpAny (model P w) A (pyIter (.ref it)) Q E s
abbrev TI := St -> Hp -> (It -> Hp -> Prop) -> Prop
def PIE (X : Cx) (pins : List (Addr × Obj)) (σ : St) (tg : Expr) (R : It -> Hp -> Prop) (itv : Value) (s2 : Shared) : Prop :=
 ∃ (it : Addr) (fp : List Addr) (tn : Nat -> Heap -> Prop) (J : It) (H' : Hp), itv = .ref it /\ Inv X pins σ H' s2 /\ Turn X.prog X.w X.K tg J fp it tn /\ tn 0 s2.heap /\ (∀ b ∈ fp, FpOk X pins H' b) /\ R J H'
def PI (X : Cx) (tg iter : Expr) (wi : TI) : Prop :=
 ∀ (pins : List (Addr × Obj)) (s : Shared) (σ : St) (H : Hp) (R : It -> Hp -> Prop), Inv X pins σ H s -> wi σ H R ->
  wpAny (model X.prog X.w) X.A (eval iter X.env) (fun v s1 => wpAny (model X.prog X.w) X.A (pyIter v) (PIE X pins σ tg R) X.xe s1) X.xe s
theorem go_of {M : Model} {A : Around} {E : Value -> Shared -> Prop} {s : Shared} {tg : Expr} {it : Addr} {u : Value} {o : Obj} {n : String} {vs : Array Value} {Q : Unit -> Shared -> Prop} (ho : s.heap.get? it = some o) (hc : o.cls = .type n) (hd : o.data = .fields vs)
  (hn : ["enumerate", "zip", "dict_itemiterator", "dict_reverseitemiterator", "odict_iterator", "itertools.zip_longest", "itertools.pairwise"].contains n = false) (hQ : Q () s) : wpAny M A (letOwnedTupleGo tg (.ref it) u) Q E s := by
 unfold letOwnedTupleGo
 cases tg <;> first
  | exact wpAny_pure hQ
  | (cases u <;> first
    | exact wpAny_pure hQ
    | (refine wpAny_bind (wpAny_load ho ?_)
       rw [hc, hd]
       show wpAny M A (if (["enumerate", "zip", "dict_itemiterator", "dict_reverseitemiterator", "odict_iterator", "itertools.zip_longest", "itertools.pairwise"].contains n && vs[0]? == some (rawInt _)) = true then _ else _) Q E s
       rw [if_neg (by intro h; rw [hn, Bool.false_and] at h; cases h)]
       exact wpAny_pure hQ))
def Itl (K : Fg_) (a : Addr) : It :=
 ⟨fun i H => ∃ xs x, SqL K H a xs /\ xs[i]? = some x, fun i H x H' => H' = H /\ ∀ xs, SqL K H a xs -> xs[i]? = some x, fun i H => ∃ xs, SqL K H a xs /\ xs.length <= i⟩
def Itt (K : Fg_) (a : Addr) : It :=
 ⟨fun i H => ∃ xs x, SqT K H a xs /\ xs[i]? = some x, fun i H x H' => H' = H /\ ∀ xs, SqT K H a xs -> xs[i]? = some x, fun i H => ∃ xs, SqT K H a xs /\ xs.length <= i⟩
def Itr (lo : Int) (n : Nat) : It := ⟨fun i _ => i < n, fun i H x H' => H' = H /\ x = .int (lo + i), fun i _ => n <= i⟩
theorem turn_list {P : Program} {w : World} {K : Fg_} {tg : Expr} (a it : Addr) : Turn P w K tg (Itl K a) [it] it (fun i h => h.IsListIter it a i) where
 mem := by simp
 obj := fun i h st b hb => by
  have e : b = it := by simpa using hb
  subst e
  obtain ⟨o, e, c, d⟩ := st
  exact ⟨o, e, fun v z => by rw [d] at z; cases z⟩
 keep := fun i h h' st k => st.at fun o e => k it (by simp) o e
 item := by
  intro X hP hw hK hc i pins s σ H E I hf st hg
  subst hP hw hK
  obtain ⟨xs, x, hq, hx⟩ := hg
  obtain ⟨its, rv, p, hz⟩ := I.list hq
  obtain ⟨u, hu, ru⟩ := rv.get hx
  obtain ⟨f0, f1, f2, f3, f4, f5⟩ := hf it (by simp)
  refine wpAny_pyNext_list_item st p.isList (x := u) (by simpa using hu) fun h' st' sb => ?_
  have I1 : Inv X pins σ H { s with heap := h' } := I.turned (t' := s.toks) (fun b o hb e => (sb.2 b hb).trans e) f0 f1 f3 f4 f5
  obtain ⟨o, e, c, d⟩ := id st'
  exact ⟨u, rfl, go_of (s := { s with heap := h' }) e c d (by decide) ⟨x, H, I1, ru, ⟨rfl, fun ys hy => by rw [I.list_inj hy hq]; exact hx⟩, st', fun b hb => (hf b hb).1⟩⟩
 done := by
  intro X hP hw hK hc i pins s σ H E I hf st hg
  subst hP hw hK
  obtain ⟨xs, hq, hx⟩ := hg
  obtain ⟨its, rv, p, hz⟩ := I.list hq
  obtain ⟨f0, f1, f2, f3, f4, f5⟩ := hf it (by simp)
  have hl := rv.length
  exact wpAny_pyNext_list_end (I.ok.hd hc) st p.isList (by simp; omega) fun h' eb => ⟨rfl, I.turned (t' := s.toks) (fun b o hb e => eb b o hb e) f0 f1 f3 f4 f5⟩
 self := fun _ _ _ _ _ st h => wpAny_pyIter_listiter st h
theorem turn_tuple {P : Program} {w : World} {K : Fg_} {tg : Expr} (a it : Addr) : Turn P w K tg (Itt K a) [it] it (fun i h => h.IsTupleIter it a i) where
 mem := by simp
 obj := fun i h st b hb => by
  have e : b = it := by simpa using hb
  subst e
  obtain ⟨o, e, c, d⟩ := st
  exact ⟨o, e, fun v z => by rw [d] at z; cases z⟩
 keep := fun i h h' st k => st.at fun o e => k it (by simp) o e
 item := by
  intro X hP hw hK hc i pins s σ H E I hf st hg
  subst hP hw hK
  obtain ⟨xs, x, hq, hx⟩ := hg
  obtain ⟨its, rv, p, hz⟩ := I.tuple hq
  obtain ⟨u, hu, ru⟩ := rv.get hx
  obtain ⟨f0, f1, f2, f3, f4, f5⟩ := hf it (by simp)
  refine wpAny_pyNext_tuple_item st (show s.heap.IsTuple a its.toArray from p) (x := u) (by simpa using hu) fun h' st' sb => ?_
  have I1 : Inv X pins σ H { s with heap := h' } := I.turned (t' := s.toks) (fun b o hb e => (sb.2 b hb).trans e) f0 f1 f3 f4 f5
  obtain ⟨o, e, c, d⟩ := id st'
  exact ⟨u, rfl, go_of (s := { s with heap := h' }) e c d (by decide) ⟨x, H, I1, ru, ⟨rfl, fun ys hy => by rw [I.tuple_inj hy hq]; exact hx⟩, st', fun b hb => (hf b hb).1⟩⟩
 done := by
  intro X hP hw hK hc i pins s σ H E I hf st hg
  subst hP hw hK
  obtain ⟨xs, hq, hx⟩ := hg
  obtain ⟨its, rv, p, hz⟩ := I.tuple hq
  obtain ⟨f0, f1, f2, f3, f4, f5⟩ := hf it (by simp)
  have hl := rv.length
  exact wpAny_pyNext_tuple_end (I.ok.hd hc) st (show s.heap.IsTuple a its.toArray from p) (by simp; omega) fun h' eb => ⟨rfl, I.turned (t' := s.toks) (fun b o hb e => eb b o hb e) f0 f1 f3 f4 f5⟩
 self := fun _ _ _ _ _ st h => wpAny_pyIter_tupleiter st h
theorem turn_range {P : Program} {w : World} {K : Fg_} {tg : Expr} (it : Addr) (lo : Int) (n : Nat) : Turn P w K tg (Itr lo n) [it] it (fun i h => IsRangeIter h it (lo + (i : Nat) * 1) ((n : Int) - (i : Nat)) 1) where
 mem := by simp
 obj := fun i h st b hb => by
  have e : b = it := by simpa using hb
  subst e
  exact ⟨_, st, fun v z => by
   have z' : Data.fields _ = Data.cell v := z
   cases z'⟩
 keep := fun i h h' st k => k it (by simp) _ st
 item := by
  intro X hP hw hK hc i pins s σ H E I hf st hg
  subst hP hw hK
  obtain ⟨f0, f1, f2, f3, f4, f5⟩ := hf it (by simp)
  have W := Walks.range (prog := X.prog) (w := X.w) (I.ok.hd hc) it lo 1 n
  refine W.item i s _ _ hg st fun v h' tk hv st' kk => ?_
  obtain ⟨t, rfl⟩ := hv
  have I1 : Inv X pins σ H { s with heap := h', toks := tk } := I.turned (fun b o hb e => kk b o (by simpa using hb) e) f0 f1 f3 f4 f5
  refine ⟨_, rfl, go_of (s := { s with heap := h', toks := tk }) (n := "range_iterator") st' rfl rfl (by decide) ⟨.int (lo + i), H, I1, ⟨t, ?_⟩, ⟨rfl, rfl⟩, st', fun b hb => (hf b hb).1⟩⟩
  rw [Int.mul_one]
 done := by
  intro X hP hw hK hc i pins s σ H E I hf st hg
  subst hP hw hK
  obtain ⟨f0, f1, f2, f3, f4, f5⟩ := hf it (by simp)
  exact wpAny_pyNext_range_end (I.ok.hd hc) st (by have : n <= i := hg; omega) fun h' eb => ⟨rfl, I.turned (t' := s.toks) (fun b o hb e => eb b o hb e) f0 f1 f3 f4 f5⟩
 self := fun _ _ _ _ _ st h => wpAny_pyIter_rangeiter st h
end L2
namespace L2
open PySem PySem.Spec PyProof.Rows
section
variable {X : Cx} {tg : Expr}
def iList (K : Fg_) (tl : TE) : TI := fun σ H R => tl σ H fun x H1 => ∃ a, x = .ref a /\ (∃ xs, SqL K H1 a xs) /\ R (Itl K a) H1
def iTup (K : Fg_) (tl : TE) : TI := fun σ H R => tl σ H fun x H1 => ∃ a, x = .ref a /\ (∃ xs, SqT K H1 a xs) /\ R (Itt K a) H1
theorem pi_list {l : Expr} {tl : TE} (hl : PE X l tl) : PI X tg l (iList X.K tl) := by
 intro pins s σ H R I h
 refine thn (hl pins s σ H _ I h) fun v s1 ⟨x, H1, I1, r1, q1⟩ => ?_
 obtain ⟨a, e, ⟨xs, hq⟩, q⟩ := q1
 subst e
 cases r1
 obtain ⟨its, rv, p, hz⟩ := I1.list hq
 refine wpAny_pyIter_list p.isList ?_
 refine ⟨s1.heap.objs.size, [s1.heap.objs.size], _, _, H1, rfl, I1.kept (t' := s1.toks) fun b o e => Heap.get?_push_of_some _ e, turn_list a _, ⟨_, Heap.get?_push_size _ rfl, rfl, rfl⟩, fun b hb => ?_, q⟩
 have e : b = s1.heap.objs.size := by simpa using hb
 subst e
 exact I1.fpOk (Nat.le_refl _) (I1.hok.fresh (Nat.le_refl _))
theorem pi_tup {l : Expr} {tl : TE} (hl : PE X l tl) : PI X tg l (iTup X.K tl) := by
 intro pins s σ H R I h
 refine thn (hl pins s σ H _ I h) fun v s1 ⟨x, H1, I1, r1, q1⟩ => ?_
 obtain ⟨a, e, ⟨xs, hq⟩, q⟩ := q1
 subst e
 cases r1
 obtain ⟨its, rv, p, hz⟩ := I1.tuple hq
 refine wpAny_pyIter_tuple (show s1.heap.IsTuple a its.toArray from p) ?_
 refine ⟨s1.heap.objs.size, [s1.heap.objs.size], _, _, H1, rfl, I1.kept (t' := s1.toks) fun b o e => Heap.get?_push_of_some _ e, turn_tuple a _, ⟨_, Heap.get?_push_size _ rfl, rfl, rfl⟩, fun b hb => ?_, q⟩
 have e : b = s1.heap.objs.size := by simpa using hb
 subst e
 exact I1.fpOk (Nat.le_refl _) (I1.hok.fresh (Nat.le_refl _))
theorem range_it {pins : List (Addr × Obj)} {σ : St} {H : Hp} {s : Shared} {R : It -> Hp -> Prop} {E : Value -> Shared -> Prop} {lo hi : Int} {t u v : Tok} {tk : Nat} (I : Inv X pins σ H s) (h1 : -(2 ^ 62) <= lo) (h2 : lo < 2 ^ 62) (h3 : -(2 ^ 62) <= hi) (h4 : hi < 2 ^ 62)
  (q : R (Itr lo (hi - lo).toNat) H) : wpAny (model X.prog X.w) X.A (pyIter (.ref s.heap.objs.size)) (PIE X pins σ tg R) E { s with heap := s.heap.push { cls := .type "range", data := .fields #[.int lo t, .int hi u, .int 1 v] }, toks := tk } := by
 refine wpAny_pyIter_range (IsRange.new ..) (small_one h1 h2 h3 h4) ?_
 have I1 : Inv X pins σ H { s with heap := s.heap.push { cls := .type "range", data := .fields #[.int lo t, .int hi u, .int 1 v] }, toks := tk } := I.kept fun b o e => Heap.get?_push_of_some _ e
 refine ⟨(s.heap.push { cls := .type "range", data := .fields #[.int lo t, .int hi u, .int 1 v] }).objs.size, [(s.heap.push { cls := .type "range", data := .fields #[.int lo t, .int hi u, .int 1 v] }).objs.size], _, _, H, rfl,
  I1.kept (t' := tk) fun b o e => Heap.get?_push_of_some _ e, turn_range _ lo (hi - lo).toNat, ?_, fun b hb => ?_, q⟩
 ·have e1 : lo + ((0 : Nat) : Int) * 1 = lo := by simp
  have e2 : (((hi - lo).toNat : Nat) : Int) - ((0 : Nat) : Int) = Builtin.Range.rangeSize lo hi 1 := by rw [rangeSize_one]; split <;> omega
  show IsRangeIter _ _ (lo + ((0 : Nat) : Int) * 1) ((((hi - lo).toNat : Nat) : Int) - ((0 : Nat) : Int)) 1
  rw [e1, e2]
  exact Heap.get?_push_size _ rfl
 ·have e : b = (s.heap.push { cls := .type "range", data := .fields #[.int lo t, .int hi u, .int 1 v] }).objs.size := by simpa using hb
  subst e
  exact I1.fpOk (Nat.le_refl _) (I1.hok.fresh (Nat.le_refl _))
def iRng1 (ta : TA) : TI := fun σ H R => ta σ H fun vs H1 => ∃ j : Int, vs = [.int j] /\ -(2 ^ 62) <= j /\ j < 2 ^ 62 /\ R (Itr 0 j.toNat) H1
theorem pi_range1 {a : Expr} {ta : TA} {p pos : Pos} (hg : Gl X "range") (hm : X.mg "range" = none) (ha : PA X [a] ta) (hs : starEach [a] X.env = [(false, eval a X.env)] := by rfl) : PI X tg (.Call (.Name "range" p) [a] [] pos) (iRng1 ta) := by
 intro pins s σ H R I h
 refine Call_ (ld_blt I hg hm boot_range (PyProof.Rows.callWith_type1 (thn (ha pos pins s σ H _ I h) fun us s1 ⟨vs, H1, I1, r1, q1⟩ => ?_) hs rfl))
 obtain ⟨j, e, q1, q2, q⟩ := q1
 subst e
 cases r1 with
 | cons r rr =>
  cases rr
  obtain ⟨t, rfl⟩ := r
  exact call_range_1 (range_it I1 (by omega) (by omega) q1 q2 (by simpa using q))
def tFor (wi : TI) (g : TG) (tb : TS) : TS := fun D σ H => wi σ H fun J H1 => ∃ W : Nat -> Nat -> St -> Hp -> Prop, (∃ m, W 0 m σ H1) /\ ∀ i m σ H, W i m σ H ->
 (J.stop i H /\ D.nx σ H) \/ (J.go i H /\ ∃ N : St -> Hp -> Prop, (∀ σ' H', N σ' H' -> ∃ m', m' < m /\ W (i + 1) m' σ' H') /\ ∀ x H', J.yld i H x H' -> g x σ H' fun σ2 H2 => tb { D with nx := N, ct := N, bk := D.nx } σ2 H2)
def pinsAt (fp : List Addr) (h : Heap) : List (Addr × Obj) := fp.filterMap fun b => (h.get? b).map fun o => (b, o)
theorem mem_pinsAt {fp : List Addr} {h : Heap} {b : Addr} {o : Obj} (hb : b ∈ fp) (e : h.get? b = some o) : (b, o) ∈ pinsAt fp h := List.mem_filterMap.mpr ⟨b, hb, by rw [e]; rfl⟩
theorem of_pinsAt {fp : List Addr} {h : Heap} {p : Addr × Obj} (hp : p ∈ pinsAt fp h) : p.1 ∈ fp /\ h.get? p.1 = some p.2 := by
 obtain ⟨b, hb, e⟩ := List.mem_filterMap.mp hp
 cases q : h.get? b with
 | none => rw [q] at e; cases e
 | some o =>
  rw [q] at e
  have e' : (b, o) = p := Option.some.inj e
  subst e'
  exact ⟨hb, q⟩
theorem Inv.pinned {pins : List (Addr × Obj)} {σ : St} {H : Hp} {s : Shared} {fp : List Addr} (I : Inv X pins σ H s) (hf : ∀ b ∈ fp, FpOk X pins H b) (ho : ∀ b ∈ fp, ∃ o, s.heap.get? b = some o /\ ∀ v, o.data ≠ .cell v) : Inv X (pins ++ pinsAt fp s.heap) σ H s :=
 I.pins_of fun p hp => (List.mem_append.mp hp).elim (fun z => I.pin p (List.mem_append_right _ z)) fun z => by
  obtain ⟨hb, e⟩ := of_pinsAt z
  obtain ⟨f0, f1, f2, _⟩ := hf p.1 hb
  obtain ⟨o, e', d⟩ := ho p.1 hb
  rw [e] at e'; cases e'
  exact ⟨e, f0, f1, f2, d⟩
theorem Inv.unpinned {pins pl : List (Addr × Obj)} {σ : St} {H : Hp} {s : Shared} (I : Inv X (pins ++ pl) σ H s) : Inv X pins σ H s := I.pins_of fun p hp => I.pin p (List.mem_append_right _ (List.mem_append_left _ hp))
theorem ps_for {iter : Expr} {body : List Stmt} {wi : TI} {g : TG} {tb : TS} {pos : Pos} (hp : PassesOwn (model X.prog X.w) X.A X.env X.xe) (hc : X.calm = true) (hi : PI X tg iter wi) (hg : PG X tg g) (hb : PSs X body tb)
  (hs : ∀ x, foldedSetIterable iter X.env x = pure x := by intro _; rfl) : PS X (.For tg iter body [] pos) (tFor wi g tb) := by
 intro pins s σ H D I h
 refine wpAny_For (thn (hi pins s σ H _ I h) fun v s1 h1 => thn h1 fun itv s2 h2 => ?_) hs
 obtain ⟨it, fp, tn, J, H2, e, I2, T, st2, f2, W, ⟨m0, w0⟩, turn⟩ := h2
 subst e
 have stat : ∀ {H' : Hp}, (∀ b ∈ fp, H' b = none) -> ∀ b ∈ fp, FpOk X pins H' b := fun hn b hb => ⟨hn b hb, (f2 b hb).2⟩
 refine codeAny_forLoop_any (fun n s' => ∃ i σ' H', Inv X pins σ' H' s' /\ tn i s'.heap /\ (∀ b ∈ fp, H' b = none) /\ W i n σ' H') ?_ m0 ⟨0, σ, H2, I2, st2, fun b hb => (f2 b hb).1, w0⟩
 rintro n s3 ⟨i, σ3, H3, I3, st3, fr3, w3⟩
 rcases turn i n σ3 H3 w3 with ⟨stop, qn⟩ | ⟨go, N, hN, step⟩
 ·refine wpAny_passesOwn hp (thn (T.done X rfl rfl rfl hc i pins s3 σ3 H3 X.xe I3 (stat fr3) st3 stop) fun r s4 ⟨hr, I4⟩ => ?_)
  subst hr
  exact wpAny_execs_nil ⟨σ3, H3, I4, qn⟩
 ·refine wpAny_passesOwn hp (thn (T.item X rfl rfl rfl hc i pins s3 σ3 H3 X.xe I3 (stat fr3) st3 go) fun r s4 ⟨u, hr, h4⟩ => ?_)
  subst hr
  refine wpAny_passesOwn hp (thn h4 fun _ s5 ⟨x, H5, I5, r5, y5, st5, fr5⟩ => ?_)
  have I5' := I5.pinned (stat fr5) (T.obj _ _ st5)
  refine wpAny_passesOwn hp (thn (hg _ s5 σ3 H5 x u _ I5' r5 (step x H5 y5)) fun _ s6 ⟨σ6, H6, I6, q6⟩ => ?_)
  refine wpAny_passesOwn hp (thn (hb _ s6 σ6 H6 _ I6 q6) fun f s7 q7 => ?_)
  have again : ∀ {σ7 : St} {H7 : Hp}, Inv X (pins ++ pinsAt fp s5.heap) σ7 H7 s7 -> N σ7 H7 -> ∃ m, m < n /\ ∃ i σ' H', Inv X pins σ' H' s7 /\ tn i s7.heap /\ (∀ b ∈ fp, H' b = none) /\ W i m σ' H' := fun {σ7 H7} I7 n7 => by
   obtain ⟨m', hm, w7⟩ := hN σ7 H7 n7
   refine ⟨m', hm, i + 1, σ7, H7, I7.unpinned, T.keep _ _ _ st5 fun b hb o e => (I7.pin (b, o) (List.mem_append_right _ (List.mem_append_right _ (mem_pinsAt hb e)))).1, fun b hb => ?_, w7⟩
   obtain ⟨o, e, d⟩ := T.obj _ _ st5 b hb
   exact (I7.pin (b, o) (List.mem_append_right _ (List.mem_append_right _ (mem_pinsAt hb e)))).2.1
  cases f with
  | next => obtain ⟨σ7, H7, I7, n7⟩ := q7; exact again I7 n7
  | cont => obtain ⟨σ7, H7, I7, n7⟩ := q7; exact again I7 n7
  | brk => obtain ⟨σ7, H7, I7, q7⟩ := q7; exact ⟨σ7, H7, I7.unpinned, q7⟩
  | ret v => obtain ⟨x7, σ7, H7, I7, r7, q7⟩ := q7; exact ⟨x7, σ7, H7, I7.unpinned, r7, q7⟩
end
theorem for_list {K : Fg_} {a : Addr} {xs : List V} {g : TG} {tb : TS} {D : Ends} {σ : St} {H : Hp} (Pv : Nat -> St -> Hp -> Prop) (h0 : Pv 0 σ H) (hl : ∀ i σ H, i <= xs.length -> Pv i σ H -> SqL K H a xs)
  (hs : ∀ i x σ H, xs[i]? = some x -> Pv i σ H -> g x σ H fun σ2 H2 => tb { D with nx := Pv (i + 1), ct := Pv (i + 1), bk := D.nx } σ2 H2) (hd : ∀ σ H, Pv xs.length σ H -> D.nx σ H) :
  ∃ W : Nat -> Nat -> St -> Hp -> Prop, (∃ m, W 0 m σ H) /\ ∀ i m σ H, W i m σ H ->
   ((Itl K a).stop i H /\ D.nx σ H) \/ ((Itl K a).go i H /\ ∃ N : St -> Hp -> Prop, (∀ σ' H', N σ' H' -> ∃ m', m' < m /\ W (i + 1) m' σ' H') /\ ∀ x H', (Itl K a).yld i H x H' -> g x σ H' fun σ2 H2 => tb { D with nx := N, ct := N, bk := D.nx } σ2 H2) := by
 refine ⟨fun i m σ H => m = xs.length - i /\ i <= xs.length /\ Pv i σ H, ⟨xs.length, by simp, Nat.zero_le _, h0⟩, ?_⟩
 rintro i m σ H ⟨rfl, hi, p⟩
 have q := hl i σ H hi p
 by_cases hlt : i < xs.length
 ·refine .inr ⟨⟨xs, xs[i], q, by simp [hlt]⟩, Pv (i + 1), fun σ' H' p' => ⟨xs.length - (i + 1), by omega, rfl, hlt, p'⟩, fun x H' y => ?_⟩
  obtain ⟨e, y⟩ := y
  subst e
  exact hs i x σ _ (y xs q) p
 ·have e : i = xs.length := by omega
  subst e
  exact .inl ⟨⟨xs, q, Nat.le_refl _⟩, hd σ H p⟩
theorem for_range {lo : Int} {n : Nat} {g : TG} {tb : TS} {D : Ends} {σ : St} {H : Hp} (Pv : Nat -> St -> Hp -> Prop) (h0 : Pv 0 σ H)
  (hs : ∀ i σ H, i < n -> Pv i σ H -> g (.int (lo + i)) σ H fun σ2 H2 => tb { D with nx := Pv (i + 1), ct := Pv (i + 1), bk := D.nx } σ2 H2) (hd : ∀ σ H, Pv n σ H -> D.nx σ H) :
  ∃ W : Nat -> Nat -> St -> Hp -> Prop, (∃ m, W 0 m σ H) /\ ∀ i m σ H, W i m σ H ->
   ((Itr lo n).stop i H /\ D.nx σ H) \/ ((Itr lo n).go i H /\ ∃ N : St -> Hp -> Prop, (∀ σ' H', N σ' H' -> ∃ m', m' < m /\ W (i + 1) m' σ' H') /\ ∀ x H', (Itr lo n).yld i H x H' -> g x σ H' fun σ2 H2 => tb { D with nx := N, ct := N, bk := D.nx } σ2 H2) := by
 refine ⟨fun i m σ H => m = n - i /\ i <= n /\ Pv i σ H, ⟨n, by simp, Nat.zero_le _, h0⟩, ?_⟩
 rintro i m σ H ⟨rfl, hi, p⟩
 by_cases hlt : i < n
 ·refine .inr ⟨hlt, Pv (i + 1), fun σ' H' p' => ⟨n - (i + 1), by omega, rfl, hlt, p'⟩, fun x H' y => ?_⟩
  obtain ⟨e, y⟩ := y
  subst e y
  exact hs i σ _ hlt p
 ·have e : i = n := by omega
  subst e
  exact .inl ⟨Nat.le_refl _, hd σ H p⟩
end L2
namespace L2
open PySem PySem.Spec PyProof.Rows
abbrev R2 := V -> V -> Hp -> VK -> Prop
def OpR (X : Cx) (f : Value -> Value -> Sem Value) (r : R2) : Prop :=
 ∀ (pins : List (Addr × Obj)) (s : Shared) (σ : St) (H : Hp) (x y : V) (v u : Value) (Q : VK), Inv X pins σ H s -> RelV x v -> RelV y u -> r x y H Q ->
  wpAny (model X.prog X.w) X.A (f v u) (EP X pins σ Q) X.xe s
def UnR (X : Cx) (f : Value -> Sem Value) (r : V -> Hp -> VK -> Prop) : Prop :=
 ∀ (pins : List (Addr × Obj)) (s : Shared) (σ : St) (H : Hp) (x : V) (v : Value) (Q : VK), Inv X pins σ H s -> RelV x v -> r x H Q ->
  wpAny (model X.prog X.w) X.A (f v) (EP X pins σ Q) X.xe s
def CallR (X : Cx) (f : Value) (r : List V -> Hp -> VK -> Prop) : Prop :=
 ∀ (pins : List (Addr × Obj)) (s : Shared) (σ : St) (H : Hp) (xs : List V) (us : List Value) (Q : VK), Inv X pins σ H s -> Vals xs us -> r xs H Q ->
  wpAny (model X.prog X.w) X.A (call f us) (EP X pins σ Q) X.xe s
def tOp (r : R2) (ta tb : TE) : TE := fun σ H Q => ta σ H fun x H1 => tb σ H1 fun y H2 => r x y H2 Q
def tUn (r : V -> Hp -> VK -> Prop) (ta : TE) : TE := fun σ H Q => ta σ H fun x H1 => r x H1 Q
def rI (C : Int -> Int -> Prop) (g : Int -> Int -> V) : R2 := fun x y H Q => ∃ i j, x = .int i /\ y = .int j /\ C i j /\ Q (g i j) H
def rI0 (g : Int -> Int -> V) : R2 := fun x y H Q => ∃ i j, x = .int i /\ y = .int j /\ Q (g i j) H
def rU (g : Int -> V) : V -> Hp -> VK -> Prop := fun x H Q => ∃ i, x = .int i /\ Q (g i) H
section
variable {X : Cx} {a b c : Expr} {ta tb tc : TE} {pos : Pos}
theorem binT (ha : PE X a ta) (hb : PE X b tb) {pins : List (Addr × Obj)} {s : Shared} {σ : St} {H : Hp} {R : V -> V -> Hp -> Prop} (I : Inv X pins σ H s)
  (h : ta σ H fun x H1 => tb σ H1 fun y H2 => R x y H2) {Q : Value -> Shared -> Prop} {f : Value -> Value -> Sem Value}
  (hf : ∀ v u s2 x y H2, Inv X pins σ H2 s2 -> RelV x v -> RelV y u -> R x y H2 -> wpAny (model X.prog X.w) X.A (f v u) Q X.xe s2) :
  wpAny (model X.prog X.w) X.A (eval a X.env) (fun v s₁ => wpAny (model X.prog X.w) X.A (eval b X.env) (fun u s₂ => wpAny (model X.prog X.w) X.A (f v u) Q X.xe s₂) X.xe s₁) X.xe s := by
 refine thn (ha pins s σ H _ I h) fun v s1 ⟨x, H1, I1, r1, q1⟩ => ?_
 refine thn (hb pins s1 σ H1 _ I1 q1) fun u s2 ⟨y, H2, I2, r2, q2⟩ => ?_
 exact hf v u s2 x y H2 I2 r1 r2 q2
theorem pe_op {op : Operator} {r : R2} (ho : OpR X (binaryOp op) r) (ha : PE X a ta) (hb : PE X b tb) : PE X (.BinOp a op b pos) (tOp r ta tb) := by
 intro pins s σ H Q I h
 exact wpAny_BinOp (binT ha hb I h fun v u s2 x y H2 I2 rx ry q => ho pins s2 σ H2 x y v u Q I2 rx ry q)
theorem pe_un {op : UnaryOp} {r : V -> Hp -> VK -> Prop} (ho : UnR X (unaryOp op) r) (ha : PE X a ta) : PE X (.UnaryOp op a pos) (tUn r ta) := by
 intro pins s σ H Q I h
 exact UnaryOp_ (thn (ha pins s σ H _ I h) fun v s1 ⟨x, H1, I1, r1, q1⟩ => ho pins s1 σ H1 x v Q I1 r1 q1)
theorem opI {f : Value -> Value -> Sem Value} {C : Int -> Int -> Prop} {g : Int -> Int -> Int}
  (rule : ∀ (i j : Int) (t u : Tok) (s : Shared) (Q : Value -> Shared -> Prop) (E : Value -> Shared -> Prop), C i j -> Q (.int (g i j) s.toks) { s with toks := s.toks + 1 } -> wpAny (model X.prog X.w) X.A (f (.int i t) (.int j u)) Q E s) :
  OpR X f (rI C fun i j => .int (g i j)) := by
 intro pins s σ H x y v u Q I rx ry h
 obtain ⟨i, j, rfl, rfl, hc, q⟩ := h
 obtain ⟨t, rfl⟩ := rx
 obtain ⟨t', rfl⟩ := ry
 exact rule i j t t' s _ _ hc ⟨.int (g i j), H, I.tok _, ⟨_, rfl⟩, q⟩
theorem opI0 {f : Value -> Value -> Sem Value} {g : Int -> Int -> Int}
  (rule : ∀ (i j : Int) (t u : Tok) (s : Shared) (Q : Value -> Shared -> Prop) (E : Value -> Shared -> Prop), Q (.int (g i j) s.toks) { s with toks := s.toks + 1 } -> wpAny (model X.prog X.w) X.A (f (.int i t) (.int j u)) Q E s) :
  OpR X f (rI0 fun i j => .int (g i j)) := by
 intro pins s σ H x y v u Q I rx ry h
 obtain ⟨i, j, rfl, rfl, q⟩ := h
 obtain ⟨t, rfl⟩ := rx
 obtain ⟨t', rfl⟩ := ry
 exact rule i j t t' s _ _ ⟨.int (g i j), H, I.tok _, ⟨_, rfl⟩, q⟩
theorem opB0 {f : Value -> Value -> Sem Value} {g : Int -> Int -> Bool}
  (rule : ∀ (i j : Int) (t u : Tok) (s : Shared) (Q : Value -> Shared -> Prop) (E : Value -> Shared -> Prop), Q (.bool (g i j)) s -> wpAny (model X.prog X.w) X.A (f (.int i t) (.int j u)) Q E s) :
  OpR X f (rI0 fun i j => .bl (g i j)) := by
 intro pins s σ H x y v u Q I rx ry h
 obtain ⟨i, j, rfl, rfl, q⟩ := h
 obtain ⟨t, rfl⟩ := rx
 obtain ⟨t', rfl⟩ := ry
 exact rule i j t t' s _ _ ⟨.bl (g i j), H, I, rfl, q⟩
def CPow (i j : Int) : Prop := 0 <= j /\ j <= 1000000 /\ i.natAbs < 2 ^ 64
def CMul (i j : Int) : Prop := (-(2 ^ 64) < i /\ i < 2 ^ 64) \/ (-(2 ^ 64) < j /\ j < 2 ^ 64)
theorem CMul.ok {i j : Int} (h : CMul i j) : IntMulOk i j := by
 rcases h with ⟨h1, h2⟩ | ⟨h1, h2⟩
 ·exact .of_left (intBits_le_64 h1 h2)
 ·exact .of_right (intBits_le_64 h1 h2)
theorem op_add : OpR X (binaryOp .Add) (rI0 fun i j => .int (i + j)) := opI0 fun _ _ _ _ _ _ _ q => add_int q
theorem op_sub : OpR X (binaryOp .Sub) (rI0 fun i j => .int (i - j)) := opI0 fun _ _ _ _ _ _ _ q => sub_int q
theorem op_mod : OpR X (binaryOp .Mod) (rI (fun _ j => 0 < j) fun i j => .int (i % j)) := opI fun i j _ _ _ _ _ hc q => by
 have h1 : (0 : Int) < j := hc
 exact mod_int' (by omega) (by rw [Int.fmod_eq_emod_of_nonneg i (by omega)]; exact q)
theorem op_pow : OpR X (binaryOp .Pow) (rI CPow fun i j => .int (i ^ j.toNat)) := opI fun _ _ _ _ _ _ _ hc q => pow_int_small hc.1 hc.2.1 hc.2.2 q
theorem unI {f : Value -> Sem Value} {g : Int -> Int}
  (rule : ∀ (i : Int) (t : Tok) (s : Shared) (Q : Value -> Shared -> Prop) (E : Value -> Shared -> Prop), Q (.int (g i) s.toks) { s with toks := s.toks + 1 } -> wpAny (model X.prog X.w) X.A (f (.int i t)) Q E s) :
  UnR X f (rU fun i => .int (g i)) := by
 intro pins s σ H x v Q I rx h
 obtain ⟨i, rfl, q⟩ := h
 obtain ⟨t, rfl⟩ := rx
 exact rule i t s _ _ ⟨.int (g i), H, I.tok _, ⟨_, rfl⟩, q⟩
theorem un_neg : UnR X (unaryOp .USub) (rU fun i => .int (-i)) := unI fun _ _ _ _ _ q => neg_int q
end
def scal : V -> V -> Bool
 | .non, .non => true | .non, .int _ => true | .int _, .non => true | .non, .bl _ => true | .bl _, .non => true | .non, .str _ => true | .str _, .non => true
 | .int _, .int _ => true | .bl _, .bl _ => true | .str _, .str _ => true | .byt _, .byt _ => true
 | .int _, .str _ => true | .str _, .int _ => true | .bl _, .str _ => true | .str _, .bl _ => true
 | _, _ => false
def rEq : R2 := fun x y H Q => scal x y = true /\ Q (.bl (decide (x = y))) H
def rNe : R2 := fun x y H Q => scal x y = true /\ Q (.bl (!decide (x = y))) H
theorem dec_int {i j : Int} : decide (V.int i = V.int j) = (i == j) := by
 rw [Bool.eq_iff_iff]
 simp
theorem dec_bl {i j : Bool} : decide (V.bl i = V.bl j) = (i == j) := by
 rw [Bool.eq_iff_iff]
 simp
theorem dec_str {i j : Str} : decide (V.str i = V.str j) = (i == j) := by
 rw [Bool.eq_iff_iff]
 simp
theorem dec_byt {i j : Array UInt8} : decide (V.byt i = V.byt j) = (i.toList == j.toList) := by
 rw [Bool.eq_iff_iff]
 cases i
 cases j
 simp
section
variable {X : Cx} {a b c : Expr} {ta tb tc : TE} {pos : Pos}
theorem fin_bl {pins : List (Addr × Obj)} {σ : St} {H : Hp} {s : Shared} {Q : VK} {k k' : Bool} (I : Inv X pins σ H s) (q : Q (.bl k) H) (e : k = k') : EP X pins σ Q (.bool k') s := by
 subst e
 exact ⟨.bl k, H, I, rfl, q⟩
theorem op_eq : OpR X (compareOp .Eq) rEq := by
 intro pins s σ H x y v u Q I rx ry h
 obtain ⟨hs, q⟩ := h
 cases x with
 | non =>
  cases rx
  cases y with
  | non => cases ry; exact PySem.EqNone.eq_none_none (fin_bl I q (by simp))
  | bl j => cases ry; exact PySem.EqNone.eq_none_bool (fin_bl I q (by simp))
  | int j => obtain ⟨t', rfl⟩ := ry; exact PySem.EqNone.eq_none_int (fin_bl I q (by simp))
  | str j => obtain ⟨t', rfl⟩ := ry; exact PySem.EqNone.eq_none_str (fin_bl I q (by simp))
  | _ => exact absurd (show false = true from hs) Bool.false_ne_true
 | bl i =>
  cases rx
  cases y with
  | non => cases ry; exact PySem.EqNone.eq_bool_none (fin_bl I q (by simp))
  | bl j => cases ry; exact eq_bool (fin_bl I q dec_bl)
  | str j => obtain ⟨t', rfl⟩ := ry; exact PySem.EqMixed.eq_bool_str (fin_bl I q (by simp))
  | _ => exact absurd (show false = true from hs) Bool.false_ne_true
 | int i =>
  obtain ⟨t, rfl⟩ := rx
  cases y with
  | non => cases ry; exact PySem.EqNone.eq_int_none (fin_bl I q (by simp))
  | int j => obtain ⟨t', rfl⟩ := ry; exact eq_int (fin_bl I q dec_int)
  | str j => obtain ⟨t', rfl⟩ := ry; exact PySem.EqMixed.eq_int_str (fin_bl I q (by simp))
  | _ => exact absurd (show false = true from hs) Bool.false_ne_true
 | str i =>
  obtain ⟨t, rfl⟩ := rx
  cases y with
  | non => cases ry; exact PySem.EqNone.eq_str_none (fin_bl I q (by simp))
  | bl j => cases ry; exact PySem.EqMixed.eq_str_bool (fin_bl I q (by simp))
  | int j => obtain ⟨t', rfl⟩ := ry; exact PySem.EqMixed.eq_str_int (fin_bl I q (by simp))
  | str j => obtain ⟨t', rfl⟩ := ry; exact eq_str (fin_bl I q dec_str)
  | _ => exact absurd (show false = true from hs) Bool.false_ne_true
 | byt i =>
  obtain ⟨t, rfl⟩ := rx
  cases y with
  | byt j => obtain ⟨t', rfl⟩ := ry; exact PySem.W.eq_bytes (fin_bl I q dec_byt)
  | _ => exact absurd (show false = true from hs) Bool.false_ne_true
 | _ => cases y <;> exact absurd (show false = true from hs) Bool.false_ne_true
theorem op_ne : OpR X (compareOp .NotEq) rNe := by
 intro pins s σ H x y v u Q I rx ry h
 obtain ⟨hs, q⟩ := h
 cases x with
 | non =>
  cases rx
  cases y with
  | non => cases ry; exact PySem.EqNone.ne_none_none (fin_bl I q (by simp))
  | bl j => cases ry; exact PySem.EqNone.ne_none_bool (fin_bl I q (by simp))
  | int j => obtain ⟨t', rfl⟩ := ry; exact PySem.EqNone.ne_none_int (fin_bl I q (by simp))
  | str j => obtain ⟨t', rfl⟩ := ry; exact PySem.EqNone.ne_none_str (fin_bl I q (by simp))
  | _ => exact absurd (show false = true from hs) Bool.false_ne_true
 | bl i =>
  cases rx
  cases y with
  | non => cases ry; exact PySem.EqNone.ne_bool_none (fin_bl I q (by simp))
  | bl j => cases ry; exact ne_bool (fin_bl I q (congrArg not dec_bl))
  | str j => obtain ⟨t', rfl⟩ := ry; exact PySem.EqMixed.ne_bool_str (fin_bl I q (by simp))
  | _ => exact absurd (show false = true from hs) Bool.false_ne_true
 | int i =>
  obtain ⟨t, rfl⟩ := rx
  cases y with
  | non => cases ry; exact PySem.EqNone.ne_int_none (fin_bl I q (by simp))
  | int j => obtain ⟨t', rfl⟩ := ry; exact ne_int (fin_bl I q (congrArg not dec_int))
  | str j => obtain ⟨t', rfl⟩ := ry; exact PySem.EqMixed.ne_int_str (fin_bl I q (by simp))
  | _ => exact absurd (show false = true from hs) Bool.false_ne_true
 | str i =>
  obtain ⟨t, rfl⟩ := rx
  cases y with
  | non => cases ry; exact PySem.EqNone.ne_str_none (fin_bl I q (by simp))
  | bl j => cases ry; exact PySem.EqMixed.ne_str_bool (fin_bl I q (by simp))
  | int j => obtain ⟨t', rfl⟩ := ry; exact PySem.EqMixed.ne_str_int (fin_bl I q (by simp))
  | str j => obtain ⟨t', rfl⟩ := ry; exact ne_str (fin_bl I q (congrArg not dec_str))
  | _ => exact absurd (show false = true from hs) Bool.false_ne_true
 | byt i =>
  obtain ⟨t, rfl⟩ := rx
  cases y with
  | byt j => obtain ⟨t', rfl⟩ := ry; exact PySem.W.ne_bytes (fin_bl I q (congrArg not dec_byt))
  | _ => exact absurd (show false = true from hs) Bool.false_ne_true
 | _ => cases y <;> exact absurd (show false = true from hs) Bool.false_ne_true
theorem op_lt : OpR X (compareOp .Lt) (rI0 fun i j => .bl (decide (i < j))) := opB0 fun _ _ _ _ _ _ _ q => lt_int q
theorem op_gt : OpR X (compareOp .Gt) (rI0 fun i j => .bl (decide (j < i))) := opB0 fun _ _ _ _ _ _ _ q => gt_int q
theorem op_isN : OpR X (compareOp .Is) (fun x y H Q => y = .non /\ Q (.bl (decide (x = .non))) H) := by
 intro pins s σ H x y v u Q I rx ry h
 obtain ⟨rfl, q⟩ := h
 cases ry
 refine is_none_gen (fin_bl I q ?_)
 cases x <;> first
  | (cases rx; rfl)
  | (obtain ⟨t, rfl⟩ := rx; rfl)
theorem op_notN : OpR X (compareOp .IsNot) (fun x y H Q => y = .non /\ Q (.bl (!decide (x = .non))) H) := by
 intro pins s σ H x y v u Q I rx ry h
 obtain ⟨rfl, q⟩ := h
 cases ry
 refine isnot_none_gen (fin_bl I q ?_)
 cases x <;> first
  | (cases rx; rfl)
  | (obtain ⟨t, rfl⟩ := rx; rfl)
theorem nomark (b : Expr) {op : CmpOp} (h : op ≠ .In := by decide) (h2 : op ≠ .NotIn := by decide) : behindInMarks op b = false := by
 have e1 : (op == CmpOp.In) = false := by cases op <;> first | rfl | exact absurd rfl h
 have e2 : (op == CmpOp.NotIn) = false := by cases op <;> first | rfl | exact absurd rfl h2
 cases b <;> simp [behindInMarks, e1, e2]
theorem pe_cmpR {op : CmpOp} {r : R2} (ho : OpR X (compareOp op) r) (ha : PE X a ta) (hb : PE X b tb) (hm : behindInMarks op b = false) : PE X (.Compare a [op] [b] pos) (tOp r ta tb) := by
 intro pins s σ H Q I h
 exact wpAny_Compare1 (binT ha hb I h fun v u s2 x y H2 I2 rx ry q => ho pins s2 σ H2 x y v u Q I2 rx ry q) hm
def tTest (t : TE) : TT := fun σ H Q => t σ H fun x H' => ∃ k, x = .bl k /\ Q k H'
theorem pt_cmpR {op : CmpOp} {r : R2} (ho : OpR X (compareOp op) r) (ha : PE X a ta) (hb : PE X b tb) (hm : behindInMarks op b = false) : PT X (.Compare a [op] [b] pos) (tTest (tOp r ta tb)) := by
 intro pins s σ H Q I h
 refine wpAny_isTrue_Compare1 (thn (ha pins s σ H _ I h) fun v s1 ⟨x, H1, I1, r1, q1⟩ => thn (hb pins s1 σ H1 _ I1 q1) fun u s2 ⟨y, H2, I2, r2, q2⟩ =>
  thn (ho pins s2 σ H2 x y v u _ I2 r1 r2 q2) fun c s3 ⟨z, H3, I3, r3, k, e, q3⟩ => ?_) hm
 subst e
 cases r3
 exact wpAny_truthy_bool ⟨H3, I3, q3⟩
def tChain (r r' : R2) (ta tb tc : TE) : TE := fun σ H Q => ta σ H fun x H1 => tb σ H1 fun y H2 => r x y H2 fun z H3 => ∃ k, z = .bl k /\
 (if k = true then tc σ H3 fun w' H4 => r' y w' H4 Q else Q (.bl false) H3)
theorem pe_chain {op op' : CmpOp} {r r' : R2} (ho : OpR X (compareOp op) r) (ho' : OpR X (compareOp op') r') (ha : PE X a ta) (hb : PE X b tb) (hc : PE X c tc)
  (hm : lastMarks [op, op'] [b, c] = false := by with_unfolding_all rfl) : PE X (.Compare a [op, op'] [b, c] pos) (tChain r r' ta tb tc) := by
 intro pins s σ H Q I h
 refine Compare_chain (thn (ha pins s σ H _ I h) fun v s1 ⟨x, H1, I1, r1, q1⟩ => chain_link (thn (hb pins s1 σ H1 _ I1 q1) fun u s2 ⟨y, H2, I2, r2, q2⟩ =>
  thn (ho pins s2 σ H2 x y v u _ I2 r1 r2 q2) fun d s3 ⟨z, H3, I3, r3, k, e, q3⟩ => ?_)) hm
 subst e
 cases r3
 refine wpAny_truthy_bool ?_
 cases k with
 | false => exact ite_ff ⟨.bl false, H3, I3, rfl, q3⟩
 | true => exact ite_tt (chain_last (thn (hc pins s3 σ H3 _ I3 q3) fun w' s4 ⟨z', H4, I4, r4, q4⟩ => ho' pins s4 σ H4 y z' u w' Q I4 r2 r4 q4))
theorem line63 : (sizeLine : Nat) < 2 ^ 63 := by rw [sizeLine_eq]; decide
theorem op_add_str : OpR X (binaryOp .Add) (fun x y H Q => ∃ i j, x = .str i /\ y = .str j /\ i.length + j.length <= sizeLine /\ Q (.str (i ++ j)) H) := by
 intro pins s σ H x y v u Q I rx ry h
 obtain ⟨i, j, rfl, rfl, hz, q⟩ := h
 obtain ⟨t, rfl⟩ := rx
 obtain ⟨t', rfl⟩ := ry
 exact add_str (fun t' tk => ⟨.str (i ++ j), H, I.tok _, ⟨_, rfl⟩, q⟩) hz
theorem vals1 {x : V} {us : List Value} (r : Vals [x] us) : ∃ u, us = [u] /\ RelV x u := by
 cases r with
 | cons r1 r2 => cases r2; exact ⟨_, rfl, r1⟩
theorem vals2 {x y : V} {us : List Value} (r : Vals [x, y] us) : ∃ u w', us = [u, w'] /\ RelV x u /\ RelV y w' := by
 cases r with
 | cons r1 r2 =>
  cases r2 with
  | cons r3 r4 => cases r4; exact ⟨_, _, rfl, r1, r3⟩
theorem call_max2 (hc : X.calm = true) : CallR X (.builtin "max") (fun xs H Q => ∃ i j, xs = [.int i, .int j] /\ Q (.int (if j > i then j else i)) H) := by
 intro pins s σ H xs us Q I r h
 obtain ⟨i, j, rfl, q⟩ := h
 obtain ⟨u, w', rfl, ⟨t, rfl⟩, ⟨t', rfl⟩⟩ := vals2 r
 refine max_two_ints (I.ok.hd hc) fun h' tk k => ⟨_, H, I.kept k, ?_, q⟩
 by_cases hj : j > i
 ·rw [if_pos hj, if_pos hj]; exact ⟨_, rfl⟩
 ·rw [if_neg hj, if_neg hj]; exact ⟨_, rfl⟩
theorem call_min2 (hc : X.calm = true) : CallR X (.builtin "min") (fun xs H Q => ∃ i j, xs = [.int i, .int j] /\ Q (.int (if j < i then j else i)) H) := by
 intro pins s σ H xs us Q I r h
 obtain ⟨i, j, rfl, q⟩ := h
 obtain ⟨u, w', rfl, ⟨t, rfl⟩, ⟨t', rfl⟩⟩ := vals2 r
 refine min_two_ints (I.ok.hd hc) fun h' tk k => ⟨_, H, I.kept k, ?_, q⟩
 by_cases hj : j < i
 ·rw [if_pos hj, if_pos hj]; exact ⟨_, rfl⟩
 ·rw [if_neg hj, if_neg hj]; exact ⟨_, rfl⟩
theorem call_int1 : CallR X (.type "int") (fun xs H Q => (∃ i, xs = [.int i] /\ Q (.int i) H) \/ ∃ k, xs = [.bl k] /\ Q (.int (if k then 1 else 0)) H) := by
 intro pins s σ H xs us Q I r h
 rcases h with ⟨i, rfl, q⟩ | ⟨k, rfl, q⟩
 ·obtain ⟨u, rfl, t, rfl⟩ := vals1 r
  exact call_int_int ⟨.int i, H, I, ⟨_, rfl⟩, q⟩
 ·obtain ⟨u, rfl, r1⟩ := vals1 r
  cases r1
  exact call_int_bool ⟨.int (if k then 1 else 0), H, I.tok _, ⟨_, rfl⟩, q⟩
theorem call_str_int : CallR X (.type "str") (fun xs H Q => ∃ i, xs = [.int i] /\ i.natAbs.log2 < 1920 /\ Q (.str (toString i)) H) := by
 intro pins s σ H xs us Q I r h
 obtain ⟨i, rfl, hz, q⟩ := h
 obtain ⟨u, rfl, t, rfl⟩ := vals1 r
 exact PySem.P.str_of_int hz ⟨.str _, H, I.tok _, ⟨_, rfl⟩, q⟩
end
end L2
namespace L2
open PySem PySem.Spec PyProof.Rows
structure ObjM (h : Heap) (x dx C : Addr) (mA : Str -> Option Value) : Prop where
 obj : h.get? x = some (PySem.W.instObj C dx)
 ns : h.Ns1 dx mA
 ne : dx ≠ x
theorem lookIn_ns {h : Heap} {dx : Addr} {mA : Str -> Option Value} (n : h.Ns1 dx mA) : ∃ od, h.get? dx = some od /\ ∀ name, PySem.W.lookIn name od = some (mA name) := by
 obtain ⟨o, es, ep, ho, hd, hk, _, hm⟩ := n
 refine ⟨o, ho, fun name => ?_⟩
 have e := hm name
 unfold nsFind findBy at e
 rw [<- Array.find?_toList] at e
 unfold PySem.W.lookIn
 rw [hd]
 dsimp only
 split
 ·rename_i y q
  rw [q] at e
  exact congrArg some e
 ·rename_i q
  rw [q] at e
  have a : es.toList.any (·.refKey) = false := by
   rw [List.any_eq_false]
   intro y hy
   obtain ⟨z, t, hkey⟩ := hk y (Array.mem_toList_iff.mp hy)
   simp [DictEntry.refKey, hkey]
  have a' : ¬ es.toList.any (·.refKey) = true := by rw [a]; exact Bool.false_ne_true
  rw [if_neg a']
  exact congrArg some e
theorem ObjM.look {h : Heap} {x dx C : Addr} {mA : Str -> Option Value} (I : ObjM h x dx C mA) : ∃ od, PySem.W.InstAt h x (PySem.W.instObj C dx) C (some od) /\ ∀ name, PySem.W.lookIn name od = some (mA name) :=
 let ⟨od, ho, hl⟩ := lookIn_ns I.ns
 ⟨od, ⟨I.obj, rfl, rfl, ho⟩, hl⟩
section
variable {prog : Program} {w : World} {A : Around} {E : Value -> Shared -> Prop} {s : Shared} {K : Fg_} {x dx C f : Addr} {mA : Str -> Option Value} {name : Str} {v : Value}
theorem get_map {expr : Bool} {Q : Value -> Shared -> Prop} (X : K.In s.heap) (I : ObjM s.heap x dx C mA) (hg : PySem.W.plainGet K C name = true) (hh : PySem.W.hasDictIn K C = true)
  (ha : PySem.W.findIn K (.ref C) name = some none) (hv : mA name = some v) (hv' : PySem.W.handedIn v = true) (h : Q v { s with toks := s.toks + 1 }) :
  wpAny (model prog w) A (getAttr (.ref x) name expr) Q E s := by
 obtain ⟨od, J, hl⟩ := I.look
 exact PySem.W.get_value X J (PySem.W.plainGet_of hg).1 (PySem.W.findObj_own hh ha rfl (by rw [hl, hv])) hv' h
theorem get_meth {pl : Sem Bool} {Q : Value × List Value -> Shared -> Prop} (X : K.In s.heap) (I : ObjM s.heap x dx C mA) (hg : PySem.W.plainGet K C name = true)
  (hf : PySem.W.findIn K (.ref C) name = some (some (.ref f))) (ht : PySem.W.isFn K (.ref f) = true) (hv : mA name = none) (h : Q (.ref f, [.ref x]) s) :
  wpAny (model prog w) A (getMethod (.ref x) name pl) Q E s := by
 obtain ⟨od, J, hl⟩ := I.look
 exact PySem.W.method_fn X J (PySem.W.plainGet_of hg).1 (PySem.W.plainGet_of hg).2 hf (beq_iff_eq.mp ht) (by show (PySem.W.lookIn name od).map (·.isSome) = some false; rw [hl, hv]; rfl) h
theorem set_map {ns : List Str} {Q : Unit -> Shared -> Prop} (X : K.In s.heap) (I : ObjM s.heap x dx C mA)
  (hs : PySem.W.findIn K (.ref C) "__setattr__" = some (some (.builtin "object.__setattr__"))) (hp : PySem.W.plainOver K C = true) (ht : PySem.W.takerIn K C name = some none) (hh : PySem.W.hasDictIn K C = true)
  (hw : PySem.Within mA ns) (hsz : ns.length <= sizeLine)
  (h : ∀ h', ObjM h' x dx C (fun y => if y = name then some v else mA y) -> Heap.SameBut dx s.heap h' -> Q () { s with heap := h', toks := s.toks + 2 }) :
  wpAny (model prog w) A (setAttr (.ref x) name v) Q E s := by
 obtain ⟨od, J, hl⟩ := I.look
 refine PySem.W.set_plain X J hs (PySem.W.osa_open (s := { s with toks := s.toks + 1 }) (r := none) X J hp ht fun b => ?_)
 obtain ⟨cd, hc, hd'⟩ := PySem.W.any_some hh
 have hx : s.heap.get? x = some ⟨.ref C, some dx, .plain, #[]⟩ := I.obj
 refine wpAny_bind (wpAny_pure (wpAny_bind (wpAny_bind (wpAny_loadPart hx (wpAny_bind (PySem.W.Looks.here (s := { s with toks := s.toks + 1 }) (PySem.W.looks_clsIn X hc) ?_))))))
 rw [hd']
 refine wpAny_pure (a := some dx) (wpAny_bind (wpAny_pure (wpAny_bind ?_)))
 refine wpAny_nsSet1 (s := { s with toks := s.toks + 1 }) I.ns fun h' hn2 hs2 => ?_
 obtain ⟨oD, esD, epD, hoD, hdD, hcD⟩ := hn2.count (PySem.Within.cons name v hw)
 refine wpAny_bind (wpAny_lookBehind hoD (by rw [hdD]; exact pastItsLine_dict (Nat.le_trans hcD (by rw [List.length_cons]; omega))) ?_)
 exact wpAny_pure (h _ ⟨(hs2.2 _ (Ne.symm I.ne)).trans I.obj, hn2, I.ne⟩ hs2)
theorem make_map {R : Result -> Shared -> Prop} {vs : List Value} {kw : List (Str × Value)} (X : K.In s.heap) (hm : PySem.W.makesIn K C = true)
  (hi : PySem.W.findIn K (.ref C) "__init__" = some (some (.ref f))) (hf : PySem.W.typeIn K (.ref f) = some (.type "function"))
  (h : codeAny (model prog w) (A.under (.builtin "type.__call__" ⟨.ref C :: vs, kw⟩)) (.call (.ref f) ⟨.ref (s.heap.objs.size + 1) :: vs, kw⟩) (PySem.W.InitBack (s.heap.objs.size + 1) R)
   { s with heap := (s.heap.push PySem.W.emptyDict).push (PySem.W.instObj C s.heap.objs.size) }) :
  codeAny (model prog w) A (.call (.ref C) ⟨vs, kw⟩) R s := by
 obtain ⟨hh, g, d, t, os⟩ := s
 exact PySem.W.make_core (PySem.W.makes_of X hm) (PySem.W.looks_findIn X hi) (fun self => PySem.W.bind_fn X self hf) (.inl rfl) h
end
def putF (f : Str) (v : V) : List (Str × V) -> List (Str × V)
 | [] => [(f, v)]
 | (g, x) :: r => if g = f then (g, v) :: r else (g, x) :: putF f v r
theorem lookup_putF (f g : Str) (v : V) : ∀ fs : List (Str × V), (putF f v fs).lookup g = if g = f then some v else fs.lookup g
 | [] => by
  show List.lookup g [(f, v)] = _
  by_cases h : g = f
  ·have hb : (g == f) = true := beq_iff_eq.mpr h
   simp only [List.lookup, hb, if_pos h]
  ·have hb : (g == f) = false := beq_eq_false_iff_ne.mpr h
   simp only [List.lookup, hb, if_neg h]
 | (k, x) :: r => by
  have ih := lookup_putF f g v r
  rw [show putF f v ((k, x) :: r) = (if k = f then (k, v) :: r else (k, x) :: putF f v r) from rfl]
  by_cases hk : k = f
  ·rw [if_pos hk]
   by_cases h : g = k
   ·have hb : (g == k) = true := beq_iff_eq.mpr h
    simp only [List.lookup, hb, if_pos (h.trans hk)]
   ·have hb : (g == k) = false := beq_eq_false_iff_ne.mpr h
    simp only [List.lookup, hb, if_neg (fun e : g = f => h (e.trans hk.symm))]
  ·rw [if_neg hk]
   by_cases h : g = k
   ·have hb : (g == k) = true := beq_iff_eq.mpr h
    simp only [List.lookup, hb, if_neg (fun e : g = f => hk (h.symm.trans e))]
   ·have hb : (g == k) = false := beq_eq_false_iff_ne.mpr h
    simp only [List.lookup, hb]
    exact ih
theorem keys_putF (f : Str) (v : V) : ∀ fs : List (Str × V), f ∈ (putF f v fs).map (·.1) /\ ∀ g, g ∈ fs.map (·.1) -> g ∈ (putF f v fs).map (·.1)
 | [] => ⟨by simp [putF], fun g h => by simp at h⟩
 | (k, x) :: r => by
  obtain ⟨i1, i2⟩ := keys_putF f v r
  rw [show putF f v ((k, x) :: r) = (if k = f then (k, v) :: r else (k, x) :: putF f v r) from rfl]
  by_cases hk : k = f
  ·rw [if_pos hk]
   subst hk
   exact ⟨by simp, fun g h => by simpa using h⟩
  ·rw [if_neg hk]
   refine ⟨?_, fun g h => ?_⟩
   ·rw [List.map_cons]
    exact List.mem_cons_of_mem _ i1
   ·rw [List.map_cons] at h ⊢
    rcases List.mem_cons.mp h with e | e
    ·exact List.mem_cons.mpr (.inl e)
    ·exact List.mem_cons_of_mem _ (i2 g e)
theorem length_putF (f : Str) (v : V) : ∀ fs : List (Str × V), (putF f v fs).length <= fs.length + 1
 | [] => by simp [putF]
 | (k, x) :: r => by
  have ih := length_putF f v r
  rw [show putF f v ((k, x) :: r) = (if k = f then (k, v) :: r else (k, x) :: putF f v r) from rfl]
  by_cases hk : k = f
  ·rw [if_pos hk, List.length_cons, List.length_cons]; omega
  ·rw [if_neg hk, List.length_cons, List.length_cons]; omega
theorem RelO.some_of {v : V} {o : Option Value} (r : RelO (some v) o) : ∃ u, o = some u /\ RelV v u := by
 cases o with
 | none => exact (show False from r).elim
 | some u => exact ⟨u, rfl, r⟩
theorem RelO.none_of {o : Option Value} (r : RelO none o) : o = none := by
 cases o with
 | none => rfl
 | some u => exact (show False from r).elim
theorem handed_of {v : V} {u : Value} (r : RelV v u) : PySem.W.handedIn u = true := by
 cases v with
 | non => cases (show u = Value.none from r); rfl
 | bl b => cases (show u = Value.bool b from r); rfl
 | int i => obtain ⟨t, e⟩ := (show ∃ t, u = Value.int i t from r); cases e; rfl
 | str x => obtain ⟨t, e⟩ := (show ∃ t, u = Value.str x t from r); cases e; rfl
 | byt b => obtain ⟨t, e⟩ := (show ∃ t, u = Value.bytes b t from r); cases e; rfl
 | flt b => obtain ⟨t, e⟩ := (show ∃ t, u = Value.float b t from r); cases e; rfl
 | ref a => cases (show u = Value.ref a from r); rfl
 | ty n => cases (show u = Value.type n from r); rfl
section
variable {P : Program} {w : World} {H H' : Hp} {h h' : Heap} {a C dx : Addr} {fs fs' : List (Str × V)}
theorem ins_get (hok : HOk P w H h) (e : H a = some (.ins C dx fs)) : ∃ mA, ObjM h a dx C mA /\ (∀ f, RelO (fs.lookup f) (mA f)) /\ PySem.Within mA (fs.map (·.1)) /\ fs.length <= 1000 /\ H dx = some (.own a) := by
 obtain ⟨d, z, ne, ob, mA, n, r, q⟩ := (show ObjOk P w H h a (.ins C dx fs) from hok a _ e)
 exact ⟨mA, ⟨ob, n, ne⟩, r, q, z, d⟩
end
structure Cls (K : Fg_) (C : Addr) : Prop where
 pg : PySem.W.plainGet K C Str.empty = true
 hd : PySem.W.hasDictIn K C = true
 po : PySem.W.plainOver K C = true
 sa : PySem.W.findIn K (.ref C) "__setattr__" = some (some (.builtin "object.__setattr__"))
theorem Cls.get {K : Fg_} {C : Addr} (c : Cls K C) (f : Str) : PySem.W.plainGet K C f = true := c.pg
def NoAttr (K : Fg_) (C : Addr) (f : Str) : Prop := PySem.W.findIn K (.ref C) f = some none
theorem NoAttr.taker {K : Fg_} {C : Addr} {f : Str} (n : NoAttr K C f) : PySem.W.takerIn K C f = some none := by
 unfold PySem.W.takerIn
 rw [show PySem.W.findIn K (.ref C) f = some none from n]
 rfl
structure Con (K : Fg_) (C : Addr) (f : Str) (v : V) (u : Value) : Prop where
 at_ : PySem.W.findIn K (.ref C) f = some (some u)
 rel : RelV v u
 get : PySem.W.specialIn K u "__get__" = some none
 cp : PySem.W.copiedNames.contains f = false
structure Meth (K : Fg_) (C : Addr) (m : Str) (f : Addr) : Prop where
 at_ : PySem.W.findIn K (.ref C) m = some (some (.ref f))
 fn : PySem.W.isFn K (.ref f) = true
 kp : PySem.W.keepIn K (.ref f) = true
section
variable {X : Cx} {pins : List (Addr × Obj)} {σ : St} {H : Hp} {s : Shared} {a C dx : Addr} {fs : List (Str × V)} {f : Str} {v : V} {A : Around} {E : Value -> Shared -> Prop}
theorem getattr_ok {b : Bool} {Q : Value -> Shared -> Prop} (I : Inv X pins σ H s) (e : H a = some (.ins C dx fs)) (c : Cls X.K C) (n : NoAttr X.K C f) (l : fs.lookup f = some v)
  (h : ∀ u s', Inv X pins σ H s' -> RelV v u -> Q u s') : wpAny (model X.prog X.w) A (getAttr (.ref a) f b) Q E s := by
 obtain ⟨mA, O, r, _, _, _⟩ := ins_get I.hok e
 obtain ⟨u, hu, ru⟩ := RelO.some_of (v := v) (o := mA f) (by rw [<- l]; exact r f)
 exact get_map I.kIn O (c.get f) c.hd n hu (handed_of ru) (h u _ (I.tok _) ru)
theorem getmeth_ok {m : Str} {g : Addr} {pl : Sem Bool} {Q : Value × List Value -> Shared -> Prop} (I : Inv X pins σ H s) (e : H a = some (.ins C dx fs)) (c : Cls X.K C) (k : Meth X.K C m g) (l : fs.lookup m = none)
  (h : Q (.ref g, [.ref a]) s) : wpAny (model X.prog X.w) A (getMethod (.ref a) m pl) Q E s := by
 obtain ⟨mA, O, r, _, _, _⟩ := ins_get I.hok e
 have hn : mA m = none := RelO.none_of (by rw [<- l]; exact r m)
 exact get_meth I.kIn O (c.get m) k.at_ k.fn hn h
theorem setattr_ok {y : V} {u : Value} {Q : Unit -> Shared -> Prop} (I : Inv X pins σ H s) (e : H a = some (.ins C dx fs)) (c : Cls X.K C) (n : NoAttr X.K C f) (hl : fs.length < 1000) (ry : RelV y u)
  (h : ∀ s', Inv X pins σ (upd H a (.ins C dx (putF f y fs))) s' -> Q () s') : wpAny (model X.prog X.w) A (setAttr (.ref a) f u) Q E s := by
 obtain ⟨mA, O, r, wi, _, ho⟩ := ins_get I.hok e
 have hz : (fs.map (·.1)).length <= sizeLine := by rw [List.length_map, sizeLine_eq]; omega
 refine set_map I.kIn O c.sa c.po n.taker c.hd wi hz fun h' O' sb => h _ ?_
 have hd : ∃ o, h'.get? dx = some o := let ⟨o, _, _, e', _⟩ := O'.ns; ⟨o, e'⟩
 refine I.write (x := a) (e := dx) (by rw [e]; exact True.intro) (.inr ho) (fun b q hb z => (sb.2 b hb).trans z) hd ?_
 refine ⟨by rw [upd_ne O.ne]; exact ho, ?_, O.ne, O'.obj, _, O'.ns, fun g => ?_, fun g hg => ?_⟩
 ·have := length_putF f y fs; omega
 ·show RelO ((putF f y fs).lookup g) (if g = f then some u else mA g)
  rw [lookup_putF]
  by_cases q : g = f
  ·rw [if_pos q, if_pos q]; exact ry
  ·rw [if_neg q, if_neg q]; exact r g
 ·by_cases q : g = f
  ·rw [q]; exact (keys_putF f y fs).1
  ·refine (keys_putF f y fs).2 g (wi g fun z => hg ?_)
   show (if g = f then some u else mA g) = none
   rw [if_neg q]; exact z
theorem Inv.made (I : Inv X pins σ H s) : Inv X pins σ (upd (upd H s.heap.objs.size (.own (s.heap.objs.size + 1))) (s.heap.objs.size + 1) (.ins C s.heap.objs.size []))
  { s with heap := (s.heap.push PySem.W.emptyDict).push (PySem.W.instObj C s.heap.objs.size) } := by
 have e1 : (s.heap.push PySem.W.emptyDict).get? s.heap.objs.size = some PySem.W.emptyDict := Heap.get?_push_size s.heap rfl
 have e2 : ((s.heap.push PySem.W.emptyDict).push (PySem.W.instObj C s.heap.objs.size)).get? (s.heap.objs.size + 1) = some (PySem.W.instObj C s.heap.objs.size) := by
  have := Heap.get?_push_size (s.heap.push PySem.W.emptyDict) (o := PySem.W.instObj C s.heap.objs.size) rfl
  rwa [Heap.size_push] at this
 have e3 : (s.heap.push PySem.W.emptyDict).Ns s.heap.objs.size (fun _ => none) := ⟨PySem.W.emptyDict, #[], _, e1, rfl, (fun e he => absurd he (by simp)), fun _ => rfl⟩
 have I1 := I.laid (a := s.heap.objs.size) (o := .own (s.heap.objs.size + 1)) (h' := s.heap.push PySem.W.emptyDict) (t' := s.toks) (fun b u q => Heap.get?_push_of_some _ q) (Nat.le_refl _) ⟨_, e1⟩
 refine I1.laid (a := s.heap.objs.size + 1) (o := .ins C s.heap.objs.size []) (t' := s.toks) (fun b u q => Heap.get?_push_of_some _ q) (Nat.le_of_eq (Heap.size_push _ _)) ?_
 have ne : s.heap.objs.size ≠ s.heap.objs.size + 1 := Nat.ne_of_lt (Nat.lt_succ_self _)
 refine ⟨by rw [upd_ne ne, upd_same], Nat.zero_le _, ne, e2, fun _ => none, (Heap.Ns1.of_empty e3).at fun o q => Heap.get?_push_of_some _ q, fun _ => True.intro, fun y hy => absurd rfl hy⟩
theorem attr_of {prog : Program} {w : World} {env : Env} {e : Expr} {f : Str} {pos : Pos} {s : Shared} {Q : Value -> Shared -> Prop} (hb : attributeBase e f env (eval e env) = eval e env)
  (h : wpAny (model prog w) A (eval e env) (fun o s₁ => wpAny (model prog w) A (getAttr o f true) Q E s₁) E s) : wpAny (model prog w) A (eval (.Attribute e f pos) env) Q E s :=
 Attribute_any_ h (by rw [arm_eval_Attribute, hb])
end
def tFld (K : Fg_) (ta : TE) (f : Str) : TE := fun σ H Q => ta σ H fun x H1 => ∃ a C dx fs v, x = .ref a /\ H1 a = some (.ins C dx fs) /\ Cls K C /\ NoAttr K C f /\ fs.lookup f = some v /\ Q v H1
def sFld (K : Fg_) (ta tv : TE) (f : Str) : TS := fun D σ H => tv σ H fun y H1 => ta σ H1 fun x H2 => ∃ a C dx fs, x = .ref a /\ H2 a = some (.ins C dx fs) /\ Cls K C /\ NoAttr K C f /\ fs.length < 1000 /\
 D.nx σ (upd H2 a (.ins C dx (putF f y fs)))
section
variable {X : Cx} {o e value : Expr} {f : Str} {pos pos' tpos : Pos} {ta tv : TE}
theorem pe_fld (he : PE X e ta) (hb : attributeBase e f X.env (eval e X.env) = eval e X.env) : PE X (.Attribute e f pos) (tFld X.K ta f) := by
 intro pins s σ H Q I h
 refine attr_of hb (thn (he pins s σ H _ I h) fun u s1 ⟨x, H1, I1, rx, a, C, dx, fs, v, ex, ea, c, n, l, q⟩ => ?_)
 subst ex
 obtain rfl : u = Value.ref a := rx
 exact getattr_ok I1 ea c n l fun u' s2 I2 ru => ⟨v, H1, I2, ru, q⟩
theorem ps_fld (ha : PE X o ta) (hv : PE X value tv) (hs : swapsWith value (some (.Attribute o f pos')) pos.line X.env = pure false) : PS X (.Assign [.Attribute o f pos'] value pos) (sFld X.K ta tv f) := by
 intro pins s σ H D I h
 refine plainObj_wpAny_Assign_Attribute (thn (hv pins s σ H _ I h) fun u s1 ⟨y, H1, I1, ry, q⟩ => thn (ha pins s1 σ H1 _ I1 q) fun ov s2 ⟨x, H2, I2, rx, a, C, dx, fs, ex, ea, c, n, l, q2⟩ => ?_) hs
 subst ex
 obtain rfl : ov = Value.ref a := rx
 exact setattr_ok I2 ea c n l ry fun s3 I3 => ⟨σ, _, I3, q2⟩
end
section
variable {X : Cx} {pins : List (Addr × Obj)} {σ : St} {H : Hp} {s : Shared} {A : Around} {E : Value -> Shared -> Prop} {Q : Value -> Shared -> Prop} {c : Value} {b : Bool}
inductive TyOf (K : Fg_) (H : Hp) : V -> Value -> Prop where
 | non : TyOf K H .non (.type "NoneType")
 | bl (x : Bool) : TyOf K H (.bl x) (.type "bool")
 | int (i : Int) : TyOf K H (.int i) (.type "int")
 | str (x : Str) : TyOf K H (.str x) (.type "str")
 | flt (x : UInt64) : TyOf K H (.flt x) (.type "float")
 | lst {a : Addr} {xs : List V} (e : H a = some (.lst xs)) : TyOf K H (.ref a) (.type "list")
 | frz {a : Addr} {o : Obj} {xs : List V} (e : H a = some (.frz o (.lst xs))) : TyOf K H (.ref a) (.type "list")
 | tup {a : Addr} {xs : List V} (e : H a = some (.tup xs)) : TyOf K H (.ref a) (.type "tuple")
 | dK {a : Addr} {kvs : List (Key × V)} (e : H a = some (.dK kvs)) : TyOf K H (.ref a) (.type "dict")
 | dT {a : Addr} {kvs : List (List Key × V)} (e : H a = some (.dT kvs)) : TyOf K H (.ref a) (.type "dict")
 | ins {a C dx : Addr} {fs : List (Str × V)} (e : H a = some (.ins C dx fs)) (cl : Cls K C) (ha : PySem.W.findIn K (.ref C) "__class__" = some (some (.builtin "object.__class__")))
   (hn : PySem.W.specialIn K (.builtin "object.__class__") "__get__" = some (some (.builtin "getset_descriptor.__get__"))) (htk : PySem.W.takesIn K (.builtin "object.__class__") = some true)
   (hm : PySem.W.mroIn K C (.type "object") = some true) : TyOf K H (.ref a) (.ref C)
theorem isinst_ok {x : V} {u t : Value} (I : Inv X pins σ H s) (rx : RelV x u) (ty : TyOf X.K H x t) (e : PySem.W.kitOne X.K t c = some b) (h : ∀ tk, Q (.bool b) { s with toks := tk }) :
  wpAny (model X.prog X.w) A (call (.builtin "isinstance") [u, c]) Q E s := by
 cases ty with
 | non => cases (show u = Value.none from rx); exact PySem.W.kia_one PySem.W.kitx_none I.kIn True.intro e (fun z => nomatch z) h
 | bl y => cases (show u = Value.bool y from rx); exact PySem.W.kia_one PySem.W.kitx_bool I.kIn True.intro e (fun z => nomatch z) h
 | int i => obtain ⟨t, q⟩ := (show ∃ t, u = Value.int i t from rx); cases q; exact PySem.W.kia_one PySem.W.kitx_int I.kIn True.intro e (fun z => nomatch z) h
 | str y => obtain ⟨t, q⟩ := (show ∃ t, u = Value.str y t from rx); cases q; exact PySem.W.kia_one PySem.W.kitx_str I.kIn True.intro e (fun z => nomatch z) h
 | flt y => obtain ⟨t, q⟩ := (show ∃ t, u = Value.float y t from rx); cases q; exact PySem.W.kia_one PySem.W.kitx_float I.kIn True.intro e (fun z => nomatch z) h
 | @lst a xs ea =>
  cases (show u = Value.ref a from rx)
  obtain ⟨_, _, n, _, h1⟩ := (show ObjOk X.prog X.w H s.heap a (.lst xs) from I.hok a _ ea)
  exact PySem.W.kia_one PySem.W.kitx_list I.kIn ⟨_, h1, rfl⟩ e (fun z => nomatch z) h
 | @frz a ob xs ea =>
  cases (show u = Value.ref a from rx)
  obtain ⟨_, _, _, n, _, h1⟩ := (show ObjOk X.prog X.w H s.heap a (.frz ob (.lst xs)) from I.hok a _ ea)
  exact PySem.W.kia_one PySem.W.kitx_list I.kIn ⟨_, h1, rfl⟩ e (fun z => nomatch z) h
 | @tup a xs ea =>
  cases (show u = Value.ref a from rx)
  obtain ⟨_, _, _, p⟩ := (show ObjOk X.prog X.w H s.heap a (.tup xs) from I.hok a _ ea)
  obtain ⟨o, h1, h2, _⟩ := p
  exact PySem.W.kia_one PySem.W.kitx_tuple I.kIn ⟨o, h1, h2⟩ e (fun z => nomatch z) h
 | @dK a kvs ea =>
  cases (show u = Value.ref a from rx)
  obtain ⟨_, _, vs, _, p⟩ := (show ObjOk X.prog X.w H s.heap a (.dK kvs) from I.hok a _ ea)
  obtain ⟨o, es, ep, h1, h2, _⟩ := p
  exact PySem.W.kia_one PySem.W.kitx_dict I.kIn ⟨o, h1, h2.1⟩ e (fun z => nomatch z) h
 | @dT a kvs ea =>
  cases (show u = Value.ref a from rx)
  obtain ⟨_, _, xs, _, o, es, ep, h1, h2, _⟩ := (show ObjOk X.prog X.w H s.heap a (.dT kvs) from I.hok a _ ea)
  exact PySem.W.kia_one PySem.W.kitx_dict I.kIn ⟨o, h1, h2.1⟩ e (fun z => nomatch z) h
 | @ins a C dx fs ea cl ha hn htk hm =>
  cases (show u = Value.ref a from rx)
  obtain ⟨mA, O, _⟩ := ins_get I.hok ea
  obtain ⟨od, J, _⟩ := O.look
  exact PySem.W.kia_one (PySem.W.kitx_own (cl.get _) cl.hd ha hn htk hm) I.kIn J e (fun z => nomatch z) h
end
end L2
namespace L2
open PySem PySem.Spec PyProof.Rows
structure Room (k : Nat) (A : Around) : Prop where
 hd : A.handled = none
 dp : A.depth + 3 * k + 5 < recursionLimit
 un : A.units + 16 * k + 200 < cLine
theorem Room.mono {j k : Nat} {A : Around} (r : Room k A) (h : j <= k) : Room j A := ⟨r.hd, by have := r.dp; omega, by have := r.un; omega⟩
theorem Room.deeper {k : Nat} {A : Around} (r : Room (k + 1) A) (env : Env) : Room k (A.deeper env) :=
 ⟨r.hd, by have := r.dp; show A.depth + 1 + 3 * k + 5 < _; omega, by have := r.un; show A.units + 3 + 16 * k + 200 < _; omega⟩
theorem Room.in1 {k : Nat} {A : Around} (r : Room (k + 1) A) : Room k A.in1 :=
 ⟨r.hd, by have := r.dp; show A.depth + 3 * k + 5 < _; omega, by have := r.un; show A.units + 1 + 16 * k + 200 < _; omega⟩
theorem make_depth {A : Around} {C : Addr} {us : List Value} {kw : List (Str × Value)} : (A.under (.builtin "type.__call__" ⟨.ref C :: us, kw⟩)).depth = A.depth + 1 := by
 first | rfl | simp [Around.under, Code.weight, Code.isCreation, Code.isGuard, Code.isCaller, Code.frames, Code.isFrame, guardIds]
theorem make_units {A : Around} {C : Addr} {us : List Value} {kw : List (Str × Value)} : (A.under (.builtin "type.__call__" ⟨.ref C :: us, kw⟩)).units = A.units + 1 := by
 first | rfl | simp [Around.under, Code.cUnits, Code.frames, Code.isFrame]
theorem Room.make {k : Nat} {A : Around} (r : Room (k + 1) A) (C : Addr) (us : List Value) (kw : List (Str × Value)) : Room k (A.under (.builtin "type.__call__" ⟨.ref C :: us, kw⟩)) :=
 ⟨r.hd, by have := r.dp; rw [make_depth]; omega, by have := r.un; rw [make_units]; omega⟩
theorem Room.depth {k : Nat} {A : Around} (r : Room k A) : A.depth < recursionLimit := by have := r.dp; omega
theorem Room.units {k : Nat} {A : Around} (r : Room k A) : A.units + 64 < cLine := by have := r.un; omega
def tNil : TA := fun _ H Q => Q [] H
def tCons (ta : TE) (tr : TA) : TA := fun σ H Q => ta σ H fun x H1 => tr σ H1 fun xs H2 => Q (x :: xs) H2
section
variable {X : Cx} {e : Expr} {es : List Expr} {te : TE} {t : TA} {pos : Pos}
theorem pa_nil : PA X [] tNil := fun _ _ _ _ H Q I h => Calls.spliced_nil ⟨[], H, I, .nil, h⟩
theorem pa_cons (ha : PE X e te) (hr : PA X es t) (hs : starEach (e :: es) X.env = (false, eval e X.env) :: starEach es X.env := by rfl) : PA X (e :: es) (tCons te t) := by
 intro pos pins s σ H Q I h
 rw [hs]
 show wpAny _ _ (spliced ((false, eval e X.env) :: backTo pos (starEach es X.env))) _ _ s
 refine Calls.spliced_cons (thn (ha pins s σ H _ I h) fun u s1 ⟨x, H1, I1, r1, q1⟩ => ?_)
 exact thn (hr pos pins s1 σ H1 _ I1 q1) fun us s2 ⟨xs, H2, I2, r2, q2⟩ => ⟨x :: xs, H2, I2, .cons r1 r2, q2⟩
def tTup (t : TA) : TE := fun σ H Q => t σ H fun xs H1 => xs.length <= sizeLine /\ ∀ p, H1 p = none -> Q (.ref p) (upd H1 p (.tup xs))
def tLst (t : TA) : TE := fun σ H Q => t σ H fun xs H1 => xs.length <= sizeLine /\ ∀ p, H1 p = none -> Q (.ref p) (upd H1 p (.lst xs))
theorem pe_tup {x1} (h : PA X es t) : PE X (.Tuple es x1 pos) (tTup t) := by
 intro pins s σ H Q I hq
 refine wpAny_Tuple_spliced (thn (h pos pins s σ H _ I hq) fun us s1 ⟨xs, H1, I1, r, z, q⟩ => ⟨by rw [<- r.length]; exact z, ?_⟩)
 have hf : H1 s1.heap.objs.size = none := I1.hok.fresh (Nat.le_refl _)
 refine ⟨.ref s1.heap.objs.size, upd H1 s1.heap.objs.size (.tup xs), I1.laid (t' := s1.toks) (fun b u e => Heap.get?_push_of_some _ e) (Nat.le_refl _) ?_, rfl, q _ hf⟩
 exact ⟨z, us, r, ⟨_, Heap.get?_push_size _ rfl, rfl, _, rfl⟩⟩
theorem pe_lst (h : PA X es t) : PE X (.List es pos) (tLst t) := by
 intro pins s σ H Q I hq
 refine wpAny_List_spliced (thn (h pos pins s σ H _ I hq) fun us s1 ⟨xs, H1, I1, r, z, q⟩ => ⟨by rw [<- r.length]; exact z, ?_⟩)
 have hf : H1 s1.heap.objs.size = none := I1.hok.fresh (Nat.le_refl _)
 refine ⟨.ref s1.heap.objs.size, upd H1 s1.heap.objs.size (.lst xs), I1.laid (t' := s1.toks) (fun b u e => Heap.get?_push_of_some _ e) (Nat.le_refl _) ?_, rfl, q _ hf⟩
 exact ⟨z, us, 0, r, Heap.get?_push_size _ rfl⟩
end
abbrev Sp := List V -> Hp -> VK -> XK -> Prop
abbrev CXT := List Env -> Hp -> Shared -> XK -> Value -> Shared -> Prop
structure Env0 (P : Program) (w : World) (K : Fg_) (mg : Str -> Option Value) (base : Heap) (A : Around) (outer : List Env) (s : Shared) (H : Hp) : Prop where
 frames : A.frames = some outer
 mod : Mod K mg base
 bs : ∀ b o, base.get? b = some o -> s.heap.get? b = some o /\ H b = none
 bsz : base.objs.size <= s.heap.objs.size
 funs : s.heap.FunFrames base outer
 frf : ∀ b ∈ frs outer, H b = none
 hok : HOk P w H s.heap
 bare : AllBare s.gens
def CE (outer : List Env) (P : Program) (w : World) (H : Hp) (s : Shared) (Q : VK) (u : Value) (s' : Shared) : Prop :=
 ∃ v H', s'.os = s.os /\ AllBare s'.gens /\ Un (frs outer) [] H H' s.heap s'.heap /\ HOk P w H' s'.heap /\ RelV v u /\ Q v H'
def CR (CX : CXT) (outer : List Env) (P : Program) (w : World) (H : Hp) (s : Shared) (Q : VK) (E : XK) (r : Result) (s' : Shared) : Prop :=
 match r with
 | .ok (.ret u) => CE outer P w H s Q u s'
 | .ok _ => False
 | .error e => CX outer H s E e s'
structure FnOk (P : Program) (w : World) (K : Fg_) (mg : Str -> Option Value) (base : Heap) (CX : CXT) (k : Nat) (f : Addr) (fd : FuncData) (ps : List Str) (sp : Sp) : Prop where
 len : ∀ vs H Q E, sp vs H Q E -> vs.length = ps.length
 run : ∀ (A : Around) (outer : List Env) (s : Shared) (H : Hp) (args : Args) (us : List Value) (vs : List V) (Q : VK) (E : XK), Room k A -> Env0 P w K mg base A outer s H -> BindsTo s fd args (ps.zip us) -> Vals vs us -> sp vs H Q E ->
  codeAny (model P w) A (.call (.ref f) args) (CR CX outer P w H s Q E) s
theorem Env0.make {P : Program} {w : World} {K : Fg_} {mg : Str -> Option Value} {base : Heap} {A : Around} {outer : List Env} {s : Shared} {H : Hp} (e : Env0 P w K mg base A outer s H) (C : Addr) (us : List Value) (kw : List (Str × Value)) :
  Env0 P w K mg base (A.under (.builtin "type.__call__" ⟨.ref C :: us, kw⟩)) outer s H := ⟨by first | exact e.frames | (simpa [Around.under, Code.envs, Code.isFrame, pushEnvs] using e.frames), e.mod, e.bs, e.bsz, e.funs, e.frf, e.hok, e.bare⟩
theorem Env0.in1 {P : Program} {w : World} {K : Fg_} {mg : Str -> Option Value} {base : Heap} {A : Around} {outer : List Env} {s : Shared} {H : Hp} (e : Env0 P w K mg base A outer s H) :
  Env0 P w K mg base A.in1 outer s H := ⟨e.frames, e.mod, e.bs, e.bsz, e.funs, e.frf, e.hok, e.bare⟩
section
variable {X : Cx} {pins : List (Addr × Obj)} {σ : St} {H : Hp} {s s' : Shared}
theorem Inv.env0 (I : Inv X pins σ H s) : Env0 X.prog X.w X.K X.mg X.base X.A X.stack s H :=
 ⟨I.ok.frames, I.ok.mod, I.bs, Nat.le_trans I.ok.bsz I.sz, I.stack, I.stkFree, I.hok, I.bare⟩
theorem Inv.after {Q : VK} {u : Value} (I : Inv X pins σ H s) (h : CE X.stack X.prog X.w H s Q u s') : EP X pins σ Q u s' := by
 obtain ⟨v, H', os, bare, un, hok, r, q⟩ := h
 obtain ⟨hh, g, d, t, os'⟩ := s'
 obtain rfl : os' = s.os := os
 exact ⟨v, H', I.call (h' := hh) (g' := g) (d' := d) (t' := t) (ch := []) un hok bare (fun b z => absurd z (by simp)), r, q⟩
end
def tCall (sp : Sp) (dvs : List V) (E : XK) (t : TA) : TE := fun σ H Q => t σ H fun vs H1 => sp (vs ++ dvs) H1 Q E
def tMake (C : Addr) (sp : Sp) (dvs : List V) (E : XK) (t : TA) : TE := fun σ H Q => t σ H fun vs H1 => ∀ x dx, H1 x = none -> H1 dx = none -> dx ≠ x ->
 sp (.ref x :: (vs ++ dvs)) (upd (upd H1 dx (.own x)) x (.ins C dx [])) (fun v H2 => v = .non /\ Q (.ref x) H2) E
def Binds (K : Fg_) (fd : FuncData) (ps : List Str) (ds : List Value) : Prop :=
 ∀ (s : Shared) (us : List Value), K.In s.heap -> (us ++ ds).length = ps.length -> BindsTo s fd ⟨us, []⟩ (ps.zip (us ++ ds))
theorem Binds.all {K : Fg_} {fd : FuncData} {ps : List Str} (h : ∀ us : List Value, us.length = ps.length -> bindArgs fd ⟨us, []⟩ = pure (ps.zip us)) : Binds K fd ps [] := fun s us _ hl => by
 rw [List.append_nil] at hl ⊢
 exact .of_eq (h us hl)
def Passes (CX : CXT) (X : Cx) (E : XK) : Prop := ∀ (pins : List (Addr × Obj)) (σ : St) (H : Hp) (s : Shared) (e : Value) (s' : Shared), Inv X pins σ H s -> CX X.stack H s E e s' -> X.xe e s'
section
variable {X : Cx} {CX : CXT} {k : Nat} {f C : Addr} {fd : FuncData} {ps : List Str} {sp : Sp} {dvs : List V} {ds : List Value} {E : XK} {x m : Str} {p pos apos : Pos} {e o : Expr} {es : List Expr} {ta : TE} {t : TA}
theorem run_fn {pins : List (Addr × Obj)} {σ : St} {H : Hp} {s : Shared} {Q : VK} {us : List Value} {vs : List V} (F : FnOk X.prog X.w X.K X.mg X.base CX k f fd ps sp) (hr : Room k X.A) (hb : Binds X.K fd ps ds) (hd : Vals dvs ds) (hx : Passes CX X E)
  (I : Inv X pins σ H s) (r : Vals vs us) (h : sp (vs ++ dvs) H Q E) : wpAny (model X.prog X.w) X.A (call (.ref f) us) (EP X pins σ Q) X.xe s := by
 have r2 : Vals (vs ++ dvs) (us ++ ds) := r.append hd
 have hl : (us ++ ds).length = ps.length := by rw [<- r2.length]; exact F.len _ _ _ _ h
 refine wpAny_call (codeAny_mono (F.run X.A X.stack s H ⟨us, []⟩ (us ++ ds) (vs ++ dvs) Q E hr I.env0 (hb s us I.kIn hl) r2 h) fun r s' hq => ?_)
 cases r with
 | error e => exact hx pins σ H s e s' I hq
 | ok fl =>
  cases fl with
  | ret u => exact I.after hq
  | next => exact False.elim hq
  | brk => exact False.elim hq
  | cont => exact False.elim hq
theorem pe_call (F : FnOk X.prog X.w X.K X.mg X.base CX k f fd ps sp) (hr : Room k X.A) (hg : Gl X x) (hm : X.mg x = some (.ref f)) (hk : PySem.W.keepIn X.K (.ref f) = true) (hb : Binds X.K fd ps ds) (hd : Vals dvs ds) (hx : Passes CX X E)
  (ha : PA X (e :: es) t) (hdb : (x == ("__debug__" : Str)) = false := by decide) (he : starEach (e :: es) X.env = (false, eval e X.env) :: starEach es X.env := by rfl) (hpl : (backTo pos (starEach es X.env)).any (·.1) = false := by rfl) :
  PE X (.Call (.Name x p) (e :: es) [] pos) (tCall sp dvs E t) := by
 intro pins s σ H Q I h
 refine wpAny_Call_Name_kw (ld_glob I hg hm ?_ hdb)
 refine PySem.W.callWith_K (h₀ := X.base) I.ok.mod.kin hk (thn (ha pos pins s σ H _ I h) fun us s1 ⟨vs, H1, I1, r, q⟩ => ⟨I1.kIn, ?_⟩) he hpl
 exact run_fn F hr hb hd hx I1 r q
structure Mk (K : Fg_) (C f : Addr) : Prop where
 makes : PySem.W.makesIn K C = true
 init : PySem.W.findIn K (.ref C) "__init__" = some (some (.ref f))
 fn : PySem.W.isFn K (.ref f) = true
 kp : PySem.W.keepIn K (.ref C) = true
theorem run_make {pins : List (Addr × Obj)} {σ : St} {H : Hp} {s : Shared} {Q : VK} {us : List Value} {vs : List V} (M : Mk X.K C f) (F : FnOk X.prog X.w X.K X.mg X.base CX k f fd ps sp) (hr : Room (k + 1) X.A) (hb : Binds X.K fd ps ds) (hd : Vals dvs ds)
  (hx : Passes CX X E) (I : Inv X pins σ H s) (r : Vals vs us)
  (h : ∀ x dx, H x = none -> H dx = none -> dx ≠ x -> sp (.ref x :: (vs ++ dvs)) (upd (upd H dx (.own x)) x (.ins C dx [])) (fun v H2 => v = .non /\ Q (.ref x) H2) E) :
  wpAny (model X.prog X.w) X.A (call (.ref C) us) (EP X pins σ Q) X.xe s := by
 have hq := h (s.heap.objs.size + 1) s.heap.objs.size (I.hok.fresh (Nat.le_succ _)) (I.hok.fresh (Nat.le_refl _)) (Nat.ne_of_lt (Nat.lt_succ_self _))
 have I2 := Inv.made (C := C) I
 have r2 : Vals (V.ref (s.heap.objs.size + 1) :: (vs ++ dvs)) (Value.ref (s.heap.objs.size + 1) :: (us ++ ds)) := .cons rfl (r.append hd)
 have hl : (Value.ref (s.heap.objs.size + 1) :: us ++ ds).length = ps.length := by
  have e := r2.length
  rw [F.len _ _ _ _ hq] at e
  exact e.symm
 refine wpAny_call (make_map (f := f) I.kIn M.makes M.init (beq_iff_eq.mp M.fn) (codeAny_mono (F.run _ X.stack _ _ ⟨Value.ref (s.heap.objs.size + 1) :: us, []⟩ (Value.ref (s.heap.objs.size + 1) :: (us ++ ds)) _ _ E (hr.make C us [])
  (I2.env0.make C us []) (hb _ (Value.ref (s.heap.objs.size + 1) :: us) I2.kIn hl) r2 hq) fun r s' hq' => ?_))
 cases r with
 | error e => exact hx pins σ _ _ e s' I2 hq'
 | ok fl =>
  cases fl with
  | ret u =>
   obtain ⟨v, H', I3, rv, ev, q3⟩ := I2.after hq'
   subst ev
   exact ⟨rv, ⟨V.ref (s.heap.objs.size + 1), H', I3, rfl, q3⟩⟩
  | next => exact False.elim hq'
  | brk => exact False.elim hq'
  | cont => exact False.elim hq'
theorem pe_make (M : Mk X.K C f) (F : FnOk X.prog X.w X.K X.mg X.base CX k f fd ps sp) (hr : Room (k + 1) X.A) (hg : Gl X x) (hm : X.mg x = some (.ref C)) (hb : Binds X.K fd ps ds) (hd : Vals dvs ds) (hx : Passes CX X E)
  (ha : PA X (e :: es) t) (hdb : (x == ("__debug__" : Str)) = false := by decide) (he : starEach (e :: es) X.env = (false, eval e X.env) :: starEach es X.env := by rfl) (hpl : (backTo pos (starEach es X.env)).any (·.1) = false := by rfl) :
  PE X (.Call (.Name x p) (e :: es) [] pos) (tMake C sp dvs E t) := by
 intro pins s σ H Q I h
 refine wpAny_Call_Name_kw (ld_glob I hg hm ?_ hdb)
 refine PySem.W.callWith_K (h₀ := X.base) I.ok.mod.kin M.kp (thn (ha pos pins s σ H _ I h) fun us s1 ⟨vs, H1, I1, r, q⟩ => ⟨I1.kIn, ?_⟩) he hpl
 exact run_make M F hr hb hd hx I1 r q
end
def PK (X : Cx) (kws : List Keyword) (t : TA) : Prop :=
 ∀ (pos : Pos) (pins : List (Addr × Obj)) (s : Shared) (σ : St) (H : Hp) (Q : List V -> Hp -> Prop), Inv X pins σ H s -> t σ H Q -> wpAny (model X.prog X.w) X.A (evalAll ((backToKw pos (keywordEach kws X.env)).map (·.2))) (AP X pins σ Q) X.xe s
section
variable {X : Cx} {CX : CXT} {k : Nat} {f C : Addr} {fd : FuncData} {ps ks : List Str} {sp : Sp} {E : XK} {x m : Str} {p pos apos kpos : Pos} {e o : Expr} {es : List Expr} {kws : List Keyword} {te ta : TE} {t tk : TA} {nm : Option Str}
theorem pk_nil : PK X [] tNil := fun _ _ _ _ H Q I h => wpAny_evalAll_nil ⟨[], H, I, .nil, h⟩
theorem pk_cons (ha : PE X e te) (hr : PK X kws t) : PK X (⟨nm, e, kpos⟩ :: kws) (tCons te t) := by
 intro pos pins s σ H Q I h
 show wpAny _ _ (evalAll ((do let v <- eval e X.env; standAt pos; pure v) :: (backToKw pos (keywordEach kws X.env)).map (·.2))) _ _ s
 refine wpAny_evalAll_cons (wpAny_bind (thn (ha pins s σ H _ I h) fun u s1 ⟨x, H1, I1, r1, q1⟩ => wpAny_bind (wpAny_standAt (wpAny_pure ?_))))
 exact thn (hr pos pins s1 σ H1 _ I1 q1) fun us s2 ⟨xs, H2, I2, r2, q2⟩ => ⟨x :: xs, H2, I2, .cons r1 r2, q2⟩
structure KBinds (K : Fg_) (fd : FuncData) (ps ks : List Str) (g : List Value -> List Value -> List Value) (gV : List V -> List V -> List V) : Prop where
 to : ∀ (s : Shared) (us ws : List Value), K.In s.heap -> (g us ws).length = ps.length -> BindsTo s fd ⟨us, ks.zip ws⟩ (ps.zip (g us ws))
 rel : ∀ {vs : List V} {us : List Value} {zs : List V} {ws : List Value}, Vals vs us -> Vals zs ws -> Vals (gV vs zs) (g us ws)
variable {g : List Value -> List Value -> List Value} {gV : List V -> List V -> List V}
end
structure FnScope (N P : List Str) (sc : Scope) : Prop where
 kind : sc.kind = .function
 co : sc.isCoroutine = false
 gen : sc.isGenerator = false
 nd : N.Nodup
 pre : N.take P.length = P
 par : ∀ x ∈ P, sc.names.lookup x = some .local \/ sc.names.lookup x = some .cell
 nofree : ∀ y ∈ sc.names, y.2 ≠ .free
theorem bindL_out {kindOf : Str -> Option NameKind} {x : Str} : ∀ {binds : List (Str × Value)} {m : Str -> Option Value}, (∀ v, (x, v) ∉ binds) -> bindL kindOf binds m x = m x
 | [], _, _ => rfl
 | (n, v) :: r, m, h => by
  unfold bindL
  rw [bindL_out fun w hw => h w (List.mem_cons_of_mem _ hw)]
  split
  ·have : x ≠ n := by rintro rfl; exact h v List.mem_cons_self
   simp [this]
  ·rfl
theorem bindC_out {kindOf : Str -> Option NameKind} {x : Str} : ∀ {binds : List (Str × Value)} {m : Str -> Option Value}, (∀ v, (x, v) ∉ binds) -> bindC kindOf binds m x = m x
 | [], _, _ => rfl
 | (n, v) :: r, m, h => by
  unfold bindC
  rw [bindC_out fun w hw => h w (List.mem_cons_of_mem _ hw)]
  split
  ·rfl
  ·have : x ≠ n := by rintro rfl; exact h v List.mem_cons_self
   simp [this]
theorem bindL_get {kindOf : Str -> Option NameKind} {x : Str} {v : Value} : ∀ {P : List Str} {vs : List Value} {i : Nat} {m : Str -> Option Value}, P.Nodup -> P[i]? = some x -> vs[i]? = some v -> kindOf x = some .local ->
  bindL kindOf (P.zip vs) m x = some v
 | [], _, _, _, _, h, _, _ => by simp at h
 | _ :: _, [], _, _, _, _, h, _ => by simp at h
 | p :: P, w :: vs, 0, m, nd, h1, h2, hk => by
  simp at h1 h2; subst h1; subst h2
  show bindL kindOf ((p, w) :: P.zip vs) m p = _
  unfold bindL
  rw [bindL_out fun v hv => (List.nodup_cons.mp nd).1 (List.of_mem_zip hv).1, if_pos hk]
  simp
 | p :: P, w :: vs, i + 1, m, nd, h1, h2, hk => by
  show bindL kindOf ((p, w) :: P.zip vs) m x = _
  unfold bindL
  exact bindL_get (i := i) (List.nodup_cons.mp nd).2 (by simpa using h1) (by simpa using h2) hk
theorem bindC_get {kindOf : Str -> Option NameKind} {x : Str} {v : Value} : ∀ {P : List Str} {vs : List Value} {i : Nat} {m : Str -> Option Value}, P.Nodup -> P[i]? = some x -> vs[i]? = some v -> kindOf x ≠ some .local ->
  bindC kindOf (P.zip vs) m x = some v
 | [], _, _, _, _, h, _, _ => by simp at h
 | _ :: _, [], _, _, _, _, h, _ => by simp at h
 | p :: P, w :: vs, 0, m, nd, h1, h2, hk => by
  simp at h1 h2; subst h1; subst h2
  show bindC kindOf ((p, w) :: P.zip vs) m p = _
  unfold bindC
  rw [bindC_out fun v hv => (List.nodup_cons.mp nd).1 (List.of_mem_zip hv).1, if_neg hk]
  simp
 | p :: P, w :: vs, i + 1, m, nd, h1, h2, hk => by
  show bindC kindOf ((p, w) :: P.zip vs) m x = _
  unfold bindC
  exact bindC_get (i := i) (List.nodup_cons.mp nd).2 (by simpa using h1) (by simpa using h2) hk
def start (N : List Str) (vs : List V) : St := vs.map some ++ List.replicate (N.length - vs.length) none
def cxOf (CX : CXT) (P : Program) (w : World) (K : Fg_) (mg : Str -> Option Value) (base : Heap) (N : List Str) (qual : Str) (scope : Scope) (f : Addr) (cd : Value) (A : Around) (outer : List Env) (s : Shared) (H : Hp) (E : XK) : Cx where
 prog := P
 w := w
 K := K
 mg := mg
 base := base
 A := A.deeper (envOfC qual scope s.heap.objs.size f cd)
 N := N
 s₀ := s
 H₀ := H
 env := envOfC qual scope s.heap.objs.size f cd
 outer := outer
 stack := envOfC qual scope s.heap.objs.size f cd :: outer
 ex := []
 calm := true
 fn := fun _ => true
 pn := []
 xe := fun e s' => wpAny (model P w) (A.deeper (envOfC qual scope s.heap.objs.size f cd)) (leaving (envOfC qual scope s.heap.objs.size f cd) e) (fun _ s'' => CX outer H s E e s'') (fun e' s'' => CX outer H s E e' s'') s'
theorem cell_has {sc : Scope} {n : Nat} {x : Str} (h : sc.names.lookup x = some .cell) : ∃ c, (cellsFrom n sc.names []).lookup x = some c := by
 have q := PySem.W.cellsFrom_some sc.names n [] (.inl h)
 exact Option.isSome_iff_exists.mp q
theorem inv_start {CX : CXT} {P : Program} {w : World} {K : Fg_} {mg : Str -> Option Value} {base : Heap} {N ps : List Str} {qual : Str} {scope : Scope} {f : Addr} {cd : Value} {A : Around} {outer : List Env} {s s1 : Shared} {H : Hp} {E : XK} {us : List Value} {vs : List V}
  (S : FnScope N ps scope) (hd : A.handled = none) (e0 : Env0 P w K mg base A outer s H) (hl : vs.length = ps.length) (r : Vals vs us)
  (x : InCallC s s.heap.objs.size (bindL (envOfC qual scope s.heap.objs.size f cd).kindOf (ps.zip us) fun _ => none) (cellsFrom (s.heap.objs.size + 1) scope.names []) (bindC (envOfC qual scope s.heap.objs.size f cd).kindOf (ps.zip us) fun _ => none) s1) :
  Inv (cxOf CX P w K mg base N qual scope f cd A outer s H E) [] (start N vs) H s1 := by
 have hpl : ps.length <= N.length := by have := congrArg List.length S.pre; rw [List.length_take] at this; omega
 obtain ⟨h1, tk, rfl, hk⟩ := x.done
 have noA : ∀ b : Addr, b ∉ (cxOf CX P w K mg base N qual scope f cd A outer s H E).ex := fun b z => absurd (show b ∈ ([] : List Addr) from z) (by simp)
 refine ⟨⟨e0.mod, S.kind, rfl, rfl, Nat.le_refl _, fun y z c h1 h2 => ?_, fun y hy => ?_, fun y c _ h => ?_, fun _ => hd, Around.frames_deeper e0.frames, .inr ⟨rfl, rfl⟩, fun b z => absurd z (noA b), e0.bs, e0.bsz, fun b _ _ => noA b, fun b z => absurd z (noA b), e0.funs, e0.frf⟩,
  rfl, e0.bare, Un.kept hk, ⟨_, x.toInCall.ns, fun i y v h1 h2 h3 => ?_⟩, fun y c h => ⟨_, x.cell y c h⟩, e0.hok.fresh (Nat.le_refl _), fun y c h => ?_, fun p hp => absurd (show p ∈ ([] : List (Addr × Obj)) from hp) (by simp), e0.hok.kept hk, ?_⟩
 ·exact name_of_addr x.apart (PySem.mem_of_lookup h1) (PySem.mem_of_lookup h2)
 ·have hy : scope.names.lookup y = some .cell \/ scope.names.lookup y = some .free := hy
  rcases hy with hy | hy
  ·exact cell_has hy
  ·exact absurd rfl (S.nofree _ (PySem.mem_of_lookup hy))
 ·exact Nat.le_of_lt (x.above y c (PySem.mem_of_lookup h))
 ·have hi : i < vs.length := by
   unfold start at h2
   by_cases hi : i < vs.length
   ·exact hi
   ·rw [List.getElem?_append_right (by simpa using hi)] at h2
    rw [List.getElem?_replicate] at h2
    split at h2 <;> cases h2
  have ha : vs[i]? = some v := by
   unfold start at h2
   rw [List.getElem?_append_left (by simpa using hi), List.getElem?_map] at h2
   cases e : vs[i]? with
   | none => rw [e] at h2; cases h2
   | some a => rw [e] at h2; cases h2; rfl
  obtain ⟨u, hu, rv⟩ := r.get ha
  have hp : ps[i]? = some y := by
   rw [<- S.pre, List.getElem?_take_of_lt (by omega)]; exact h1
  have ndP : ps.Nodup := by rw [<- S.pre]; exact S.nd.sublist (List.take_sublist _ _)
  refine ⟨u, rv, ?_⟩
  rcases S.par y (List.mem_of_getElem? hp) with k | k
  ·exact .inl ⟨k, bindL_get ndP hp hu k⟩
  ·obtain ⟨c, e⟩ := cell_has (n := s.heap.objs.size + 1) k
   refine .inr ⟨.inl k, c, e, ?_⟩
   have q := x.cell y c e
   rw [bindC_get ndP hp hu (by show scope.names.lookup y ≠ _; rw [k]; decide)] at q
   exact q
 ·exact e0.hok.fresh (Nat.le_of_lt (x.above y c (PySem.mem_of_lookup h)))
 ·unfold start
  show _ = N.length
  rw [List.length_append, List.length_map, List.length_replicate]
  omega
theorem fn_of {CX : CXT} {P : Program} {w : World} {K : Fg_} {mg : Str -> Option Value} {base : Heap} {k : Nat} {f : Addr} {name qual : Str} {params : Arguments} {body : List Stmt} {scope : Scope} {dV kV doc pm cdv ct oc : Value} {an od : Option Addr}
  {osl : Array (Option Value)} {N ps : List Str} {sp : Sp} (lk : K.lookup f = some ⟨oc, od, .func (PySem.W.fnOf name qual params body scope dV kV doc pm an cdv ct), osl⟩) (hcd : PySem.W.codeIn K cdv qual = true) (S : FnScope N ps scope)
  (len : ∀ vs H Q E, sp vs H Q E -> vs.length = ps.length)
  (hbody : ∀ (A : Around) (outer : List Env) (s : Shared) (H : Hp) (vs : List V) (Q : VK) (E : XK), Room k (A.deeper (envOfC qual scope s.heap.objs.size f cdv)) -> sp vs H Q E ->
   ∃ t, PSs (cxOf CX P w K mg base N qual scope f cdv A outer s H E) body t /\ t { nx := fun _ H' => Q .non H', rt := Q } (start N vs) H) :
  FnOk P w K mg base CX (k + 1) f (PySem.W.fnOf name qual params body scope dV kV doc pm an cdv ct) ps sp := by
 refine ⟨len, fun A outer s H args us vs Q E hr e0 hb r hsp => ?_⟩
 have hl := len _ _ _ _ hsp
 have KX : K.In s.heap := e0.mod.kin.keeps fun b o e => (e0.bs b o e).1
 have lim : s.heap.NoLimit := e0.mod.nolimit.keeps fun b o e => (e0.bs b o e).1
 have hkind : ∀ y ∈ ps.zip us, scope.names.lookup y.1 = some .local \/ (scope.names.lookup y.1 = some .cell /\ ((cellsFrom (s.heap.objs.size + 1) scope.names []).lookup y.1).isSome = true) := fun ⟨n, v⟩ hy => by
  rcases S.par n (List.of_mem_zip hy).1 with q | q
  ·exact .inl q
  ·exact .inr ⟨q, PySem.W.cellsFrom_some _ _ _ (.inl q)⟩
 refine codeAny_call_function hr.depth (KX _ _ lk) rfl S.co S.gen rfl (PySem.W.codeRec_of KX hcd) (hb _ _ _ _ ?_)
 refine wpAny_newFunctionEnv_cells S.kind hkind fun env he s1 x => ?_
 subst he
 refine ⟨lim.keeps x.toInCall.keep, codeAny_func ?_⟩
 obtain ⟨t, ht, hq⟩ := hbody A outer s H vs Q E (hr.deeper _) hsp
 have I : Inv (cxOf CX P w K mg base N qual scope f cdv A outer s H E) [] (start N vs) H s1 := inv_start S hr.hd e0 hl r x
 refine wpAny_mono (ht [] s1 (start N vs) H _ I hq) (fun fl s' hs => ?_) fun e s' hs => hs
 have fin : ∀ {σ' : St} {H' : Hp} {v : V} {u : Value}, Inv (cxOf CX P w K mg base N qual scope f cdv A outer s H E) [] σ' H' s' -> RelV v u -> Q v H' -> CE outer P w H s Q u s' :=
  fun {σ' H' v u} J rv q => ⟨v, H', J.os, J.bare, J.base, J.hok, rv, q⟩
 cases fl with
 | ret u =>
  obtain ⟨v, σ', H', J, rv, q⟩ := hs
  exact fin J rv q
 | next =>
  obtain ⟨σ', H', J, q⟩ := hs
  exact fin (v := V.non) (u := Value.none) J rfl q
 | brk =>
  obtain ⟨_, _, _, q⟩ := hs
  exact False.elim q
 | cont =>
  obtain ⟨_, _, _, q⟩ := hs
  exact False.elim q
end L2
namespace L2
open PySem PySem.Spec PyProof.Rows
section
variable {X : Cx} {x : Str} {p pos : Pos} {e : Expr} {es : List Expr} {t : TA} {id T : String} {r : List V -> Hp -> VK -> Prop}
def tCB (r : List V -> Hp -> VK -> Prop) (t : TA) : TE := fun σ H Q => t σ H fun vs H1 => r vs H1 Q
theorem pe_callB (hc : CallR X (.builtin id) r) (hg : Gl X x) (hm : X.mg x = none) (hv : bootBuiltins x = some (.builtin id)) (ha : PA X (e :: es) t) (hn : x ≠ "__name__" := by decide) (hdb : (x == ("__debug__" : Str)) = false := by decide)
  (he : starEach (e :: es) X.env = (false, eval e X.env) :: starEach es X.env := by rfl) (hpl : (backTo pos (starEach es X.env)).any (·.1) = false := by rfl) : PE X (.Call (.Name x p) (e :: es) [] pos) (tCB r t) := by
 intro pins s σ H Q I h
 refine wpAny_Call_Name_kw (ld_blt I hg hm hv ?_ hn hdb)
 exact PyProof.Rows.callWith_builtin1 (thn (ha pos pins s σ H _ I h) fun us s1 ⟨vs, H1, I1, r1, q1⟩ => hc pins s1 σ H1 vs us Q I1 r1 q1) he hpl
theorem pe_callTy (hc : CallR X (.type T) r) (hg : Gl X x) (hm : X.mg x = none) (hv : bootBuiltins x = some (.type T)) (ha : PA X (e :: es) t) (hn : x ≠ "__name__" := by decide) (hdb : (x == ("__debug__" : Str)) = false := by decide)
  (he : starEach (e :: es) X.env = (false, eval e X.env) :: starEach es X.env := by rfl) (hpl : (backTo pos (starEach es X.env)).any (·.1) = false := by rfl) : PE X (.Call (.Name x p) (e :: es) [] pos) (tCB r t) := by
 intro pins s σ H Q I h
 refine wpAny_Call_Name_kw (ld_blt I hg hm hv ?_ hn hdb)
 exact PyProof.Rows.callWith_type1 (thn (ha pos pins s σ H _ I h) fun us s1 ⟨vs, H1, I1, r1, q1⟩ => hc pins s1 σ H1 vs us Q I1 r1 q1) he hpl
end
end L2
namespace HT
open PySem PyProof.Rows
section
open PySem.SeqAt
open PySem.AutoSeq1 (wpAny_loadPart')
open PySem.MeetsSeq PySem.MeetsSeq2 PySem.MeetsSeq3
end
section
variable {prog : Program} {w : World} {A : Around} {E : Value -> Shared -> Prop} {s : Shared}
theorem cat_tup {t b : Addr} {vs ws : List Value} {Q : Value -> Shared -> Prop} (ht : IsTup s.heap t vs.toArray) (hb : IsTup s.heap b ws.toArray) (hv : vs ≠ [])
  (h1 : ws = [] -> Q (.ref t) s) (h2 : ws ≠ [] -> Q (.ref s.heap.objs.size) { s with heap := s.heap.push { cls := .type "tuple", data := .seq (vs ++ ws).toArray } })
  (hsz : vs.length + ws.length <= sizeLine) : wpAny (model prog w) A (binaryOp .Add (.ref t) (.ref b)) Q E s := by
 obtain ⟨⟨cls, dd, data, sl⟩, ho, hc, n, hd⟩ := id ht
 obtain ⟨⟨cls2, dd2, data2, sl2⟩, ho2, hc2, n2, hd2⟩ := id hb
 simp only at hc hd hc2 hd2
 subst hc hd hc2 hd2
 have e : vs.toArray ++ ws.toArray = (vs ++ ws).toArray := by simp
 by_cases hw : ws = []
 ·exact concat_meets ⟨_, ho, rfl⟩ ⟨_, ho2, rfl⟩ noFill_tuple_add seq_tuple_add PySem.F.slot_tuple_add PySem.F.entry_tuple_add (PySem.F.args_tuple_add_2 _ _)
   (tuple_addW1 t b vs.toArray ws.toArray n n2 dd dd2 sl sl2 (by simpa using hv) (by simp [hw])) ⟨ho, ho2, h1 hw⟩
 ·refine concat_meets ⟨_, ho, rfl⟩ ⟨_, ho2, rfl⟩ noFill_tuple_add seq_tuple_add PySem.F.slot_tuple_add PySem.F.entry_tuple_add (PySem.F.args_tuple_add_2 _ _)
   (tuple_addW2 t b vs.toArray ws.toArray n n2 dd dd2 sl sl2 (by simpa using hv) (by simpa using hw) (by rw [List.size_toArray, List.size_toArray]; exact hsz)) ⟨ho, ho2, ?_⟩
  rw [e]
  exact h2 hw
def sIx (n d : Nat) : Option Int -> Nat
 | none => d
 | some v => if v < 0 then (v + (n : Int)).toNat else min v.toNat n
theorem sIx_none (n d : Nat) : sIx n d none = d := rfl
theorem sIx_nat (n d k : Nat) : sIx n d (some (k : Int)) = min k n := by
 show (if (k : Int) < 0 then ((k : Int) + (n : Int)).toNat else min (k : Int).toNat n) = min k n
 rw [if_neg (by omega), Int.toNat_natCast]
theorem sIx_le (n d : Nat) (hd : d <= n) (o : Option Int) : sIx n d o <= n := by
 cases o with
 | none => exact hd
 | some v =>
  show (if v < 0 then (v + (n : Int)).toNat else min v.toNat n) <= n
  by_cases hv : v < 0
  ·rw [if_pos hv]; omega
  ·rw [if_neg hv]; exact Nat.min_le_right _ _
theorem clip_eq (v : Int) (n d : Nat) : (if v < 0 then max (v + (n : Int)) 0 else min v (n : Int)) = ((sIx n d (some v) : Nat) : Int) := by
 show (if v < 0 then max (v + (n : Int)) 0 else min v (n : Int)) = (((if v < 0 then (v + (n : Int)).toNat else min v.toNat n) : Nat) : Int)
 by_cases hv : v < 0
 ·simp only [if_pos hv]; omega
 ·simp only [if_neg hv]; omega
theorem adjust_gen (lo hi : Option Int) (n : Nat) : Builtin.Slice.sliceAdjust lo hi 1 (n : Int) = (((sIx n 0 lo : Nat) : Int), ((sIx n n hi : Nat) : Int)) := by
 have h1 : ¬ ((1 : Int) < 0) := by omega
 unfold Builtin.Slice.sliceAdjust
 simp only [h1, if_false]
 refine Prod.ext ?_ ?_
 ·cases lo with
  | none => rfl
  | some v => exact clip_eq v n 0
 ·cases hi with
  | none => rfl
  | some v => exact clip_eq v n n
theorem places_gen (i j : Nat) : Builtin.Slice.slicePlaces (i : Int) (j : Int) 1 = j - i := by
 unfold Builtin.Slice.slicePlaces
 have h1 : (1 : Int) > 0 := by omega
 simp only [h1, if_true, Int.ediv_one]
 split <;> omega
theorem slicePart_ {v : Value} {o : Option Int} {Q : Option Int -> Shared -> Prop} (p : IsPart v o) (h : Q o s) : wpAny (model prog w) A (Builtin.Slice.slicePartIndex v) Q E s := by
 cases p with
 | none => exact slicePart_none h
 | int i t => exact slicePart_int h
theorem sliceApplied_gen {sl : Addr} {vl vu : Value} {lo hi : Option Int} {n : Nat} {Q : Int × Int × Nat -> Shared -> Prop} (hs : s.heap.IsSliceOf sl vl vu .none) (pl : IsPart vl lo) (pu : IsPart vu hi)
  (h : Q (((sIx n 0 lo : Nat) : Int), 1, sIx n n hi - sIx n 0 lo) s) : wpAny (model prog w) A (Builtin.Slice.sliceApplied (.ref sl) (pure (n : Int))) Q E s := by
 obtain ⟨os, hos, hcs, hds⟩ := id hs
 unfold Builtin.Slice.sliceApplied Builtin.Slice.sliceFields
 refine wpAny_bind (wpAny_bind (wpAny_field hos hds (x := vl) rfl (wpAny_bind (wpAny_field hos hds (x := vu) rfl (wpAny_bind (wpAny_field hos hds (x := .none) rfl (wpAny_pure ?_)))))))
 refine wpAny_bind (slicePart_none ?_)
 show wpAny _ _ (if ((1 : Int) == 0) = true then _ else _) _ _ s
 rw [if_neg (by decide)]
 refine wpAny_bind (slicePart_ pl (wpAny_bind (slicePart_ pu (wpAny_bind (wpAny_pure ?_)))))
 show wpAny _ _ (match Builtin.Slice.sliceAdjust lo hi 1 (n : Int) with | (lo, hi) => pure (lo, (1 : Int), Builtin.Slice.slicePlaces lo hi 1)) _ _ s
 rw [adjust_gen lo hi n]
 show wpAny _ _ (pure (((sIx n 0 lo : Nat) : Int), (1 : Int), Builtin.Slice.slicePlaces ((sIx n 0 lo : Nat) : Int) ((sIx n n hi : Nat) : Int) 1)) _ _ s
 rw [places_gen]
 exact wpAny_pure h
theorem pick_gen (xs : Array Value) (i k : Nat) : ((List.range k).filterMap fun (m : Nat) => xs[((i : Int) + (m : Int) * 1).toNat]?).toArray = ((xs.toList.drop i).take k).toArray := by
 have e : (fun (m : Nat) => xs[((i : Int) + (m : Int) * 1).toNat]?) = fun m => xs[i + m]? := by
  funext m
  have : ((i : Int) + (m : Int) * 1).toNat = i + m := by omega
  rw [this]
 rw [e]
 have := pick_run xs i k
 rw [List.filterMap_map] at this
 have e2 : ((fun x => xs[x]?) ∘ fun x => i + x) = fun m => xs[i + m]? := rfl
 rw [e2] at this
 rw [this]
theorem getItem_tuple_cut {t sl : Addr} {items : Array Value} {vl vu : Value} {lo hi : Option Int} {Q : Value -> Shared -> Prop} (ht : IsTup s.heap t items) (hs : s.heap.IsSliceOf sl vl vu .none) (pl : IsPart vl lo) (pu : IsPart vu hi)
  (hw : ¬ (sIx items.size 0 lo = 0 /\ sIx items.size items.size hi = items.size))
  (h : Q (.ref s.heap.objs.size) { s with heap := s.heap.push { cls := .type "tuple", data := .seq ((items.toList.drop (sIx items.size 0 lo)).take (sIx items.size items.size hi - sIx items.size 0 lo)).toArray } })
  (hsz : items.size <= sizeLine) : wpAny (model prog w) A (getItem (.ref t) (.ref sl)) Q E s := by
 have htake : sizeOk (.seq ((items.toList.drop (sIx items.size 0 lo)).take (sIx items.size items.size hi - sIx items.size 0 lo)).toArray) := by
  show ((items.toList.drop (sIx items.size 0 lo)).take (sIx items.size items.size hi - sIx items.size 0 lo)).toArray.size <= sizeLine
  rw [List.size_toArray, List.length_take, List.length_drop, Array.length_toList]
  omega
 have hj : sIx items.size items.size hi <= items.size := sIx_le _ _ (Nat.le_refl _) hi
 obtain ⟨os, hos, hcs, hds⟩ := id hs
 have hTs : s.TypeIs (.ref sl) "slice" := ⟨os, hos, hcs⟩
 unfold getItem
 try with_reducible refine wpAny_holding ?_
 first | refine wpAny_bind (wpAny_pure ?_) | skip
 refine wpAny_bind (wpAny_sequenceKey ht.typeIs (by decide) ?_)
 refine wpAny_bind (wpAny_callSpecial?_slot (name := Str.ofString "__getitem__") ht.typeIs PyProof.Rows.slot_tuple_getitem
  (wpAny_call_entry PyProof.Rows.slot_tuple_getitem ht.typeIs entry_tuple_getitem ?_ (args_tuple_getitem _ _)))
 show wpAny _ _ (Builtin.Tuple.tupleItemsOf (.ref t) >>= _) _ _ s
 refine wpAny_bind (tupleItemsOf_ ht ?_)
 refine wpAny_bind (wpAny_typeOf hTs ?_)
 rw [if_pos (by decide)]
 refine wpAny_bind (sliceApplied_gen hs pl pu ?_)
 have hno : ¬ ((((sIx items.size 0 lo : Nat) : Int) == 0 && (1 : Int) == 1 && (sIx items.size items.size hi - sIx items.size 0 lo) == items.size) = true) := by
  intro q
  rw [Bool.and_eq_true, Bool.and_eq_true] at q
  have q1 : ((sIx items.size 0 lo : Nat) : Int) = 0 := eq_of_beq q.1.1
  have q2 : sIx items.size items.size hi - sIx items.size 0 lo = items.size := eq_of_beq q.2
  exact hw ⟨by omega, by omega⟩
 show wpAny _ _ (if (((sIx items.size 0 lo : Nat) : Int) == 0 && (1 : Int) == 1 && (sIx items.size items.size hi - sIx items.size 0 lo) == items.size) = true then _ else _) _ _ s
 rw [if_neg hno, pick_gen]
 first
  | exact wpAny_bind (m := Builtin.Tuple.tupleExact _) (wpAny_newObj_type (wpAny_pure ⟨_, rfl, wpAny_pure h⟩) htake)
  | exact wpAny_bind (m := Builtin.Tuple.tupleExact _) (wpAny_newObj_type (wpAny_bind (wpAny_pure (wpAny_pure ⟨_, rfl, wpAny_pure h⟩))) htake)
  | exact wpAny_bind (wpAny_bind (m := Builtin.Tuple.tupleExact _) (wpAny_newObj_type (wpAny_pure (wpAny_pure ⟨_, rfl, wpAny_pure h⟩)) htake))
  | exact wpAny_bind (wpAny_bind (m := Builtin.Tuple.tupleExact _) (wpAny_newObj_type (wpAny_pure ⟨_, rfl, wpAny_pure h⟩) htake))
end
end HT
namespace L2
open PySem PySem.Spec PyProof.Rows
abbrev TO := St -> Hp -> (Option Int -> Hp -> Prop) -> Prop
def PO (X : Cx) (e : Option Expr) (t : TO) : Prop :=
 ∀ (pins : List (Addr × Obj)) (s : Shared) (σ : St) (H : Hp) (Q : Option Int -> Hp -> Prop), Inv X pins σ H s -> t σ H Q ->
  wpAny (model X.prog X.w) X.A (evalPart e X.env) (fun u s' => ∃ o H', Inv X pins σ H' s' /\ IsPart u o /\ Q o H') X.xe s
def tNoPart : TO := fun _ H Q => Q none H
def tPart (t : TE) : TO := fun σ H Q => t σ H fun x H1 => ∃ i, x = .int i /\ Q (some i) H1
theorem intsAre_of {ns : List Int} : ∀ {us : List Value}, Vals (ns.map V.int) us -> IntsAre us ns := by
 induction ns with
 | nil => intro us r; rw [List.map_nil] at r; cases r; exact .nil
 | cons n ns ih =>
  intro us r
  rw [List.map_cons] at r
  cases r with
  | cons r1 r2 =>
   obtain ⟨t, e⟩ := r1
   subst e
   exact .cons n t (ih r2)
section
variable {X : Cx} {e : Expr} {te : TE} {lo hi : Option Expr} {tl th : TO} {pos p2 : Pos}
theorem po_none : PO X none tNoPart := by
 intro pins s σ H Q I h
 rw [evalPart_none]
 exact wpAny_pure ⟨none, H, I, .none, h⟩
theorem po_some (h : PE X e te) : PO X (some e) (tPart te) := by
 intro pins s σ H Q I hw
 rw [evalPart_some]
 refine thn (h pins s σ H _ I hw) fun u s1 ⟨x, H1, I1, r1, q1⟩ => ?_
 obtain ⟨i, rfl, q⟩ := q1
 obtain ⟨t, rfl⟩ := r1
 exact ⟨some i, H1, I1, .int i t, q⟩
def SlR (X : Cx) (r : V -> Option Int -> Option Int -> Hp -> VK -> Prop) : Prop :=
 ∀ (pins : List (Addr × Obj)) (s : Shared) (σ : St) (H : Hp) (x : V) (v vl vu : Value) (lo hi : Option Int) (sl : Addr) (Q : VK), Inv X pins σ H s -> RelV x v -> s.heap.IsSliceOf sl vl vu .none -> IsPart vl lo -> IsPart vu hi -> r x lo hi H Q ->
  ∃ T id, typeLookup (.type T) "__getitem__" = pure (some (.builtin id)) /\ s.TypeIs v T /\ wpAny (model X.prog X.w) X.A (getItem v (.ref sl)) (EP X pins σ Q) X.xe s
def tSl (r : V -> Option Int -> Option Int -> Hp -> VK -> Prop) (te : TE) (tl th : TO) : TE := fun σ H Q => te σ H fun x H1 => tl σ H1 fun l H2 => th σ H2 fun u H3 => r x l u H3 Q
theorem pe_slice {r : V -> Option Int -> Option Int -> Hp -> VK -> Prop} (hr : SlR X r) (he : PE X e te) (hl : PO X lo tl) (hu : PO X hi th) : PE X (.Subscript e (.Slice lo hi none p2) pos) (tSl r te tl th) := by
 intro pins s σ H Q I h
 refine Subscript_ (thn (he pins s σ H _ I h) fun v s1 ⟨x, H1, I1, r1, q1⟩ => ?_)
 refine wpAny_Slice (thn (hl pins s1 σ H1 _ I1 q1) fun vl s2 ⟨l, H2, I2, pl, q2⟩ => thn (hu pins s2 σ H2 _ I2 q2) fun vu s3 ⟨u, H3, I3, pu, q3⟩ => ?_)
 rw [evalPart_none]
 refine wpAny_pure ?_
 have I4 : Inv X pins σ H3 { s3 with heap := s3.heap.push { cls := .type "slice", data := .fields #[vl, vu, .none] } } := I3.kept (t' := s3.toks) fun b ob q => Heap.get?_push_of_some _ q
 obtain ⟨T, id, hT, ht, hg⟩ := hr pins { s3 with heap := s3.heap.push { cls := .type "slice", data := .fields #[vl, vu, .none] } } σ H3 x v vl vu l u s3.heap.objs.size Q I4 r1 (Heap.IsSliceOf.new ..) pl pu q3
 show wpAny (model X.prog X.w) X.A (subscriptTail e (.Slice lo hi none p2) v (.ref s3.heap.objs.size)) (EP X pins σ Q) X.xe { s3 with heap := s3.heap.push { cls := .type "slice", data := .fields #[vl, vu, .none] } }
 exact tail_any (ops := [.ref s3.heap.objs.size, v]) ht hT hg (by with_unfolding_all rfl)
def cutV (xs : List V) (lo hi : Option Int) : List V := (xs.drop (HT.sIx xs.length 0 lo)).take (HT.sIx xs.length xs.length hi - HT.sIx xs.length 0 lo)
theorem cutV_length (xs : List V) (lo hi : Option Int) : (cutV xs lo hi).length <= xs.length := by
 unfold cutV
 rw [List.length_take, List.length_drop]
 omega
def rSlT (K : Fg_) : V -> Option Int -> Option Int -> Hp -> VK -> Prop := fun x lo hi H Q => ∃ a xs, x = .ref a /\ SqT K H a xs /\
 ¬ (HT.sIx xs.length 0 lo = 0 /\ HT.sIx xs.length xs.length hi = xs.length) /\ ∀ p, H p = none -> Q (.ref p) (upd H p (.tup (cutV xs lo hi)))
theorem sl_tup : SlR X (rSlT X.K) := by
 intro pins s σ H x v vl vu lo hi sl Q I rx hs pl pu h
 obtain ⟨a, xs, rfl, hx, hw, q⟩ := h
 cases rx
 obtain ⟨its, r, ht, hz⟩ := I.tuple hx
 have hlen : its.toArray.size = xs.length := by rw [List.size_toArray]; exact r.length.symm
 refine ⟨"tuple", _, PyProof.Rows.slot_tuple_getitem.lookup, ht.typeIs, ?_⟩
 refine HT.getItem_tuple_cut ht hs pl pu (by rw [hlen]; exact hw) ?_ (by rw [hlen]; exact hz)
 rw [hlen]
 refine ⟨.ref s.heap.objs.size, _, I.laid (t' := s.toks) (o := .tup (cutV xs lo hi)) (fun b ob q => Heap.get?_push_of_some _ q) (Nat.le_refl _) ?_, rfl, q _ (I.hok.fresh (Nat.le_refl _))⟩
 exact ⟨Nat.le_trans (cutV_length xs lo hi) hz, _, (r.drop (HT.sIx xs.length 0 lo)).take (HT.sIx xs.length xs.length hi - HT.sIx xs.length 0 lo), IsTup.new _ _⟩
def rCatT (K : Fg_) : R2 := fun x y H Q => ∃ a b xs ys, x = .ref a /\ y = .ref b /\ SqT K H a xs /\ SqT K H b ys /\ xs ≠ [] /\ xs.length + ys.length <= sizeLine /\
 (ys = [] -> Q (.ref a) H) /\ (ys ≠ [] -> ∀ p, H p = none -> Q (.ref p) (upd H p (.tup (xs ++ ys))))
theorem Vals.nil_iff {xs : List V} {us : List Value} (r : Vals xs us) : us = [] ↔ xs = [] := by
 cases r with
 | nil => simp
 | cons _ _ => simp
theorem op_catT : OpR X (binaryOp .Add) (rCatT X.K) := by
 intro pins s σ H x y v u Q I rx ry h
 obtain ⟨a, b, xs, ys, rfl, rfl, ha, hb, hx, hz, q1, q2⟩ := h
 cases rx
 cases ry
 obtain ⟨its, r1, p1, _⟩ := I.tuple ha
 obtain ⟨its2, r2, p2, _⟩ := I.tuple hb
 refine HT.cat_tup p1 p2 (fun z => hx (r1.nil_iff.mp z)) (fun z => ⟨.ref a, H, I, rfl, q1 (r2.nil_iff.mp z)⟩) (fun z => ?_) (by rw [<- r1.length, <- r2.length]; exact hz)
 refine ⟨.ref s.heap.objs.size, _, I.laid (t' := s.toks) (o := .tup (xs ++ ys)) (fun b ob q => Heap.get?_push_of_some _ q) (Nat.le_refl _) ?_, rfl, q2 (fun w => z (r2.nil_iff.mpr w)) _ (I.hok.fresh (Nat.le_refl _))⟩
 exact ⟨by rw [List.length_append]; exact hz, _, r1.append r2, IsTup.new _ _⟩
end
end L2
namespace L2
open PySem PySem.Spec PyProof.Rows
def ixN (n : Nat) (i : Int) : Option Nat := if 0 <= i then (if i < n then some i.toNat else none) else if -(n : Int) <= i then some (i + n).toNat else none
def atI {α : Type} (xs : List α) (i : Int) : Option α := (ixN xs.length i).bind fun j => xs[j]?
theorem ixN_seq {n : Nat} {i : Int} {j : Nat} (h : ixN n i = some j) : seqIndex? i n = some j /\ j < n /\ -(n : Int) <= i /\ i < n := by
 unfold ixN at h
 by_cases h0 : 0 <= i
 ·rw [if_pos h0] at h
  by_cases h1 : i < n
  ·rw [if_pos h1] at h
   have e : i.toNat = j := Option.some.inj h
   exact ⟨by rw [seqIndex_of h0 h1, e], by omega, by omega, h1⟩
  ·rw [if_neg h1] at h; cases h
 ·rw [if_neg h0] at h
  by_cases h1 : -(n : Int) <= i
  ·rw [if_pos h1] at h
   have e : (i + n).toNat = j := Option.some.inj h
   exact ⟨by rw [seqIndex_neg (by omega) h1, e], by omega, h1, by omega⟩
  ·rw [if_neg h1] at h; cases h
theorem atI_get {α : Type} {xs : List α} {i : Int} {v : α} (h : atI xs i = some v) : ∃ j, seqIndex? i xs.length = some j /\ xs[j]? = some v /\ j < xs.length /\ -(xs.length : Int) <= i /\ i < xs.length := by
 unfold atI at h
 cases e : ixN xs.length i with
 | none => rw [e] at h; cases h
 | some j =>
  rw [e] at h
  obtain ⟨h1, h2, h3, h4⟩ := ixN_seq e
  exact ⟨j, h1, h, h2, h3, h4⟩
theorem atI_nat {α : Type} {xs : List α} {j : Nat} {v : α} (h : xs[j]? = some v) : atI xs (j : Int) = some v := by
 have hj : j < xs.length := (List.getElem?_eq_some_iff.mp h).1
 have e : ixN xs.length (j : Int) = some j := by
  unfold ixN
  rw [if_pos (by omega), if_pos (by omega)]; simp
 unfold atI; rw [e]; exact h
def PlainIx (b : Expr) : Prop := ∀ o i, subscripted b false o i = operate [o, i] (getItem o i)
def IxR (X : Cx) (r : R2) : Prop :=
 ∀ (value slice : Expr) (pins : List (Addr × Obj)) (s : Shared) (σ : St) (H : Hp) (x y : V) (v u : Value) (Q : VK), Inv X pins σ H s -> RelV x v -> RelV y u -> r x y H Q ->
  subscripted slice false v u = operate [v, u] (getItem v u) -> wpAny (model X.prog X.w) X.A (subscriptTail value slice v u) (EP X pins σ Q) X.xe s
def MtR (X : Cx) (id : String) (r : V -> List V -> Hp -> VK -> Prop) : Prop :=
 ∀ (pins : List (Addr × Obj)) (s : Shared) (σ : St) (H : Hp) (x : V) (xs : List V) (v : Value) (us : List Value) (Q : VK), Inv X pins σ H s -> RelV x v -> Vals xs us -> r x xs H Q ->
  wpAny (model X.prog X.w) X.A (call (.builtin id) (v :: us)) (EP X pins σ Q) X.xe s
section
variable {X : Cx} {a b : Expr} {ta tb : TE} {pos : Pos}
theorem pe_ix {r : R2} (hr : IxR X r) (ha : PE X a ta) (hb : PE X b tb) (hs : PlainIx b) : PE X (.Subscript a b pos) (tOp r ta tb) := by
 intro pins s σ H Q I h
 exact Subscript_ (binT ha hb I h fun v u s2 x y H2 I2 rx ry q => hr a b pins s2 σ H2 x y v u Q I2 rx ry q (hs _ _))
def rIxL (K : Fg_) : R2 := fun x y H Q => ∃ p xs i v, x = .ref p /\ y = .int i /\ SqL K H p xs /\ atI xs i = some v /\ Q v H
def rIxT (K : Fg_) : R2 := fun x y H Q => ∃ p xs i v, x = .ref p /\ y = .int i /\ SqT K H p xs /\ atI xs i = some v /\ Q v H
def rIxS : R2 := fun x y H Q => ∃ z i c, x = .str z /\ y = .int i /\ z.length <= sizeLine /\ atI z.cps.toList i = some c /\ Q (.str ⟨#[c]⟩) H
theorem ix_list : IxR X (rIxL X.K) := by
 intro value slice pins s σ H x y v u Q I rx ry h hs
 obtain ⟨p, xs, i, z, rfl, rfl, hq, he, q⟩ := h
 cases rx
 obtain ⟨t, rfl⟩ := ry
 obtain ⟨its, r, pl, hz⟩ := I.list hq
 obtain ⟨j, h1, h2, h3, h4, h5⟩ := atI_get he
 obtain ⟨w, ew, rw'⟩ := r.get h2
 have hl := r.length
 have hn := line63
 have fin : EP X pins σ Q w s := ⟨z, H, I, rw', q⟩
 by_cases h0 : 0 <= i
 ·have hj : i.toNat = j := by
   rw [seqIndex_of h0 h5] at h1
   exact Option.some.inj h1
  exact item_listR pl.isList h0 (by omega) (by rw [hj]; simpa using ew) fin hs
 ·have hj : (i + (its.toArray.size : Int)).toNat = j := by
   rw [seqIndex_neg (by omega) h4] at h1
   rw [List.size_toArray, <- hl]
   exact Option.some.inj h1
  exact subscriptTail_builtinR (x := w) pl.isList.typeIs slot_list_getitem.lookup
   (wpAny_getItem_list_neg (Q := fun r s' => r = w /\ EP X pins σ Q r s') pl.isList (by omega) (by rw [List.size_toArray] <;> omega) (by omega) (by rw [hj]; simpa using ew) ⟨rfl, fin⟩) hs
theorem ix_tup : IxR X (rIxT X.K) := by
 intro value slice pins s σ H x y v u Q I rx ry h hs
 obtain ⟨p, xs, i, z, rfl, rfl, hq, he, q⟩ := h
 cases rx
 obtain ⟨t, rfl⟩ := ry
 obtain ⟨its, r, pl, hz⟩ := I.tuple hq
 obtain ⟨j, h1, h2, h3, h4, h5⟩ := atI_get he
 obtain ⟨w, ew, rw'⟩ := r.get h2
 have hl := r.length
 have hn := line63
 have fin : EP X pins σ Q w s := ⟨z, H, I, rw', q⟩
 exact subscriptTail_builtinR (x := w) pl.typeIs slot_tuple_getitem.lookup
  (getItem_tuple (j := j) (Q := fun r s' => r = w /\ EP X pins σ Q r s') pl (by omega) (by omega) (by rw [List.size_toArray, <- hl]; exact h1) (by simpa using ew) ⟨rfl, fin⟩) hs
theorem ix_str : IxR X rIxS := by
 intro value slice pins s σ H x y v u Q I rx ry h hs
 obtain ⟨z, i, c, rfl, rfl, hz, he, q⟩ := h
 obtain ⟨t, rfl⟩ := rx
 obtain ⟨t', rfl⟩ := ry
 obtain ⟨j, h1, h2, h3, h4, h5⟩ := atI_get he
 have hl : z.cps.toList.length = z.length := by simp [Str.length]
 rw [hl] at h1 h4 h5
 have hn := line63
 exact tail_any (typeIs_str s z t) slot_str_getitem.lookup (getItem_str (c := c) (by
  have e1 : decide (i < -(2 ^ 63 : Int)) = false := decide_eq_false (by omega)
  have e2 : decide (i >= 2 ^ 63) = false := decide_eq_false (by omega)
  rw [e1, e2, Bool.or_false]) (by rw [h1]; simpa using h2) ⟨.str ⟨#[c]⟩, H, I.tok _, ⟨_, rfl⟩, q⟩) hs
theorem Inv.lst {pins : List (Addr × Obj)} {σ : St} {H : Hp} {s : Shared} {p : Addr} {xs : List V} (I : Inv X pins σ H s) (h : H p = some (.lst xs)) :
  ∃ (its : List Value) (n : Nat), Vals xs its /\ s.heap.get? p = some { cls := .type "list", data := .seq its.toArray n } /\ xs.length <= sizeLine := by
 obtain ⟨z, its, n, r, e⟩ := I.hok p _ h
 exact ⟨its, n, r, e, z⟩
theorem slice_bounds (lo hi : Option Int) (n : Nat) : (sliceBounds lo hi none n).1 = ((HT.sIx n 0 lo : Nat) : Int) /\ (sliceBounds lo hi none n).2.1 = ((HT.sIx n n hi : Nat) : Int) /\ (sliceBounds lo hi none n).2.2 = 1 := by
 refine ⟨?_, ?_, rfl⟩
 ·cases lo with
  | none => simp [sliceBounds, HT.sIx]
  | some i =>
   simp only [sliceBounds, HT.sIx, Option.getD_none, show (1 : Int) > 0 by decide, if_true]
   by_cases h : i < 0
   ·simp only [h, if_true] <;> omega
   ·simp only [h, if_false] <;> omega
 ·cases hi with
  | none => simp [sliceBounds, HT.sIx]
  | some i =>
   simp only [sliceBounds, HT.sIx, Option.getD_none, show (1 : Int) > 0 by decide, if_true]
   by_cases h : i < 0
   ·simp only [h, if_true] <;> omega
   ·simp only [h, if_false] <;> omega
theorem slicePick_cut (its : List Value) (lo hi : Option Int) : slicePick its.toArray lo hi none = ((its.drop (HT.sIx its.length 0 lo)).take (HT.sIx its.length its.length hi - HT.sIx its.length 0 lo)).toArray := by
 obtain ⟨h1, h2, h3⟩ := slice_bounds lo hi its.toArray.size
 unfold slicePick
 rw [h1, h2, h3]
 simp only [sliceRange_one, pick_run, List.size_toArray] <;> rfl
def rSlL (K : Fg_) : V -> Option Int -> Option Int -> Hp -> VK -> Prop := fun x lo hi H Q => ∃ a xs, x = .ref a /\ SqL K H a xs /\ ∀ p, H p = none -> Q (.ref p) (upd H p (.lst (cutV xs lo hi)))
theorem sl_list : SlR X (rSlL X.K) := by
 intro pins s σ H x v vl vu lo hi sl Q I rx hs pl pu h
 obtain ⟨a, xs, rfl, hx, q⟩ := h
 cases rx
 obtain ⟨its, r, ht, hz⟩ := I.list hx
 have hlen := r.length
 refine ⟨"list", _, slot_list_getitem.lookup, ht.isList.typeIs, ?_⟩
 refine wpAny_getItem_list_slice ht.isList hs pl pu .none (by simp) ?_ (by rw [List.size_toArray] <;> omega)
 rw [slicePick_cut, <- hlen]
 refine ⟨.ref s.heap.objs.size, _, I.laid (t' := s.toks) (o := .lst (cutV xs lo hi)) (fun b ob q => Heap.get?_push_of_some _ q) (Nat.le_refl _) ?_, rfl, q _ (I.hok.fresh (Nat.le_refl _))⟩
 exact ⟨Nat.le_trans (cutV_length xs lo hi) hz, _, 0, (r.drop (HT.sIx xs.length 0 lo)).take (HT.sIx xs.length xs.length hi - HT.sIx xs.length 0 lo), Heap.get?_push_size _ rfl⟩
def flatV : V -> Bool
 | .non => true
 | .bl _ => true
 | .int _ => true
 | .str _ => true
 | _ => false
def eqV : V -> V -> Bool
 | .non, .non => true
 | .bl a, .bl b => a == b
 | .bl a, .int b => (if a then 1 else 0) == b
 | .int a, .bl b => a == (if b then 1 else 0)
 | .int a, .int b => a == b
 | .str a, .str b => a == b
 | _, _ => false
theorem eqAt_V {A : Around} {s : Shared} {y x : V} {u v : Value} (ry : RelV y u) (rx : RelV x v) (fy : flatV y = true) (fx : flatV x = true) : SeqAt.EqAt A s u v (eqV y x) := by
 cases y with
 | non =>
  cases ry
  cases x with
  | non => cases rx; exact SeqAt.EqAt.same _
  | bl b => cases rx; exact SeqAt.EqAt.none_bool b
  | int b => obtain ⟨t, rfl⟩ := rx; exact SeqAt.EqAt.none_int b t
  | str b => obtain ⟨t, rfl⟩ := rx; exact SeqAt.EqAt.none_str b t
  | _ => exact absurd (show false = true from fx) Bool.false_ne_true
 | bl a =>
  cases ry
  cases x with
  | non => cases rx; exact SeqAt.EqAt.bool_none a
  | bl b => cases rx; exact SeqAt.EqAt.bool_bool a b
  | int b => obtain ⟨t, rfl⟩ := rx; exact SeqAt.EqAt.bool_int a b t
  | str b => obtain ⟨t, rfl⟩ := rx; exact SeqAt.EqAt.bool_str a b t
  | _ => exact absurd (show false = true from fx) Bool.false_ne_true
 | int a =>
  obtain ⟨t', rfl⟩ := ry
  cases x with
  | non => cases rx; exact SeqAt.EqAt.int_none a t'
  | bl b => cases rx; exact SeqAt.EqAt.int_bool a t' b
  | int b => obtain ⟨t, rfl⟩ := rx; exact SeqAt.EqAt.int_int a t' b t
  | str b => obtain ⟨t, rfl⟩ := rx; exact SeqAt.EqAt.int_str a t' b t
  | _ => exact absurd (show false = true from fx) Bool.false_ne_true
 | str a =>
  obtain ⟨t', rfl⟩ := ry
  cases x with
  | non => cases rx; exact SeqAt.EqAt.str_none a t'
  | bl b => cases rx; exact SeqAt.EqAt.str_bool a t' b
  | int b => obtain ⟨t, rfl⟩ := rx; exact SeqAt.EqAt.str_int a t' b t
  | str b => obtain ⟨t, rfl⟩ := rx; exact SeqAt.EqAt.str_str a t' b t
  | _ => exact absurd (show false = true from fx) Bool.false_ne_true
 | _ => exact absurd (show false = true from fy) Bool.false_ne_true
def eqU (x : V) (u : Value) : Bool := match u with
 | .none => eqV .non x
 | .bool b => eqV (.bl b) x
 | .int i _ => eqV (.int i) x
 | .str z _ => eqV (.str z) x
 | _ => false
theorem eqU_of {x y : V} {u : Value} (r : RelV y u) (f : flatV y = true) : eqU x u = eqV y x := by
 cases y with
 | non => cases r; rfl
 | bl b => cases r; rfl
 | int i => obtain ⟨t, rfl⟩ := r; rfl
 | str z => obtain ⟨t, rfl⟩ := r; rfl
 | _ => exact absurd (show false = true from f) Bool.false_ne_true
theorem any_eqU {x : V} : ∀ {xs : List V} {us : List Value}, Vals xs us -> xs.all flatV = true -> us.any (eqU x) = xs.any fun y => eqV y x
 | _, _, .nil, _ => rfl
 | y :: xs, u :: us, .cons r t, f => by
  rw [List.all_cons, Bool.and_eq_true] at f
  rw [List.any_cons, List.any_cons, eqU_of r f.1, any_eqU t f.2]
theorem mem_eqAt {A : Around} {s : Shared} {x : V} {v : Value} (rx : RelV x v) (fx : flatV x = true) : ∀ {xs : List V} {us : List Value}, Vals xs us -> xs.all flatV = true -> ∀ u ∈ us, SeqAt.EqAt A s u v (eqU x u)
 | _, _, .nil, _ => fun u hu => by cases hu
 | y :: xs, u :: us, .cons r t, f => fun u' hu => by
  rw [List.all_cons, Bool.and_eq_true] at f
  rcases List.mem_cons.mp hu with rfl | hu
  ·rw [eqU_of r f.1]; exact eqAt_V r rx f.1 fx
  ·exact mem_eqAt rx fx t f.2 u' hu
def inV (x : V) (xs : List V) : Bool := xs.any fun y => eqV y x
def rIn (K : Fg_) (neg : Bool) : R2 := fun x y H Q => ∃ p xs, y = .ref p /\ (SqL K H p xs \/ SqT K H p xs) /\ flatV x = true /\ xs.all flatV = true /\ Q (.bl (if neg then !inV x xs else inV x xs)) H
theorem op_in_seq : OpR X (compareOp .In) (rIn X.K false) := by
 intro pins s σ H x y v u Q I rx ry h
 obtain ⟨p, xs, rfl, hq, fx, fs, q⟩ := h
 cases ry
 rcases hq with hq | hq
 ·obtain ⟨its, r, pl, hz⟩ := I.list hq
  refine SeqAt.in_listAt (eqU x) pl.isList (fun w hw => mem_eqAt rx fx r fs w (by simpa using hw)) ⟨.bl _, H, I, rfl, ?_⟩
  rw [show its.toArray.any (eqU x) = its.any (eqU x) by simp, any_eqU r fs]
  exact q
 ·obtain ⟨its, r, pl, hz⟩ := I.tuple hq
  refine SeqAt.in_tupleAt (eqU x) pl (fun w hw => mem_eqAt rx fx r fs w (by simpa using hw)) ⟨.bl _, H, I, rfl, ?_⟩
  rw [show its.toArray.any (eqU x) = its.any (eqU x) by simp, any_eqU r fs]
  exact q
theorem op_notIn_seq : OpR X (compareOp .NotIn) (rIn X.K true) := by
 intro pins s σ H x y v u Q I rx ry h
 obtain ⟨p, xs, rfl, hq, fx, fs, q⟩ := h
 cases ry
 rcases hq with hq | hq
 ·obtain ⟨its, r, pl, hz⟩ := I.list hq
  refine SeqAt.notIn_listAt (eqU x) pl.isList (fun w hw => mem_eqAt rx fx r fs w (by simpa using hw)) ⟨.bl _, H, I, rfl, ?_⟩
  rw [show its.toArray.any (eqU x) = its.any (eqU x) by simp, any_eqU r fs]
  exact q
 ·obtain ⟨its, r, pl, hz⟩ := I.tuple hq
  refine SeqAt.notIn_tupleAt (eqU x) pl (fun w hw => mem_eqAt rx fx r fs w (by simpa using hw)) ⟨.bl _, H, I, rfl, ?_⟩
  rw [show its.toArray.any (eqU x) = its.any (eqU x) by simp, any_eqU r fs]
  exact q
theorem call_len_seq : CallR X (.builtin "len") (fun xs H Q => ∃ p ys, xs = [.ref p] /\ (SqL X.K H p ys \/ SqT X.K H p ys) /\ Q (.int ys.length) H) := by
 intro pins s σ H xs us Q I r h
 obtain ⟨p, ys, rfl, hq, q⟩ := h
 obtain ⟨u, rfl, rx⟩ := vals1 r
 cases rx
 have hn := line63
 rcases hq with hq | hq
 ·obtain ⟨its, r', pl, hz⟩ := I.list hq
  have hlen := r'.length
  exact Calls.call_len_list pl.isList (by simp only [List.size_toArray] <;> omega) ⟨.int ys.length, H, I.tok _, ⟨s.toks + 1, by rw [List.size_toArray, hlen]⟩, q⟩
 ·obtain ⟨its, r', pl, hz⟩ := I.tuple hq
  have hlen := r'.length
  exact len_tuple pl (by simp only [List.size_toArray] <;> omega) ⟨.int ys.length, H, I.tok _, ⟨s.toks + 1, by rw [List.size_toArray, hlen]⟩, q⟩
theorem call_len_str : CallR X (.builtin "len") (fun xs H Q => ∃ z, xs = [.str z] /\ z.length <= sizeLine /\ Q (.int z.length) H) := by
 intro pins s σ H xs us Q I r h
 obtain ⟨z, rfl, hz, q⟩ := h
 obtain ⟨u, rfl, t, rfl⟩ := vals1 r
 have hn := line63
 exact len_str (by omega) ⟨.int z.length, H, I.tok _, ⟨_, rfl⟩, q⟩
theorem call_list_of : CallR X (.type "list") (fun xs H Q => ∃ p ys, xs = [.ref p] /\ (SqL X.K H p ys \/ SqT X.K H p ys) /\ ∀ l, H l = none -> Q (.ref l) (upd H l (.lst ys))) := by
 intro pins s σ H xs us Q I r h
 obtain ⟨p, ys, rfl, hq, q⟩ := h
 obtain ⟨u, rfl, rx⟩ := vals1 r
 cases rx
 have fin : ∀ (its : List Value), Vals ys its -> ys.length <= sizeLine -> ∀ (h' : Heap) (c' : Nat), (∀ b o', s.heap.get? b = some o' -> h'.get? b = some o') ->
   h'.get? s.heap.objs.size = some { cls := .type "list", dict := none, data := .seq its.toArray c', slots := #[] } -> EP X pins σ Q (.ref s.heap.objs.size) { s with heap := h' } := fun its r' hz h' c' kp e =>
  ⟨.ref s.heap.objs.size, _, I.laid (t' := s.toks) kp (Nat.le_refl _) (show ObjOk X.prog X.w _ h' _ (.lst ys) from ⟨hz, its, c', r', e⟩), rfl, q _ (I.hok.fresh (Nat.le_refl _))⟩
 rcases hq with hq | hq
 ·obtain ⟨its, r', pl, hz⟩ := I.list hq
  have hlen := r'.length
  obtain ⟨o, ho, hc, n, hd⟩ := pl.isList
  exact call_list_seq p (.inl rfl) ho hc hd (fun h' c' kp e => fin its r' hz h' c' kp e) (by simp only [List.size_toArray] <;> omega)
 ·obtain ⟨its, r', pl, hz⟩ := I.tuple hq
  have hlen := r'.length
  obtain ⟨o, ho, hc, n, hd⟩ := pl
  exact call_list_seq p (.inr rfl) ho hc hd (fun h' c' kp e => fin its r' hz h' c' kp e) (by simp only [List.size_toArray] <;> omega)
theorem call_tuple_of : CallR X (.type "tuple") (fun xs H Q => ∃ p ys, xs = [.ref p] /\ ((SqL X.K H p ys /\ ∀ l, H l = none -> Q (.ref l) (upd H l (.tup ys))) \/ (SqT X.K H p ys /\ Q (.ref p) H))) := by
 intro pins s σ H xs us Q I r h
 obtain ⟨p, ys, rfl, h⟩ := h
 obtain ⟨u, rfl, rx⟩ := vals1 r
 cases rx
 rcases h with ⟨hq, q⟩ | ⟨hq, q⟩
 ·obtain ⟨its, r', pl, hz⟩ := I.list hq
  have hlen := r'.length
  refine call_tuple_list pl.isList (fun h' kp => ?_) (by simp only [List.size_toArray] <;> omega)
  have I1 : Inv X pins σ H { s with heap := h' } := I.kept (t' := s.toks) kp
  have I2 : Inv X pins σ (upd H h'.objs.size (.tup ys)) { s with heap := h'.push { cls := .type "tuple", data := .seq its.toArray } } :=
   I1.laid (t' := s.toks) (fun b o e => Heap.get?_push_of_some _ e) (Nat.le_refl _) (show ObjOk X.prog X.w _ _ _ (.tup ys) from ⟨hz, its, r', IsTup.new _ _⟩)
  exact ⟨.ref h'.objs.size, _, I2, rfl, q _ (I1.hok.fresh (Nat.le_refl _))⟩
 ·obtain ⟨its, r', pl, hz⟩ := I.tuple hq
  exact call_tuple_same pl ⟨.ref p, H, I, rfl, q⟩
def tyV (K : Fg_) (T : String) (x : V) (H : Hp) : Prop := match x with
 | .str _ => T = "str"
 | .int _ => T = "int"
 | .ref p => (T = "list" /\ ∃ xs, SqL K H p xs) \/ (T = "tuple" /\ ∃ o, K.lookup p = some o /\ o.cls = .type "tuple" /\ o.dict = none) \/
   (T = "dict" /\ ((∃ kvs, H p = some (.dK kvs)) \/ ∃ kvs, H p = some (.dT kvs))) \/ (T = "set" /\ ∃ S n, H p = some (.set S n))
 | _ => False
theorem tyV_is {pins : List (Addr × Obj)} {σ : St} {H : Hp} {s : Shared} {T : String} {x : V} {v : Value} (I : Inv X pins σ H s) (r : RelV x v) (ty : tyV X.K T x H) :
  s.TypeIs v T /\ ∀ a, v = .ref a -> ∃ ob, s.heap.get? a = some ob /\ ob.dict = none := by
 cases x with
 | str z =>
  obtain ⟨t, rfl⟩ := r
  cases (show T = "str" from ty)
  exact ⟨typeIs_str s z t, fun _ e => nomatch e⟩
 | int i =>
  obtain ⟨t, rfl⟩ := r
  cases (show T = "int" from ty)
  exact ⟨typeIs_int s i t, fun _ e => nomatch e⟩
 | ref p =>
  cases r
  rcases ty with ⟨rfl, xs, hq⟩ | ⟨rfl, o, hk, hc, hd⟩ | ⟨rfl, hk⟩ | ⟨rfl, S, n, hk⟩
  ·obtain ⟨its, _, pl, _⟩ := I.list hq
   refine ⟨pl.isList.typeIs, fun a e => ?_⟩
   cases e
   obtain ⟨o, n, e, c, hd, _⟩ := pl
   exact ⟨o, e, hd⟩
  ·refine ⟨⟨o, I.kIn p o hk, hc⟩, fun a e => ?_⟩
   cases e
   exact ⟨o, I.kIn _ o hk, hd⟩
  ·have z : ∃ o, s.heap.get? p = some o /\ o.ExactDict := by
    rcases hk with ⟨kvs, hk⟩ | ⟨kvs, hk⟩
    ·obtain ⟨_, _, _, _, o, _, _, e, ex, _⟩ := I.hok p _ hk
     exact ⟨o, e, ex⟩
    ·obtain ⟨_, _, _, _, o, _, _, e, ex, _⟩ := I.hok p _ hk
     exact ⟨o, e, ex⟩
   obtain ⟨o, e, ex⟩ := z
   refine ⟨⟨o, e, ex.1⟩, fun a e2 => ?_⟩
   cases e2
   exact ⟨o, e, ex.2.1⟩
  ·obtain ⟨o, _, _, _, e, ex, _⟩ := I.hok p _ hk
   refine ⟨⟨o, e, ex.1⟩, fun a e2 => ?_⟩
   cases e2
   exact ⟨o, e, ex.2.1⟩
 | _ => exact False.elim ty
def tBM0 (K : Fg_) (T : String) (r : V -> List V -> Hp -> VK -> Prop) (to : TE) : TE := fun σ H Q => to σ H fun x H1 => tyV K T x H1 /\ r x [] H1 Q
def tBM (K : Fg_) (T : String) (r : V -> List V -> Hp -> VK -> Prop) (to : TE) (t : TA) : TE := fun σ H Q => to σ H fun x H1 => tyV K T x H1 /\ t σ H1 fun xs H2 => r x xs H2 Q
variable {o e : Expr} {es : List Expr} {to : TE} {t : TA} {name : Str} {apos cpos : Pos} {T id : String} {r : V -> List V -> Hp -> VK -> Prop}
theorem pe_bm0 (pa : PlainAttrs T) (slot : Slot T name id) (hty : typeOf (.builtin id) = pure (.type "method_descriptor")) (hm : MtR X id r) (ho : PE X o to)
  (hbase : attributeBase o name X.env (eval o X.env) = eval o X.env := by rfl) (hline : (apos.endLine == cpos.line) = true := by rfl) : PE X (.Call (.Attribute o name apos) [] [] cpos) (tBM0 X.K T r to) := by
 intro pins s σ H Q I h
 refine wpAny_Call_method0_late hbase hline (thn (ho pins s σ H _ I h) fun v s1 ⟨x, H1, I1, r1, ty, q1⟩ => ?_)
 obtain ⟨h1, h2⟩ := tyV_is I1 r1 ty
 exact ⟨T, id, pa, slot, hty, h1, h2, Calls.callWith_builtin rfl (PySem.evalArgs_none (hm pins s1 σ H1 x [] v [] Q I1 r1 .nil q1))⟩
theorem pe_bm (pa : PlainAttrs T) (slot : Slot T name id) (hty : typeOf (.builtin id) = pure (.type "method_descriptor")) (hm : MtR X id r) (ho : PE X o to) (ha : PA X (e :: es) t)
  (hbase : attributeBase o name X.env (eval o X.env) = eval o X.env := by rfl)
  (hfew : ((backTo cpos (starEach (e :: es) X.env)).all (fun x => !x.1) && (backToKw cpos (keywordEach [] X.env)).all (fun x => x.1.isSome)
   && decide ((e :: es).length + ([] : List Keyword).length + (if ([] : List Keyword).isEmpty then 0 else 1) < 30)) = true := by rfl)
  (hline : (apos.endLine == cpos.line) = true := by rfl) (hs : starEach (e :: es) X.env = (false, eval e X.env) :: starEach es X.env := by rfl) (hplain : (backTo cpos (starEach es X.env)).any (·.1) = false := by rfl) :
  PE X (.Call (.Attribute o name apos) (e :: es) [] cpos) (tBM X.K T r to t) := by
 intro pins s σ H Q I h
 refine wpAny_Call_method_late hbase hfew hline rfl (thn (ho pins s σ H _ I h) fun v s1 ⟨x, H1, I1, r1, ty, q1⟩ => ?_)
 obtain ⟨h1, h2⟩ := tyV_is I1 r1 ty
 refine ⟨T, id, pa, slot, hty, h1, h2, ?_⟩
 have hA := ha cpos pins s1 σ H1 _ I1 q1
 rw [hs] at hA ⊢
 refine Calls.callWith_builtin (by show (false || (backTo cpos (starEach es X.env)).any (·.1)) = false; rw [hplain] <;> rfl) (Calls.evalArgs_plain ?_)
 exact thn hA fun us s2 ⟨vs, H2, I2, r2, q2⟩ => hm pins s2 σ H2 x vs v us Q I2 r1 r2 q2
end
end L2
namespace L2
open PySem PySem.Spec PyProof.Rows
def MtM (X : Cx) (id : String) (r : V -> List V -> Hp -> VK -> Prop) : Prop :=
 ∀ (pins : List (Addr × Obj)) (s : Shared) (σ : St) (H : Hp) (x : V) (xs : List V) (v : Value) (us : List Value) (Q : VK), Inv X pins σ H s -> RelV x v -> Vals xs us -> r x xs H Q ->
  wpAny (model X.prog X.w) X.A (call (.builtin id) (v :: us)) (EP X pins σ Q) X.xe s
theorem Vals.one : ∀ {x : V} {us : List Value}, Vals [x] us -> ∃ u, us = [u] /\ RelV x u
 | _, _, .cons r .nil => ⟨_, rfl, r⟩
theorem Vals.two : ∀ {x y : V} {us : List Value}, Vals [x, y] us -> ∃ u v, us = [u, v] /\ RelV x u /\ RelV y v
 | _, _, _, .cons r (.cons q .nil) => ⟨_, _, rfl, r, q⟩
theorem Vals.zero : ∀ {us : List Value}, Vals [] us -> us = []
 | _, .nil => rfl
theorem Vals.dropLast {xs : List V} {us : List Value} (h : Vals xs us) : Vals xs.dropLast us.dropLast := by
 induction h with
 | nil => exact .nil
 | cons r t ih =>
  cases t with
  | nil => exact .nil
  | cons q t' => exact .cons r ih
theorem Vals.eraseIdx : ∀ {xs : List V} {us : List Value} (i : Nat), Vals xs us -> Vals (xs.eraseIdx i) (us.eraseIdx i)
 | _, _, _, .nil => .nil
 | _, _, 0, .cons _ t => t
 | _, _, i + 1, .cons r t => .cons r (Vals.eraseIdx i t)
theorem Vals.rep {xs : List V} {us : List Value} (h : Vals xs us) : ∀ k : Nat, Vals (List.replicate k xs).flatten (List.replicate k us).flatten
 | 0 => .nil
 | k + 1 => by
  rw [List.replicate_succ, List.replicate_succ, List.flatten_cons, List.flatten_cons]
  exact Vals.append h (Vals.rep h k)
theorem erase_last {α : Type} (l : List α) : l.eraseIdx (l.length - 1) = l.dropLast := by
 induction l with
 | nil => rfl
 | cons a r ih =>
  cases r with
  | nil => rfl
  | cons b r =>
   have e : (a :: b :: r).length - 1 = ((b :: r).length - 1) + 1 := by
    have h1 : (a :: b :: r).length = r.length + 2 := rfl
    have h2 : (b :: r).length = r.length + 1 := rfl
    omega
   rw [e, List.eraseIdx_cons_succ, ih]
   all_goals rfl
theorem len_erase {α : Type} : ∀ (l : List α) (i : Nat), (l.eraseIdx i).length <= l.length
 | [], _ => Nat.le_refl _
 | _ :: _, 0 => Nat.le_succ _
 | _ :: r, i + 1 => Nat.succ_le_succ (len_erase r i)
theorem foldl_rep (its : List Value) : ∀ (k : Nat) (acc : List Value),
  List.foldl (fun x1 x2 => x1 ++ x2) acc.toArray (List.replicate k its.toArray) = (acc ++ (List.replicate k its).flatten).toArray
 | 0, acc => by simp
 | k + 1, acc => by
  have e : acc.toArray ++ its.toArray = (acc ++ its).toArray := by simp
  have e2 : (acc ++ its) ++ (List.replicate k its).flatten = acc ++ (List.replicate (k + 1) its).flatten := by
   rw [List.replicate_succ, List.flatten_cons, List.append_assoc]
  rw [<- e2, <- foldl_rep its k (acc ++ its), <- e, List.replicate_succ, List.foldl_cons]
section
variable {X : Cx} {pins : List (Addr × Obj)} {σ : St} {H : Hp} {s : Shared} {l b : Addr} {xs ys zs : List V}
theorem Inv.lset {its its' : List Value} {n : Nat} {f : Array Value -> Array Value} {t' : Nat} (I : Inv X pins σ H s) (hH : H l = some (.lst xs))
  (e : s.heap.get? l = some { cls := .type "list", data := .seq its.toArray n }) (hf : f its.toArray = its'.toArray) (hv : Vals ys its') (hz : ys.length <= sizeLine) :
  Inv X pins σ (upd H l (.lst ys)) { s with heap := s.heap.update l (Obj.mapSeq f), toks := t' } := by
 have q := PySem.IsL.update e f
 rw [hf] at q
 refine I.write (x := l) (e := l) (by rw [hH]; exact trivial) (.inl rfl) (fun b' u hb hu => (Heap.get?_update_other s.heap (Obj.mapSeq f) (Ne.symm hb)).trans hu) ⟨_, q⟩ ?_
 exact ⟨hz, its', _, hv, q⟩
theorem Inv.lnew {its : List Value} {t' : Nat} (I : Inv X pins σ H s) (hv : Vals ys its) (hz : ys.length <= sizeLine) :
  Inv X pins σ (upd H s.heap.objs.size (.lst ys)) { s with heap := s.heap.push { cls := .type "list", data := .seq its.toArray }, toks := t' } :=
 I.laid (fun _ _ q => Heap.get?_push_of_some _ q) (Nat.le_refl _) ⟨hz, its, 0, hv, Heap.get?_push_size _ rfl⟩
theorem Inv.fresh (I : Inv X pins σ H s) : H s.heap.objs.size = none := I.hok.fresh (Nat.le_refl _)
theorem Inv.lstM (I : Inv X pins σ H s) (hH : H l = some (.lst xs)) : xs.length <= sizeLine /\ ∃ (its : List Value) (n : Nat), Vals xs its /\ xs.length = its.length /\ s.heap.get? l = some { cls := .type "list", data := .seq its.toArray n } := by
 obtain ⟨z, its, n, r, e⟩ := I.hok l _ hH
 exact ⟨z, its, n, r, r.length, e⟩
theorem notLongL {n : Nat} (h : n <= sizeLine) : Builtin.List.listTooLong n = false := by
 unfold Builtin.List.listTooLong
 exact decide_eq_false (by omega)
end
section
variable {X : Cx}
def rAppend : V -> List V -> Hp -> VK -> Prop := fun x vs H Q => ∃ l xs y, x = .ref l /\ vs = [y] /\ H l = some (.lst xs) /\ xs.length < sizeLine /\ Q .non (upd H l (.lst (xs ++ [y])))
theorem mt_append : MtM X "list.append" rAppend := by
 intro pins s σ H x vs v us Q I rx rv h
 obtain ⟨l, xs, y, rfl, rfl, hH, hz, q⟩ := h
 cases rx
 obtain ⟨u, rfl, ru⟩ := rv.one
 obtain ⟨z, its, n, r, hl, e⟩ := I.lstM hH
 refine call_meets F.slot_list_append ⟨_, e, rfl⟩ F.entry_list_append (F.args_list_append_2 _ _) (PySem.list_append l its.toArray n u (by rw [List.size_toArray]; omega)) ⟨e, ?_⟩
 refine ⟨.non, _, I.lset (its' := its ++ [u]) hH e (by simp) (r.append (.cons ru .nil)) ?_, rfl, q⟩
 rw [List.length_append, List.length_singleton]
 omega
def rPop : V -> List V -> Hp -> VK -> Prop := fun x vs H Q => ∃ l xs y, x = .ref l /\ vs = [] /\ H l = some (.lst xs) /\ xs[xs.length - 1]? = some y /\ Q y (upd H l (.lst xs.dropLast))
theorem mt_pop : MtM X "list.pop" rPop := by
 intro pins s σ H x vs v us Q I rx rv h
 obtain ⟨l, xs, y, rfl, rfl, hH, hy, q⟩ := h
 cases rx
 have hus := rv.zero
 subst hus
 obtain ⟨z, its, n, r, hl, e⟩ := I.lstM hH
 obtain ⟨u, hu, ru⟩ := r.get hy
 have hy' : its.toArray[its.toArray.size - 1]? = some u := by
  show its.toArray[its.length - 1]? = some u
  rw [<- Array.getElem?_toList, <- hl]
  exact hu
 refine call_meets F.slot_list_pop ⟨_, e, rfl⟩ F.entry_list_pop (F.args_list_pop_1 _) (MeetsSeq.list_pop_last l its.toArray n u hy' (by rw [List.size_toArray]; omega)) ⟨e, ?_⟩
 refine ⟨y, _, I.lset (its' := its.dropLast) hH e ?_ r.dropLast ?_, ru, q⟩
 ·show its.toArray.eraseIdxIfInBounds (its.toArray.size - 1) = its.dropLast.toArray
  rw [List.size_toArray, List.eraseIdxIfInBounds_toArray, erase_last]
 ·rw [List.length_dropLast]
  omega
def rPopAt : V -> List V -> Hp -> VK -> Prop := fun x vs H Q => ∃ l xs i k y, x = .ref l /\ vs = [.int i] /\ H l = some (.lst xs) /\ -(2 ^ 63) <= i /\ i < 2 ^ 63 /\ seqIndex? i xs.length = some k /\ xs[k]? = some y /\ Q y (upd H l (.lst (xs.eraseIdx k)))
theorem mt_popAt : MtM X "list.pop" rPopAt := by
 intro pins s σ H x vs v us Q I rx rv h
 obtain ⟨l, xs, i, k, y, rfl, rfl, hH, h1, h2, hk, hy, q⟩ := h
 cases rx
 obtain ⟨u, rfl, ru⟩ := rv.one
 obtain ⟨t, rfl⟩ := ru
 obtain ⟨z, its, n, r, hl, e⟩ := I.lstM hH
 obtain ⟨w, hw, rw'⟩ := r.get hy
 refine call_meets F.slot_list_pop ⟨_, e, rfl⟩ F.entry_list_pop (F.args_list_pop_2 _ _)
  (MeetsSeq.list_pop_at l its.toArray n i t k w (fitsIndex_both h1 h2) (by rw [List.size_toArray, <- hl]; exact hk) (by rw [<- Array.getElem?_toList]; exact hw) (by rw [List.size_toArray]; omega)) ⟨e, ?_⟩
 refine ⟨y, _, I.lset (its' := its.eraseIdx k) hH e ?_ (r.eraseIdx k) ?_, rw', q⟩
 ·show its.toArray.eraseIdxIfInBounds k = (its.eraseIdx k).toArray
  rw [List.eraseIdxIfInBounds_toArray]
 ·have := len_erase xs k
  omega
def rClear : V -> List V -> Hp -> VK -> Prop := fun x vs H Q => ∃ l xs, x = .ref l /\ vs = [] /\ H l = some (.lst xs) /\ Q .non (upd H l (.lst []))
theorem mt_clear : MtM X "list.clear" rClear := by
 intro pins s σ H x vs v us Q I rx rv h
 obtain ⟨l, xs, rfl, rfl, hH, q⟩ := h
 cases rx
 have hus := rv.zero
 subst hus
 obtain ⟨z, its, n, r, hl, e⟩ := I.lstM hH
 refine call_meets F.slot_list_clear ⟨_, e, rfl⟩ F.entry_list_clear (F.args_list_clear_1 _) (AutoSeq1.list_clear_list_0 l its.toArray n (by rw [List.size_toArray]; omega)) ⟨e, ?_⟩
 exact ⟨.non, _, I.lset (its' := []) (ys := []) hH e rfl .nil (Nat.zero_le _), rfl, q⟩
def rCat : R2 := fun x y H Q => ∃ l b xs zs, x = .ref l /\ y = .ref b /\ H l = some (.lst xs) /\ H b = some (.lst zs) /\ xs.length + zs.length <= sizeLine /\ ∀ p, H p = none -> Q (.ref p) (upd H p (.lst (xs ++ zs)))
theorem op_cat : OpR X (binaryOp .Add) rCat := by
 intro pins s σ H x y v u Q I rx ry h
 obtain ⟨l, b, xs, zs, rfl, rfl, hH, hB, hz, q⟩ := h
 cases rx
 cases ry
 obtain ⟨z, its, n, r, hl, e⟩ := I.lstM hH
 obtain ⟨z2, its2, n2, r2, hl2, e2⟩ := I.lstM hB
 refine PySem.P.add_list e e2 ?_ (by rw [List.size_toArray, List.size_toArray]; omega)
 have ea : its.toArray ++ its2.toArray = (its ++ its2).toArray := by simp
 rw [ea]
 exact ⟨.ref _, _, I.lnew (t' := s.toks) (r.append r2) (by rw [List.length_append]; omega), rfl, q _ I.fresh⟩
def rRep : R2 := fun x y H Q => ∃ l k xs, x = .ref l /\ y = .int k /\ H l = some (.lst xs) /\ -(2 ^ 63) <= k /\ k < 2 ^ 63 /\ xs.length * k.toNat <= sizeLine /\
 ∀ p, H p = none -> Q (.ref p) (upd H p (.lst (List.replicate k.toNat xs).flatten))
theorem len_rep {α : Type} (xs : List α) (k : Nat) : (List.replicate k xs).flatten.length = k * xs.length := by
 induction k with
 | zero => simp
 | succ k ih => rw [List.replicate_succ, List.flatten_cons, List.length_append, ih, Nat.succ_mul, Nat.add_comm]
theorem op_rep : OpR X (binaryOp .Mult) rRep := by
 intro pins s σ H x y v u Q I rx ry h
 obtain ⟨l, k, xs, rfl, rfl, hH, h1, h2, hz, q⟩ := h
 cases rx
 obtain ⟨t, rfl⟩ := ry
 obtain ⟨z, its, n, r, hl, e⟩ := I.lstM hH
 have hlen : its.toArray.size * k.toNat <= sizeLine := by rw [List.size_toArray, <- hl]; exact hz
 have hcap : ¬ its.toArray.size * k.toNat > (2 ^ 63 - 1) / 8 := by
  have : (sizeLine : Nat) <= (2 ^ 63 - 1) / 8 := by decide
  omega
 have hfit : ¬ (!Builtin.List.listFitsIndex k) = true := by
  rw [fitsIndex_both h1 h2]
  exact Bool.false_ne_true
 have hlong : ¬ Builtin.List.listTooLong (its.toArray.size * k.toNat) = true := by
  rw [notLongL hlen]
  exact Bool.false_ne_true
 have hnew : List.foldl (fun x1 x2 => x1 ++ x2) #[] (List.replicate (if its.toArray.isEmpty = true then 0 else k.toNat) its.toArray) = (List.replicate k.toNat its).flatten.toArray := by
  have f0 : ∀ m : Nat, List.foldl (fun x1 x2 => x1 ++ x2) #[] (List.replicate m its.toArray) = (List.replicate m its).flatten.toArray := fun m => by
   have := foldl_rep its m []
   rw [List.nil_append] at this
   exact this
  rw [f0]
  cases its with
  | nil => simp
  | cons a r' => rw [if_neg (by simp)]
 refine wpAny_binaryOp_repeat_ref (T := "list") (U := "int") (by decide) ⟨_, e, rfl⟩ (fun s' => typeIs_int s' k t) noFill_list_mul F.fills_int_mul F.slot_int_rmul repeat_list F.slot_int_index.lookup
  (call_meets F.slot_int_rmul (typeIs_int s k t) F.entry_int_rmul (F.args_int_rmul_2 _ _) (int___rmul___int_list k t l its.toArray n)
   ⟨e, rfl, ⟨_, e, rfl⟩, call_meets F.slot_list_mul ⟨_, e, rfl⟩ F.entry_list_mul (F.args_list_mul_2 _ _) (AutoListH.list___mul___list_int_3 l its.toArray n k t hfit hcap hlong) ⟨e, ?_⟩⟩)
 rw [hnew]
 exact ⟨.ref _, _, I.lnew (t' := s.toks) (r.rep k.toNat) (by rw [len_rep, Nat.mul_comm]; exact hz), rfl, q _ I.fresh⟩
end
section
variable {prog : Program} {w : World} {A : Around} {E : Value -> Shared -> Prop} {s : Shared}
set_option maxRecDepth 100000 in
end
end L2
namespace Att
open PySem PySem.W PySem.Calls PyProof.Rows
theorem ints_of_wellAll {P : Params} {h : Heap} : ∀ (ns : List Int) (vs : List Value), WellAll P h vs (ns.map WData.int) -> IntsAre vs ns := by
 intro ns
 induction ns with
 | nil =>
  intro vs w
  rw [List.map_nil] at w
  cases w
  exact .nil
 | cons n ns ih =>
  intro vs w
  rw [List.map_cons] at w
  cases w with
  | cons a b =>
   cases a
   exact .cons _ _ (ih _ b)
theorem script_of {l : OpenLaw} {n : Nat} (hn : l.most = some n) {P : Params} {h : Heap} {args : List WData} {vals : List Value}
  (hpre : l.row.toRowW.claim.pre args = true) (hwl : WellAll P h vals args) :
  ∃ a vs ns, vals = [Value.ref a] /\ args = [WData.list (ns.map WData.int)] /\ h.get? a = some { cls := .type "list", data := .seq vs.toArray } /\ IntsAre vs ns /\ ns.length <= n := by
 have hsh : WShape.hasAll [] args [.list .int] = true := (pre_splitW hpre).1
 have hc : l.pre.holds [] { args := args } = true := (pre_splitW hpre).2
 obtain ⟨d, r, rfl, h1, h2⟩ := hasAllW_cons hsh
 obtain rfl := hasAllW_nil h2
 obtain ⟨xs, rfl, h3⟩ := hasW_list h1
 obtain ⟨ns, rfl⟩ := items_int h3
 have hlen : ns.length <= n := by
  unfold OpenLaw.pre at hc
  have h4 : (WTm.not (.lt (.lit (.int (n : Int))) (.len (.arg 0)))).holds [] { args := [.list (ns.map .int)] } = true := by
   have h4 := (holds_andW hc).1
   rw [hn] at h4
   exact h4
  have h5 := condW_of h4 (w_not (w_lt w_lit (w_len_list (w_arg rfl))))
  rw [List.length_map] at h5
  refine Nat.le_of_not_lt fun q => ?_
  have q' : (n : Int) < ((ns.length : Nat) : Int) := by omega
  first
   | (rw [decide_eq_true q'] at h5; exact absurd h5 (by decide))
   | (simp at h5; omega)
 cases hwl with
 | cons w1 w2 =>
  cases w2
  cases w1 with
  | list ho hall => exact ⟨_, _, ns, rfl, rfl, ho, ints_of_wellAll ns _ hall, hlen⟩
theorem post_true (l : OpenLaw) (args : List WData) : l.row.toRowW.claim.post args (.bool true) args = true :=
 postW_of (r := l.row.toRowW) (X := (true == true))
  (show WShape.has [] (.bool true) .bool = true by first | rfl | decide | simp [WShape.has, WShape.arms, WShape.armsAll])
  (show (WTm.eq .res (.lit (.bool true))).value [] { args := args, res := some (.bool true), after := args } = some (.bool (true == true)) from w_eq_bool (w_res rfl) w_lit) rfl
theorem attach_call {l : OpenLaw} {n : Nat} {q : Program} {loose : List Str} {XP : (Str -> Option Value) -> Heap -> Prop} {YP : World -> Heap -> Prop} {d : DefRec}
  (hn : l.most = some n) (hdf : d.params.defaults = [])
  (call : ∀ (w : World) (s₀ s₁ : Shared) (mg mb : Str -> Option Value) (fa : Addr) (o : Obj) (pm cd doc : Value) (a : Addr) (vs : List Value) (ns : List Int),
   Ground q loose [] XP w s₀ mg mb s₁.heap -> YP w s₁.heap ->
   s₁.heap.get? fa = some o -> o.data = .func (docDef d.name d.params d.body d.scope pm cd doc) -> s₁.heap.CodeRec cd d.name -> mg d.name = some (.ref fa) ->
   s₁.heap.get? a = some { cls := .type "list", data := .seq vs.toArray } -> IntsAre vs ns -> ns.length <= n -> s₁.gens = #[] ->
   codeAny (model l.prog w) callerA (.call (.ref fa) ⟨[.ref a], []⟩) (fun r s' => r = .ok (.ret (.bool true)) /\ OldK s₁.heap s'.heap /\ s'.os = s₁.os /\ AllBare s'.gens) s₁) :
  WalkO q loose XP YP l.row.toRowW d [] (fun f vs => PySem.call f vs) := by
 intro w s₀ s₁ mg mb G Y fa o pm cd doc dV kV ho hd hcd hD hmg hg args vals as hpre hlay hrd hwl hlo
 obtain rfl : dV = .none := Dflts.none hD hdf
 obtain rfl : kV = .none := Dflts.noKw hD
 obtain ⟨a, vs, ns, rfl, rfl, hobj, hints, hlen⟩ := script_of hn hpre hwl
 refine enter_call (codeAny_mono (call w s₀ s₁ mg mb fa o pm cd doc a vs ns G Y ho (fd_plain hd) hcd hmg hobj hints hlen hg) fun r s' hq => ?_)
 obtain ⟨rfl, h2, h3, h4⟩ := hq
 exact ⟨.inl ⟨.bool true, .bool true, [], rfl, fun _ => rfl, .bool true, post_true l _, fun _ => ⟨List.Pairwise.nil, fun _ hm => (nomatch hm)⟩⟩, h2, h3, h4⟩
end Att
namespace L2
open PySem PySem.Spec PyProof.Rows
theorem vals_ints : ∀ {vs : List Value} {ns : List Int}, IntsAre vs ns -> Vals (ns.map V.int) vs
 | _, _, .nil => .nil
 | _, _, .cons n t h => .cons ⟨t, rfl⟩ (vals_ints h)
end L2
namespace L2
open PySem PySem.Spec PyProof.Rows
def inClass (s : Stmt) (j : Nat) : Stmt := match s with
 | .ClassDef _ _ _ body _ _ _ _ _ _ _ => body.getD j (.Pass ⟨0, 0, 0, 0⟩)
 | _ => .Pass ⟨0, 0, 0, 0⟩
def defArgs (s : Stmt) : Arguments := match s with
 | .FunctionDef _ a _ _ _ _ _ _ _ _ => a
 | _ => { posonlyargs := [], args := [], vararg := none, kwonlyargs := [], kw_defaults := [], kwarg := none, defaults := [] }
def defBody (s : Stmt) : List Stmt := match s with
 | .FunctionDef _ _ b _ _ _ _ _ _ _ => b
 | _ => []
def defScope (s : Stmt) : Scope := match s with
 | .FunctionDef _ _ _ _ _ _ sc _ _ _ => sc
 | _ => { kind := .function, names := [], isGenerator := false, isCoroutine := false }
abbrev CX0 : CXT := fun _ _ _ _ _ _ => False
abbrev E0 : XK := fun _ _ _ => False
theorem pass0 {X : Cx} : Passes CX0 X E0 := fun _ _ _ _ _ _ _ h => h.elim
structure Fun (K : Fg_) (x qual : Str) (st : Stmt) (f : Addr) (fd : FuncData) : Prop where
 ex : ∃ (oc : Value) (od : Option Addr) (kV doc pm : Value) (an : Option Addr) (cdv ct : Value) (osl : Array (Option Value)),
  fd = PySem.W.fnOf x qual (defArgs st) (defBody st) (defScope st) .none kV doc pm an cdv ct /\ K.lookup f = some ⟨oc, od, .func fd, osl⟩ /\ PySem.W.codeIn K cdv qual = true
 kp : PySem.W.keepIn K (.ref f) = true
section
variable {P : Program} {w : World} {K : Fg_} {mg : Str -> Option Value} {base : Heap}
theorem Fun.ok {x qual : Str} {st : Stmt} {f : Addr} {fd : FuncData} {N ps : List Str} {k : Nat} {sp : Sp} (F : Fun K x qual st f fd) (S : FnScope N ps (defScope st)) (len : ∀ vs H Q E, sp vs H Q E -> vs.length = ps.length)
  (hbody : ∀ (cdv : Value) (A : Around) (outer : List Env) (s : Shared) (H : Hp) (vs : List V) (Q : VK) (E : XK), Room k (A.deeper (envOfC qual (defScope st) s.heap.objs.size f cdv)) -> sp vs H Q E ->
   ∃ t, PSs (cxOf CX0 P w K mg base N qual (defScope st) f cdv A outer s H E).nox (defBody st) t /\ t { nx := fun _ H' => Q .non H', rt := Q } (start N vs) H) : FnOk P w K mg base CX0 (k + 1) f fd ps sp := by
 obtain ⟨oc, od, kV, doc, pm, an, cdv, ct, osl, rfl, lk, hcd⟩ := F.ex
 refine fn_of lk hcd S len fun A outer s H vs Q E hr hsp => ?_
 obtain ⟨t, h, q⟩ := hbody cdv A outer s H vs Q E hr hsp
 exact ⟨t, h.nox, q⟩
theorem Fun.binds {x qual : Str} {st : Stmt} {f : Addr} {fd : FuncData} {ps : List Str} (F : Fun K x qual st f fd)
  (h : ∀ (kV doc pm : Value) (an : Option Addr) (cdv ct : Value) (us : List Value), us.length = ps.length -> bindArgs (PySem.W.fnOf x qual (defArgs st) (defBody st) (defScope st) .none kV doc pm an cdv ct) ⟨us, []⟩ = pure (ps.zip us)) : Binds K fd ps [] := by
 obtain ⟨oc, od, kV, doc, pm, an, cdv, ct, osl, rfl, lk, hcd⟩ := F.ex
 exact .all (h kV doc pm an cdv ct)
theorem fun_mk {x qual : Str} {st : Stmt} {f : Addr} {oc : Value} {od an : Option Addr} {osl : Array (Option Value)} {kV doc pm cdv ct : Value} (l : K.lookup f = some ⟨oc, od, .func (PySem.W.fnOf x qual (defArgs st) (defBody st) (defScope st) .none kV doc pm an cdv ct), osl⟩)
  (c : PySem.W.codeIn K cdv qual = true) (k : PySem.W.keepIn K (.ref f) = true) : Fun K x qual st f (PySem.W.fnOf x qual (defArgs st) (defBody st) (defScope st) .none kV doc pm an cdv ct) := ⟨⟨oc, od, kV, doc, pm, an, cdv, ct, osl, rfl, l, c⟩, k⟩
end
theorem hu_of {A : Around} {k : Nat} (hr : Room k A) : A.units + 1 < cLine := Nat.lt_of_le_of_lt (Nat.add_le_add_left (by decide : 1 <= 64) _) hr.units
theorem small1000 {n : Nat} (h : n <= 1000) : n < sizeLine := Nat.lt_of_le_of_lt h (by decide)
section
variable {X : Cx}
theorem pv (i : Nat) {x : Str} {pos : Pos} (hN : X.N[i]? = some x := by rfl) (hv : Vis X.env.scope x := by first | exact Or.inl rfl | exact Or.inr (Or.inl rfl) | exact Or.inr (Or.inr rfl)) (hd : (x == ("__debug__" : Str)) = false := by decide)
  (hcd : (x == ("__classdict__" : Str)) = false := by decide) : PE X (.Name x pos) (tVar i) := pe_var hN hv hd hcd
end
def Same (H H' : Hp) : Prop := ∀ b o, H b = some o -> H' b = some o
theorem Same.refl (H : Hp) : Same H H := fun _ _ h => h
theorem Same.trans {H H1 H2 : Hp} (a : Same H H1) (b : Same H1 H2) : Same H H2 := fun c o h => b c o (a c o h)
theorem Same.free {H H' : Hp} (e : Same H H') {l : Addr} (h : H' l = Option.none) : H l = Option.none := by
 cases q : H l with
 | none => rfl
 | some o =>
  rw [e l o q] at h
  cases h
theorem Same.seq {K : Fg_} {H H' : Hp} {a : Addr} {xs : List V} (e : Same H H') (h : SqL K H a xs) : SqL K H' a xs := by
 rcases h with (h | ⟨o, h⟩) | h
 ·exact .inl (.inl (e _ _ h))
 ·exact .inl (.inr ⟨o, e _ _ h⟩)
 ·exact .inr h
end L2
namespace L2
open PySem PySem.Spec PyProof.Rows
def AllIn : List (Str × Addr) -> List (Str × Addr) -> Prop
 | [], _ => True
 | (x, c) :: r, cells => cells.lookup x = some c /\ AllIn r cells
theorem AllIn.look {cells : List (Str × Addr)} : ∀ {cl : List (Str × Addr)}, AllIn cl cells -> ∀ {x : Str} {c : Addr}, cl.lookup x = some c -> cells.lookup x = some c
 | [], _, x, c, e => by simp at e
 | (y, d) :: r, h, x, c, e => by
  rw [List.lookup_cons] at e
  cases q : x == y with
  | true =>
   rw [q] at e
   have z : d = c := Option.some.inj e
   have z2 : x = y := beq_iff_eq.mp q
   subst z z2
   exact h.1
  | false =>
   rw [q] at e
   exact AllIn.look h.2 e
def closFrom (cells : List (Str × Addr)) : List (Str × NameKind) -> List (Str × Addr) -> List (Str × Addr)
 | [], cs => cs
 | (n, k) :: r, cs => closFrom cells r (match k with
  | .free => match cells.lookup n with
   | some c => (n, c) :: cs
   | Option.none => cs
  | _ => cs)
abbrev closOf (scope : Scope) (env : Env) : List (Str × Addr) := closFrom env.cells scope.names []
theorem closFrom_in (cells : List (Str × Addr)) : ∀ (names : List (Str × NameKind)) (cs : List (Str × Addr)), AllIn cs cells -> AllIn (closFrom cells names cs) cells
 | [], _, h => h
 | (n, k) :: r, cs, h => by
  unfold closFrom
  refine closFrom_in cells r _ ?_
  cases k with
  | free =>
   cases q : cells.lookup n with
   | none => exact h
   | some c => exact ⟨q, h⟩
  | _ => exact h
theorem closOf_in (scope : Scope) (env : Env) : AllIn (closOf scope env) env.cells := closFrom_in _ _ _ trivial
def CapOk (X : Cx) (sc : Scope) (cl : List (Str × Addr)) : List Str -> List (Option Nat) -> Prop
 | [], [] => True
 | _ :: N, Option.none :: r => CapOk X sc cl N r
 | x :: N, some j :: r => X.N[j]? = some x /\ (X.env.kindOf x = some .cell \/ X.env.kindOf x = some .free) /\ (sc.names.lookup x = some .cell \/ sc.names.lookup x = some .free) /\ (∃ c, cl.lookup x = some c) /\ CapOk X sc cl N r
 | _, _ => False
def capSt (σ : St) (cap : List (Option Nat)) : St := cap.map fun o => match o with
 | Option.none => Option.none
 | some j => match σ[j]? with
  | some v => v
  | Option.none => Option.none
theorem CapOk.nil {X : Cx} {sc : Scope} {cl : List (Str × Addr)} : CapOk X sc cl [] [] := trivial
theorem CapOk.own {X : Cx} {sc : Scope} {cl : List (Str × Addr)} {x : Str} {N : List Str} {r : List (Option Nat)} (h : CapOk X sc cl N r) : CapOk X sc cl (x :: N) (Option.none :: r) := h
theorem CapOk.take {X : Cx} {sc : Scope} {cl : List (Str × Addr)} {x : Str} {N : List Str} {j : Nat} {r : List (Option Nat)} (h1 : X.N[j]? = some x) (h2 : X.env.kindOf x = some .cell \/ X.env.kindOf x = some .free)
  (h3 : sc.names.lookup x = some .cell \/ sc.names.lookup x = some .free) (h4 : (cl.lookup x).isSome = true) (h : CapOk X sc cl N r) : CapOk X sc cl (x :: N) (some j :: r) := ⟨h1, h2, h3, Option.isSome_iff_exists.mp h4, h⟩
theorem CapOk.len {X : Cx} {sc : Scope} {cl : List (Str × Addr)} : ∀ {N : List Str} {cap : List (Option Nat)}, CapOk X sc cl N cap -> cap.length = N.length
 | [], [], _ => rfl
 | _ :: N, Option.none :: r, h => congrArg (· + 1) (CapOk.len (N := N) (cap := r) h)
 | _ :: N, some _ :: r, h => congrArg (· + 1) (CapOk.len (N := N) (cap := r) h.2.2.2.2)
 | [], _ :: _, h => h.elim
 | _ :: _, [], h => h.elim
theorem CapOk.get {X : Cx} {sc : Scope} {cl : List (Str × Addr)} {σ : St} : ∀ {N : List Str} {cap : List (Option Nat)} {i : Nat} {x : Str} {v : V}, CapOk X sc cl N cap -> N[i]? = some x -> (capSt σ cap)[i]? = some (some v) ->
  ∃ j : Nat, X.N[j]? = some x /\ σ[j]? = some (some v) /\ (X.env.kindOf x = some .cell \/ X.env.kindOf x = some .free) /\ (sc.names.lookup x = some .cell \/ sc.names.lookup x = some .free) /\ ∃ c, cl.lookup x = some c
 | [], [], i, x, v, _, e, _ => by simp at e
 | y :: N, Option.none :: r, 0, x, v, h, e1, e2 => by
  have z : (some (Option.none : Option V)) = some (some v) := e2
  cases z
 | y :: N, Option.none :: r, i + 1, x, v, h, e1, e2 => CapOk.get (N := N) (cap := r) (i := i) h (by simpa using e1) (by simpa [capSt] using e2)
 | y :: N, some j :: r, 0, x, v, h, e1, e2 => by
  have z : y = x := by simpa using e1
  subst z
  obtain ⟨h1, h2, h3, h4, _⟩ := h
  refine ⟨j, h1, ?_, h2, h3, h4⟩
  have z2 : some (match σ[j]? with | some v => v | Option.none => Option.none) = some (some v) := e2
  cases q : σ[j]? with
  | none => rw [q] at z2; cases z2
  | some o => rw [q] at z2; exact z2
 | y :: N, some j :: r, i + 1, x, v, h, e1, e2 => CapOk.get (N := N) (cap := r) (i := i) h.2.2.2.2 (by simpa using e1) (by simpa [capSt] using e2)
 | [], _ :: _, _, _, _, h, _, _ => h.elim
 | _ :: _, [], _, _, _, h, _, _ => h.elim
def cxC (X : Cx) (N' : List Str) (scope : Scope) (s : Shared) (H : Hp) (fp : List Addr) (xe : Value -> Shared -> Prop) : Cx :=
 { X with N := N', s₀ := s, H₀ := H, env := compEnvC scope (closOf scope X.env) s.heap.objs.size X.env, outer := X.stack, ex := fp, fn := fun _ => false, pn := [], xe := xe }
def PTs (X : Cx) (ifs : List Expr) (t : TT) : Prop :=
 ∀ (pins : List (Addr × Obj)) (s : Shared) (σ : St) (H : Hp) (Q : Bool -> Hp -> Prop), Inv X pins σ H s -> t σ H Q ->
  wpAny (model X.prog X.w) X.A (forIn ifs true fun c r => if r = true then do let ok <- isTrue c X.env (eval c X.env); pure (ForInStep.yield ok) else pure (ForInStep.yield r)) (TP X pins σ Q) X.xe s
def tNoIf : TT := fun _ H Q => Q true H
theorem pts_nil {X : Cx} : PTs X [] tNoIf := fun _ _ _ H _ I h => wpAny_tests_nil ⟨H, I, h⟩
theorem pts_one {X : Cx} {c : Expr} {t : TT} (h : PT X c t) : PTs X [c] t := fun pins s σ H Q I hw => wpAny_tests_one (h pins s σ H Q I hw)
def tComp (cap : List (Option Nat)) (wi : TI) (g : TG) (tt : TT) (te : TE) : TE := fun σ H Q => wi σ H fun J H1 => ∀ D, H1 D = Option.none ->
 ∃ W : Nat -> Nat -> List V -> St -> Hp -> Prop, (∃ m, W 0 m [] (capSt σ cap) (upd H1 D (.lst []))) /\ ∀ i m acc σ1 H2, W i m acc σ1 H2 -> H2 D = some (.lst acc) ->
  (J.stop i H2 /\ Q (.ref D) H2) \/ (J.go i H2 /\ ∀ x H3, J.yld i H2 x H3 -> g x σ1 H3 fun σ4 H4 => tt σ4 H4 fun b H5 =>
   if b = true then te σ4 H5 fun v H6 => ∃ acc', H6 D = some (.lst acc') /\ acc'.length < sizeLine /\ ∃ m', m' < m /\ W (i + 1) m' (acc' ++ [v]) σ4 (upd H6 D (.lst (acc' ++ [v])))
   else ∃ m', m' < m /\ ∃ acc', H5 D = some (.lst acc') /\ W (i + 1) m' acc' σ4 H5)
section
variable {X : Cx} {elt tg iter : Expr} {ifs : List Expr} {scope : Scope} {pos : Pos} {cap : List (Option Nat)} {N' : List Str} {wi : TI} {g : TG} {tt : TT} {te : TE}
structure CompOk (X : Cx) (iter : Expr) (scope : Scope) (N' : List Str) (cap : List (Option Nat)) : Prop where
 clos : closureFor scope X.env = pure (closOf scope X.env)
 cap : CapOk X (relabel scope X.env) (closOf scope X.env) N' cap
 kind : scope.kind = .function
 nocell : ∀ y ∈ scope.names, y.2 ≠ .cell
 names : ∀ y ∈ scope.names, y.2 = .local -> scope.names.lookup y.1 = some .local
 has : (scope.names.all fun y => y.2 != .free || ((closOf scope X.env).lookup y.1).isSome) = true
 fold : ∀ x, foldedSetIterable iter X.env x = pure x
theorem has_map {f : Str × NameKind -> Str × NameKind} (h1 : ∀ y, (f y).1 = y.1) (h2 : ∀ y, y.2 ≠ NameKind.cell -> ((f y).2 = NameKind.cell \/ (f y).2 = NameKind.free) -> y.2 = NameKind.free) {cl : List (Str × Addr)} :
  ∀ {names : List (Str × NameKind)} {x : Str}, (∀ y ∈ names, y.2 ≠ NameKind.cell) -> (names.all fun y => y.2 != NameKind.free || (cl.lookup y.1).isSome) = true -> ((names.map f).lookup x = some NameKind.cell \/ (names.map f).lookup x = some NameKind.free) -> ∃ c, cl.lookup x = some c
 | [], x, _, _, h => by rcases h with h | h <;> simp at h
 | y :: r, x, hc, ha, h => by
  rw [List.all_cons, Bool.and_eq_true] at ha
  rw [List.map_cons] at h
  have e0 : f y = (y.1, (f y).2) := by rw [<- h1 y]
  rw [e0, List.lookup_cons] at h
  cases q : x == y.1 with
  | true =>
   rw [q] at h
   have e : x = y.1 := beq_iff_eq.mp q
   have hf : y.2 = NameKind.free := h2 y (hc y List.mem_cons_self) (by
    rcases h with h | h
    ·exact .inl (Option.some.inj h)
    ·exact .inr (Option.some.inj h))
   have h3 : (cl.lookup y.1).isSome = true := by
    have := ha.1
    rw [hf] at this
    simpa using this
   rw [e]
   exact Option.isSome_iff_exists.mp h3
  | false =>
   rw [q] at h
   exact has_map h1 h2 (fun z hz => hc z (List.mem_cons_of_mem _ hz)) ha.2 h
theorem has_of {env : Env} {scope : Scope} {cl : List (Str × Addr)} {x : Str} (hc : ∀ y ∈ scope.names, y.2 ≠ NameKind.cell) (ha : (scope.names.all fun y => y.2 != NameKind.free || (cl.lookup y.1).isSome) = true)
  (h : (relabel scope env).names.lookup x = some NameKind.cell \/ (relabel scope env).names.lookup x = some NameKind.free) : ∃ c, cl.lookup x = some c := by
 refine has_map (f := fun (n, k) => if (k == NameKind.free && env.scope.kind == .function && env.kindOf n == some .cell) then (n, NameKind.cell) else (n, k)) (fun y => ?_) (fun y hy hk => ?_) hc ha h
 ·obtain ⟨n, k⟩ := y
  dsimp only
  split <;> rfl
 ·obtain ⟨n, k⟩ := y
  dsimp only at hk ⊢ hy
  by_cases hb : (k == NameKind.free && env.scope.kind == .function && env.kindOf n == some .cell) = true
  ·simp only [Bool.and_eq_true] at hb
   exact beq_iff_eq.mp hb.1.1
  ·rw [if_neg hb] at hk
   rcases hk with hk | hk
   ·exact absurd hk hy
   ·exact hk
theorem compLoop_any {P : Program} {w : World} {A : Around} {R : Result -> Shared -> Prop} {s : Shared} {it acc : Value} {env : Env} (I : Nat -> Shared -> Prop)
  (turn : ∀ n s, I n s -> wpAny (model P w) A (pyNext it) (fun r s₁ => match r with
   | none => R (.ok .next) s₁
   | some v => wpAny (model P w) A (letOwnedTupleGo tg it v) (fun _ s₁' => wpAny (model P w) A (assign tg env v) (fun _ s₂ =>
     wpAny (model P w) A (forIn ifs true fun c r => if r = true then do let ok <- isTrue c env (eval c env); pure (ForInStep.yield ok) else pure (ForInStep.yield r)) (fun ok s₃ =>
      if ok = true then wpAny (model P w) A (eval elt env) (fun x s₄ =>
       wpAny (model P w) A (call (.builtin "list.append") [acc, x]) (fun _ s₅ => ∃ m, m < n /\ I m s₅) (notedBy (model P w) A env fun e s' => R (.error e) s') s₄) (notedBy (model P w) A env fun e s' => R (.error e) s') s₃
      else ∃ m, m < n /\ I m s₃) (notedBy (model P w) A env fun e s' => R (.error e) s') s₂) (notedBy (model P w) A env fun e s' => R (.error e) s') s₁') (notedBy (model P w) A env fun e s' => R (.error e) s') s₁)
    (notedBy (model P w) A env fun e s' => R (.error e) s') s)
  (n : Nat) (h : I n s) :
  codeAny (model P w) A (.compLoop (.ListComp elt [⟨tg, iter, ifs, 0⟩] scope pos) 0 it acc env) R s := by
 refine codeAny_loop rfl I (fun n s hI => ?_) n h
 show wpAny _ A ((compTurn (.ListComp elt [⟨tg, iter, ifs, 0⟩] scope pos) 0 it acc env).onRaise (fun x => do noteFrame x env; theTreesLotGoes x)) _ _ s
 refine wpAny_noted ?_
 rw [compTurn_list]
 refine wpAny_bind (wpAny_standAt (wpAny_bind (wpAny_mono (turn n s hI) (fun r s₁ h₁ => ?_) fun _ _ h' => h')))
 cases r with
 | none => exact wpAny_pure h₁
 | some v =>
  refine wpAny_bind (wpAny_mono h₁ (fun _ s₁' h₁ => ?_) fun _ _ h' => h')
  refine wpAny_bind (wpAny_mono h₁ (fun _ s₂ h₂ => wpAny_bind (wpAny_mono h₂ (fun ok s₃ h₃ => ?_) fun _ _ h' => h')) fun _ _ h' => h')
  cases ok with
  | false => exact wpAny_pure ⟨rfl, h₃⟩
  | true =>
   exact wpAny_bind (wpAny_bind (wpAny_mono h₃ (fun x s₄ h₄ => wpAny_bind (wpAny_mono h₄ (fun _ s₅ h₅ => wpAny_pure (wpAny_pure ⟨rfl, h₅⟩)) fun _ _ h' => h')) fun _ _ h' => h'))
theorem comp_core {pins : List (Addr × Obj)} {σ : St} {H2 : Hp} {s2 : Shared} {Q : VK} {it : Addr} {fp : List Addr} {tn : Nat -> Heap -> Prop} {J : It} {R : Value -> Addr -> Result -> Shared -> Prop} {E : Value -> Shared -> Prop}
  (hc : X.calm = true) (C : CompOk X iter scope N' cap)
  (hg : ∀ s H fp xe, PG (cxC X N' scope s H fp xe) tg g) (ht : ∀ s H fp xe, PTs (cxC X N' scope s H fp xe) ifs tt) (he : ∀ s H fp xe, PE (cxC X N' scope s H fp xe) elt te)
  (I2 : Inv X pins σ H2 s2) (T : Turn X.prog X.w X.K tg J fp it tn) (st2 : tn 0 s2.heap) (f2 : ∀ b ∈ fp, FpOk X pins H2 b)
  (hR : ∀ D Cl H' s', Inv X pins σ H' s' -> (∃ m, s'.heap.Ns Cl m) -> H' Cl = Option.none -> Cl ≠ X.env.locals -> X.s₀.heap.objs.size <= Cl -> (∀ x c, X.env.cells.lookup x = some c -> c ≠ Cl) -> (∀ p ∈ X.pn ++ pins, p.1 ≠ Cl) -> Q (.ref D) H' -> R (.ref D) Cl (.ok .next) s')
  (hw : ∀ D, H2 D = Option.none -> ∃ W : Nat -> Nat -> List V -> St -> Hp -> Prop, (∃ m, W 0 m [] (capSt σ cap) (upd H2 D (.lst []))) /\ ∀ i m acc σ1 H2, W i m acc σ1 H2 -> H2 D = some (.lst acc) ->
   (J.stop i H2 /\ Q (.ref D) H2) \/ (J.go i H2 /\ ∀ x H3, J.yld i H2 x H3 -> g x σ1 H3 fun σ4 H4 => tt σ4 H4 fun b H5 =>
    if b = true then te σ4 H5 fun v H6 => ∃ acc', H6 D = some (.lst acc') /\ acc'.length < sizeLine /\ ∃ m', m' < m /\ W (i + 1) m' (acc' ++ [v]) σ4 (upd H6 D (.lst (acc' ++ [v])))
    else ∃ m', m' < m /\ ∃ acc', H5 D = some (.lst acc') /\ W (i + 1) m' acc' σ4 H5)) :
  wpAny (model X.prog X.w) X.A (newList []) (fun acc s₃ => wpAny (model X.prog X.w) X.A (newFunctionEnv scope X.env.globals (closOf scope X.env) [] X.env.qual none .none (some X.env)) (fun cenv s₄ =>
   codeAny (model X.prog X.w) X.A (.compStart (.ListComp elt [⟨tg, iter, ifs, 0⟩] scope pos) 0 (.ref it) acc { cenv with scope := relabel scope X.env }) (R acc cenv.locals) s₄) E s₃) E s2 := by
 refine wpAny_newObj_type (wpAny_newFunctionEnv C.nocell (by intro y hy; simp at hy) (fun h₁ hns₁ hsb₁ => ?_) C.kind)
 obtain ⟨W, ⟨m0, w0⟩, turn⟩ := hw s2.heap.objs.size I2.fresh
 have I3 : Inv X pins σ (upd H2 s2.heap.objs.size (.lst [])) { s2 with heap := s2.heap.push { cls := .type "list", data := .seq ([] : List Value).toArray } } := I2.lnew (t' := s2.toks) .nil (Nat.zero_le _)
 generalize hs3 : ({ s2 with heap := s2.heap.push { cls := .type "list", data := .seq ([] : List Value).toArray } } : Shared) = s3 at I3 hns₁ hsb₁ ⊢
 generalize hD : s2.heap.objs.size = D at I3 w0 turn ⊢
 have hn0 : H2 D = Option.none := by rw [<- hD]; exact I2.fresh
 have hs32 : s3.os = s2.os := by rw [<- hs3]
 have un32 : Un (frs X.stack) fp H2 (upd H2 D (.lst [])) s2.heap s3.heap := by
  rw [<- hs3, <- hD]
  exact Un.laid (fun b u q => Heap.get?_push_of_some _ q) (Nat.le_refl _) I2.fresh
 have keep4 : ∀ b o, s3.heap.get? b = some o -> h₁.get? b = some o := fun b o e => (hsb₁.2 b (Nat.ne_of_lt (Heap.lt_size e))).trans (Heap.get?_push_of_some _ e)
 have keep2 : ∀ b o, s2.heap.get? b = some o -> s3.heap.get? b = some o := fun b o e => by rw [<- hs3]; exact Heap.get?_push_of_some _ e
 have hR' : ∀ (r : Result) (s' : Shared), R (.ref D) s3.heap.objs.size r s' -> R (.ref D) s3.heap.objs.size r s' := fun _ _ h => h
 have f3 : ∀ b ∈ fp, FpOk X pins (upd H2 D (.lst [])) b := fun b hb => by
  obtain ⟨q0, q1⟩ := f2 b hb
  refine ⟨?_, q1⟩
  obtain ⟨o, e, _⟩ := T.obj _ _ st2 b hb
  rw [upd_ne (by rw [<- hD]; exact Nat.ne_of_lt (Heap.lt_size e))]
  exact q0
 let XC : Cx := cxC X N' scope s3 (upd H2 D (.lst [])) fp (notedBy (model X.prog X.w) X.A (compEnvC scope (closOf scope X.env) s3.heap.objs.size X.env) fun e s' => R (.ref D) s3.heap.objs.size (.error e) s')
 have ok : XC.Ok := by
  refine ⟨I3.ok.mod, C.kind, I3.ok.glob, I3.ok.blt, Nat.le_refl _, fun x y c e1 e2 => I3.ok.inj x y c ((closOf_in scope X.env).look e1) ((closOf_in scope X.env).look e2), fun x hx => has_of C.nocell C.has hx, fun x c hf => (nomatch hf), fun _ => I3.ok.hd hc, I3.ok.frames, .inl rfl, fun b hb => ?_, I3.bs, Nat.le_trans I3.ok.bsz I3.sz, fun b o e hb => ?_, fun b hb hf => ?_, I3.stack, I3.stkFree⟩
  ·obtain ⟨q0, q1, q2, q3, q4, q5⟩ := f3 b hb
   refine ⟨?_, fun x c e => q4 x c ((closOf_in scope X.env).look e)⟩
   obtain ⟨o, e, _⟩ := T.obj _ _ st2 b hb
   exact Nat.ne_of_lt (Heap.lt_size (keep2 _ _ e))
  ·obtain ⟨q0, q1, q2, q3, q4, q5⟩ := f3 b hb
   rcases q3 with q3 | q3
   ·exact I3.ok.noex b o e q3
   ·exact absurd (Nat.lt_of_lt_of_le (Heap.lt_size e) (Nat.le_trans I3.ok.bsz q3)) (Nat.lt_irrefl _)
  ·obtain ⟨q0, q1, q2, q3, q4, q5⟩ := f3 b hb
   rcases List.mem_cons.mp (I3.stkSub b hf) with z | z
   ·exact q1 z
   ·exact q2 z
 have I4 : Inv XC [] (capSt σ cap) (upd H2 D (.lst [])) { s3 with heap := h₁, toks := s3.toks + ([] : List (Str × Value)).length } := by
  refine ⟨ok, rfl, I3.bare, Un.kept keep4, ⟨_, hns₁, fun i x v e1 e2 e3 => ?_⟩, fun x c e => ?_, I3.hok.fresh (Nat.le_refl _), fun x c e => I3.freeC x c ((closOf_in scope X.env).look e), fun p hp => absurd (show p ∈ ([] : List (Addr × Obj)) from hp) (by simp), I3.hok.kept keep4, by rw [show (capSt σ cap).length = cap.length from by simp [capSt]]; exact C.cap.len⟩
  ·obtain ⟨j, g1, g2, g3, g4, c, g5⟩ := C.cap.get e1 e2
   obtain ⟨m, _, hl⟩ := I3.loc
   obtain ⟨u, r, l⟩ := hl j x v g1 g2 (by
    rcases g3 with z | z
    ·exact .inr (.inl z)
    ·exact .inr (.inr z))
   refine ⟨u, r, .inr ⟨g4, c, g5, ?_⟩⟩
   rcases l with ⟨k, _⟩ | ⟨_, c', e, z⟩
   ·rcases g3 with q | q
    ·rw [k] at q; cases q
    ·rw [k] at q; cases q
   ·have e' := (closOf_in scope X.env).look g5
    rw [e] at e'; cases e'
    obtain ⟨o, ho, hd⟩ := z
    exact ⟨o, keep4 _ _ ho, hd⟩
  ·obtain ⟨v, o, ho, hd⟩ := I3.cell x c ((closOf_in scope X.env).look e)
   exact ⟨v, o, keep4 _ _ ho, hd⟩
 have st4 : tn 0 h₁ := T.keep _ _ _ st2 fun b _ o e => keep4 b o (keep2 b o e)
 have fpc : ∀ {pins' : List (Addr × Obj)} {H' : Hp}, (∀ b ∈ fp, H' b = Option.none) -> (∀ p ∈ pins', p.1 ∉ fp) -> ∀ b ∈ fp, FpOk XC pins' H' b := fun {pins' H'} hn hp b hb => by
  obtain ⟨q1, q2⟩ := ok.exf b hb
  exact ⟨hn b hb, q1, ok.exfs b hb, .inl hb, q2, fun p hp' z => hp p (by simpa [XC, cxC] using hp') (by rw [z]; exact hb)⟩
 have hDf : D ∉ fp := fun hb => by
  obtain ⟨o, e, _⟩ := T.obj _ _ st2 D hb
  rw [<- hD] at e
  exact absurd (Heap.lt_size e) (Nat.lt_irrefl _)
 have out : ∀ {σ' : St} {H' : Hp} {s' : Shared}, Inv XC [] σ' H' s' -> Inv X pins σ H' s' := fun {σ' H' s'} J' =>
  I2.call' (ch := fp) (J'.os.trans hs32) (un32.trans J'.base) J'.hok J'.bare fun b hb => by
   obtain ⟨q0, q1, q2, q3, q4, q5⟩ := f2 b hb
   exact ⟨q3, q1, q4, q5⟩
 have loop : ∀ s₄ : Shared, s₄ = { s3 with heap := h₁, toks := s3.toks + ([] : List (Str × Value)).length } ->
   codeAny (model X.prog X.w) X.A (.compLoop (.ListComp elt [⟨tg, iter, ifs, 0⟩] scope pos) 0 (.ref it) (.ref D) (compEnvC scope (closOf scope X.env) s3.heap.objs.size X.env)) (R (.ref D) s3.heap.objs.size) s₄ := by
  rintro s₄ rfl
  refine compLoop_any (fun n s' => ∃ i acc σ' H', Inv XC [] σ' H' s' /\ tn i s'.heap /\ (∀ b ∈ fp, H' b = Option.none) /\ H' D = some (.lst acc) /\ W i n acc σ' H') ?_ m0
   ⟨0, [], capSt σ cap, upd H2 D (.lst []), I4, st4, fun b hb => (f3 b hb).1, upd_same, w0⟩
  rintro n s5 ⟨i, acc, σ5, H5, I5, st5, fr5, hA, w5⟩
  rcases turn i n acc σ5 H5 w5 hA with ⟨stop, q⟩ | ⟨go, step⟩
  ·refine thn (T.done XC rfl rfl rfl hc i [] s5 σ5 H5 _ I5 (fpc fr5 (by simp)) st5 stop) fun r s6 ⟨hr, I6⟩ => ?_
   subst hr
   obtain ⟨m, hn, _⟩ := I6.loc
   exact hR D s3.heap.objs.size H5 s6 (out I6) ⟨m, hn⟩ I6.free (Nat.ne_of_gt I3.lt) I3.sz (fun x c e z => by
    obtain ⟨v, o, ho, _⟩ := I3.cell x c e
    rw [z] at ho
    exact absurd (Heap.lt_size ho) (Nat.lt_irrefl _)) (fun p hp z => by
    have e := (I3.pin p hp).1
    rw [z] at e
    exact absurd (Heap.lt_size e) (Nat.lt_irrefl _)) q
  ·refine thn (T.item XC rfl rfl rfl hc i [] s5 σ5 H5 _ I5 (fpc fr5 (by simp)) st5 go) fun r s6 ⟨u, hr, h6⟩ => ?_
   subst hr
   refine thn h6 fun _ s7 ⟨x, H7, I7, r7, y7, st7, fr7⟩ => ?_
   have I7' := I7.pinned (fpc fr7 (by simp)) (T.obj _ _ st7)
   have again : ∀ {σ8 : St} {H8 : Hp} {s8 : Shared}, Inv XC ([] ++ pinsAt fp s7.heap) σ8 H8 s8 -> (∃ acc', H8 D = some (.lst acc') /\ ∃ m', m' < n /\ W (i + 1) m' acc' σ8 H8) ->
     ∃ m, m < n /\ ∃ i acc σ' H', Inv XC [] σ' H' s8 /\ tn i s8.heap /\ (∀ b ∈ fp, H' b = Option.none) /\ H' D = some (.lst acc) /\ W i m acc σ' H' := fun {σ8 H8 s8} I8 ⟨acc', hA', m', hm, w8⟩ => by
    refine ⟨m', hm, i + 1, acc', σ8, H8, I8.unpinned, T.keep _ _ _ st7 fun b hb o e => (I8.pin (b, o) (List.mem_append_right _ (List.mem_append_right _ (mem_pinsAt hb e)))).1, fun b hb => ?_, hA', w8⟩
    obtain ⟨o, e, d⟩ := T.obj _ _ st7 b hb
    exact (I8.pin (b, o) (List.mem_append_right _ (List.mem_append_right _ (mem_pinsAt hb e)))).2.1
   refine thn (hg s3 _ fp _ _ s7 σ5 H7 x u _ I7' r7 (step x H7 y7)) fun _ s8 ⟨σ8, H8, I8, q8⟩ => ?_
   refine thn (ht s3 _ fp _ _ s8 σ8 H8 _ I8 q8) fun b s9 ⟨H9, I9, q9⟩ => ?_
   cases b with
   | false =>
    rw [if_neg Bool.false_ne_true] at q9 ⊢
    obtain ⟨m', hm, acc', hA', w9⟩ := q9
    exact again I9 ⟨acc', hA', m', hm, w9⟩
   | true =>
    rw [if_pos rfl] at q9 ⊢
    refine thn (he s3 _ fp _ _ s9 σ8 H9 _ I9 q9) fun v s10 ⟨y, H10, I10, r10, acc', hA', hz, m', hm, w10⟩ => ?_
    refine thn (mt_append (X := XC) _ s10 σ8 H10 (.ref D) [y] (.ref D) [v] (fun _ Hz => Hz = upd H10 D (.lst (acc' ++ [y]))) I10 rfl (.cons r10 .nil) ⟨D, acc', y, rfl, rfl, hA', hz, rfl⟩) fun _ s11 ⟨_, H11, I11, _, e11⟩ => ?_
    subst e11
    exact again I11 ⟨acc' ++ [y], upd_same, m', hm, w10⟩
 exact codeAny_compStart_list (loop _ rfl) (T.self _ 0 _ _ _ st4 (loop _ rfl))
theorem pe_comp (hc : X.calm = true) (C : CompOk X iter scope N' cap) (hi : PI X tg iter wi)
  (hg : ∀ s H fp xe, PG (cxC X N' scope s H fp xe) tg g) (ht : ∀ s H fp xe, PTs (cxC X N' scope s H fp xe) ifs tt) (he : ∀ s H fp xe, PE (cxC X N' scope s H fp xe) elt te) :
  PE X (.ListComp elt [⟨tg, iter, ifs, 0⟩] scope pos) (tComp cap wi g tt te) := by
 intro pins s σ H Q I h
 rw [eval_ListComp]
 refine wpAny_comprehension_free (use := none) rfl C.fold C.clos C.kind C.names (thn (hi pins s σ H _ I h) fun v s1 h1 => thn h1 fun itv s2 h2 => ?_)
 obtain ⟨it, fp, tn, J, H2, e, I2, T, st2, f2, hw⟩ := h2
 subst e
 refine comp_core (R := fun acc Cl => compPost (model X.prog X.w) X.A X.xe none (EP X pins σ Q) acc Cl) hc C hg ht he I2 T st2 f2 ?_ hw
 intro D Cl H' s' I' ⟨m, hn⟩ hf h1 h2 h3 h4 q
 exact ⟨m, hn, fun h' hs' => ⟨.ref D, H', I'.turned (t' := s'.toks) (fun b o hb e => (hs'.2 b hb).trans e) hf h1 (.inr h2) h3 h4, rfl, q⟩⟩
end
end L2
namespace L2
open PySem PySem.Spec PyProof.Rows
section
variable {X : Cx} {a b c : Expr} {ta tb tc : TE} {pos : Pos}
def CMulB (i j : Int) : Prop := i.natAbs < 2 ^ 2000 /\ j.natAbs < 2 ^ 2000
theorem CMulB.ok {i j : Int} (h : CMulB i j) : IntMulOk i j :=
 IntMulOk.of_bits (Nat.le_trans (intBits_le h.1) (by decide)) (Nat.le_trans (intBits_le h.2) (by decide))
def CDivB (_ j : Int) : Prop := 0 < j /\ j.natAbs < 2 ^ 2000
theorem op_fdivB : OpR X (binaryOp .FloorDiv) (rI CDivB fun i j => .int (i / j)) := opI fun i j _ _ _ _ _ hc q => by
 have h1 : (0 : Int) < j := hc.1
 have h0 : j.natAbs ≠ 0 := by omega
 have h2 : j.natAbs.log2 < 2000 := (Nat.log2_lt h0).mpr hc.2
 exact floordiv_int (by omega) (by rw [Int.fdiv_eq_ediv_of_nonneg i (by omega)]; exact q) (.inl (PyProof.noPylong_of_log2 (by omega)))
theorem call_sumI (hc : X.calm = true) : CallR X (.builtin "sum") (fun xs H Q => ∃ (a : Addr) (ns : List Int), xs = [.ref a] /\ SqL X.K H a (ns.map V.int) /\ Q (.int ns.sum) H) := by
 intro pins s σ H xs us Q I r h
 obtain ⟨a, ns, rfl, hq, q⟩ := h
 obtain ⟨u, rfl, r1⟩ := vals1 r
 cases r1
 obtain ⟨its, rv, pl, hz⟩ := I.list hq
 have hi : IntsAre its ns := intsAre_of rv
 obtain ⟨xs, e⟩ := hi.allInts.items
 have hl := pl.isList
 rw [e] at hl
 refine sum_intListG (I.ok.hd hc) hl fun h' tk t' hk => ?_
 have e1 : its = (intItems xs).toList := by rw [<- e]
 have e2 : xs.toList.map (·.1) = ns := by rw [<- nums_intItems, <- e1, hi.numsOf]
 have es : preSum (numAt xs) xs.size = ns.sum := by rw [preSum_eq, List.take_of_length_le (by simp), e2]
 rw [es]
 exact ⟨.int ns.sum, H, I.kept hk, ⟨_, rfl⟩, q⟩
theorem bools_walk {pins : List (Addr × Obj)} {σ : St} {H : Hp} {s : Shared} {l : Addr} {bs : List Bool} (I : Inv X pins σ H s) (hq : SqL X.K H l (bs.map V.bl)) :
  ∃ its : List Value, its.length = bs.length /\ s.heap.IsList l its.toArray /\ l ≠ s.heap.objs.size /\ ∀ (i : Nat) (v : Value), its.toArray[i]? = some v -> v = .bool (bs.getD i false) := by
 obtain ⟨its, rv, pl, hz⟩ := I.list hq
 refine ⟨its, by rw [<- rv.length, List.length_map], pl.isList, ?_, fun i v e => ?_⟩
 ·obtain ⟨o, n, e, _⟩ := pl
  exact Nat.ne_of_lt (Heap.lt_size e)
 ·have e' : its[i]? = some v := by simpa using e
  have hi : i < its.length := (List.getElem?_eq_some_iff.mp e').1
  have hb : i < bs.length := by have := rv.length; rw [List.length_map] at this; omega
  obtain ⟨u, hu, ru⟩ := rv.get (i := i) (x := .bl bs[i]) (by simp [hb])
  rw [e'] at hu
  cases hu
  have : v = Value.bool bs[i] := ru
  rw [this]
  simp [List.getD, hb]
theorem range_all (bs : List Bool) : (List.range bs.length).all (fun i => bs.getD i false) = bs.all id := by
 rw [Bool.eq_iff_iff]
 simp only [List.all_eq_true, List.mem_range, id]
 constructor
 ·intro h x hx
  obtain ⟨i, hi, rfl⟩ := List.mem_iff_getElem.mp hx
  simpa [List.getD, hi] using h i hi
 ·intro h i hi
  have := h bs[i] (List.getElem_mem hi)
  simpa [List.getD, hi] using this
theorem call_allB (hc : X.calm = true) : CallR X (.builtin "all") (fun xs H Q => ∃ (a : Addr) (bs : List Bool), xs = [.ref a] /\ SqL X.K H a (bs.map V.bl) /\ Q (.bl (bs.all id)) H) := by
 intro pins s σ H xs us Q I r h
 obtain ⟨a, bs, rfl, hq, q⟩ := h
 obtain ⟨u, rfl, r1⟩ := vals1 r
 cases r1
 obtain ⟨its, hlen, hl, hne, hit⟩ := bools_walk I hq
 refine call_all_walk (wpAny_pyIter_list hl ?_)
 refine ⟨s.heap.objs.size, _, _, _, _, _, fun i => bs.getD i false, rfl, Walks.list (A := X.A.in1) (I.ok.hd hc) s.heap.objs.size a hne its.toArray, ⟨⟨_, Heap.get?_push_size _ rfl, rfl, rfl⟩, hl.at fun o e => Heap.get?_push_of_some _ e⟩, fun i v s' Q' E' e hQ => ?_, fun h' tk hk => ?_⟩
 ·rw [hit i v e]
  exact wpAny_truthy_bool hQ
 ·have e : (List.range its.toArray.size).all (fun i => bs.getD i false) = bs.all id := by rw [List.size_toArray, hlen]; exact range_all bs
  rw [e]
  refine ⟨.bl (bs.all id), H, I.kept fun b o e => hk b o ?_ (Heap.get?_push_of_some _ e), rfl, q⟩
  intro z
  have z' : b = s.heap.objs.size := by simpa using z
  rw [z'] at e
  exact absurd (Heap.lt_size e) (Nat.lt_irrefl _)
end
section
variable {prog : Program} {w : World} {A : Around} {E : Value -> Shared -> Prop}
theorem draw_list {it t : Addr} {items : Array Value} (hne : t ≠ it) : ∀ (n i : Nat) (s : Shared) (Q : List Value -> Shared -> Prop), s.heap.IsListIter it t i -> s.heap.IsList t items -> i + n <= items.size ->
  (∀ h', h'.IsListIter it t (i + n) -> Heap.SameBut it s.heap h' -> Q ((items.toList.drop i).take n) { s with heap := h' }) -> wpAny (model prog w) A (draw (.ref it) n) Q E s
 | 0, i, s, Q, hit, _, _, hQ => by
  show wpAny _ _ (pure []) Q E s
  exact wpAny_pure (by simpa using hQ s.heap hit (Heap.SameBut.refl ..))
 | n + 1, i, s, Q, hit, ht, hle, hQ => by
  have hlt : i < items.size := by omega
  show wpAny _ _ (pyNext (.ref it) >>= _) Q E s
  refine wpAny_bind (wpAny_pyNext_list_item hit ht (x := items[i]) (by simp [hlt]) fun h₁ hit₁ hs₁ => ?_)
  refine wpAny_bind (wpAny_holding (draw_list hne n (i + 1) _ _ hit₁ (ht.extBut hs₁.extBut hne) (by omega) fun h₂ hit₂ hs₂ => wpAny_pure ?_))
  have hd : items.toList.drop i = items[i] :: items.toList.drop (i + 1) := by simp [List.drop_eq_getElem_cons, hlt]
  have := hQ h₂ (by rw [show i + (n + 1) = i + 1 + n by omega]; exact hit₂) (hs₁.trans hs₂)
  rw [hd, List.take_succ_cons] at this
  exact this
theorem unpackItems_list {s : Shared} {t : Addr} {items : Array Value} {Q : List Value -> Shared -> Prop} (hh : A.handled = none) (ht : s.heap.IsList t items)
  (hQ : ∀ h', Heap.ExtBut s.heap.objs.size s.heap h' -> Q items.toList { s with heap := h' }) : wpAny (model prog w) A (unpackItems (.ref t) items.size none) Q E s := by
 have hlt : t ≠ s.heap.objs.size := by obtain ⟨o, ho, _⟩ := ht; exact Nat.ne_of_lt (Heap.lt_size ho)
 unfold unpackItems
 refine wpAny_bind ?_
 ·unfold notIterableAtAll
  refine wpAny_bind (wpAny_specialOf ht.typeIs slot_list_iter.lookup ?_)
  refine wpAny_pure ?_
  simp only [Bool.false_eq_true, if_false]
  refine wpAny_bind (wpAny_holding (wpAny_pyIter_list ht ?_))
  have ht0 : (s.heap.push { cls := .type "list_iterator", data := .fields #[.ref t, .int 0 0] }).IsList t items := ht.at fun o e => Heap.get?_push_of_some _ e
  refine wpAny_bind (wpAny_holding (draw_list hlt items.size 0 _ _ ⟨_, Heap.get?_push_size _ rfl, rfl, rfl⟩ ht0 (by omega) fun h₁ hit₁ hs₁ => ?_))
  have hall : List.take items.size (List.drop 0 items.toList) = items.toList := by
   rw [List.drop_zero]; exact List.take_of_length_le (by simp)
  rw [hall]
  rw [if_neg (by simp)]
  have ht₁ : h₁.IsList t items := ht0.extBut hs₁.extBut hlt
  refine wpAny_bind (wpAny_holding (wpAny_pyNext_list_end hh hit₁ ht₁ (by simp) fun h₂ he₂ => ?_))
  simp only [Option.isSome_none, Bool.false_eq_true, if_false]
  refine wpAny_pure (hQ h₂ fun b o hb e => he₂ b o hb (hs₁.extBut b o hb (Heap.get?_push_of_some _ e)))
theorem assign_Tuple_list {env : Env} {elts : List Expr} {x1} {pos : Pos} {s : Shared} {t : Addr} {items : Array Value} {Q : Unit -> Shared -> Prop} (hh : A.handled = none) (ht : s.heap.IsList t items)
  (hn : (assignEach elts env).length = items.size) (hstar : (assignEach elts env).findIdx? (·.1) = none)
  (h : ∀ h', Heap.ExtBut s.heap.objs.size s.heap h' -> wpAny (model prog w) A (assignInOrder ((assignEach elts env).map (·.2)) items.toList) Q E { s with heap := h' }) :
  wpAny (model prog w) A (assign (.Tuple elts x1 pos) env (.ref t)) Q E s := by
 rw [assign_Tuple]
 refine wpAny_bind (wpAny_standAt ?_)
 unfold unpack
 rw [hn, hstar]
 exact wpAny_bind (wpAny_holding (unpackItems_list hh ht h))
end
section
variable {X : Cx} {pos : Pos}
def gLst (K : Fg_) (n : Nat) (t : TGs) : TG := fun v σ H Q => ∃ a xs, v = .ref a /\ SqL K H a xs /\ xs.length = n /\ t xs σ H Q
theorem pg_lst {es : List Expr} {k : Nat} {t : TGs} {n : Nat} (hc : X.calm = true) (h : PGs X es t)
  (hn : (assignEach es X.env).length = n := by rfl) (hst : (assignEach es X.env).findIdx? (·.1) = none := by rfl) : PG X (.Tuple es k pos) (gLst X.K n t) := by
 intro pins s σ H v u Q I r hw
 obtain ⟨a, xs, e1, hq, hl, hw⟩ := hw
 subst e1
 cases r
 obtain ⟨its, rv, ht, hz⟩ := I.list hq
 refine assign_Tuple_list (I.ok.hd hc) ht.isList (by simp [hn, <- hl, rv.length]) hst fun h' hx => ?_
 have I1 : Inv X pins σ H { s with heap := h' } := I.kept (t' := s.toks) fun b o e => hx b o (Nat.ne_of_lt (Heap.lt_size e)) e
 exact h pins _ σ H xs _ Q I1 (by simpa using rv) hw
end
end L2
namespace L2
open PySem PySem.Spec PyProof.Rows
section
variable {X : Cx} {a b c : Expr} {ta tb tc : TE} {pos : Pos}
def CMulU (i j : Int) : Prop := CMul i j \/ CMulB i j
theorem op_mulU : OpR X (binaryOp .Mult) (rI CMulU fun i j => .int (i * j)) := opI fun _ _ _ _ _ _ _ hc q => mul_int q (hc.elim (fun h => h.ok) fun h => h.ok)
theorem CMulU.l {i j : Int} (h1 : -(2 ^ 64) < i) (h2 : i < 2 ^ 64) : CMulU i j := .inl (.inl ⟨h1, h2⟩)
theorem CMulU.r {i j : Int} (h1 : -(2 ^ 64) < j) (h2 : j < 2 ^ 64) : CMulU i j := .inl (.inr ⟨h1, h2⟩)
theorem CMulU.big {i j : Int} (h1 : i.natAbs < 2 ^ 2000) (h2 : j.natAbs < 2 ^ 2000) : CMulU i j := .inr ⟨h1, h2⟩
theorem call_isinstT : CallR X (.builtin "isinstance") (fun xs H Q => ∃ x n t k, xs = [x, .ty n] /\ TyOf X.K H x t /\ PySem.W.kitOne X.K t (.type n) = some k /\ Q (.bl k) H) := by
 intro pins s σ H xs us Q I r h
 obtain ⟨x, n, t, k, rfl, ty, e, q⟩ := h
 obtain ⟨u, w', rfl, rx, rc⟩ := vals2 r
 cases rc
 exact isinst_ok I rx ty e fun tk => ⟨.bl k, H, I.tok _, rfl, q⟩
theorem call_isinstC : CallR X (.builtin "isinstance") (fun xs H Q => ∃ x C t k, xs = [x, .ref C] /\ TyOf X.K H x t /\ PySem.W.kitOne X.K t (.ref C) = some k /\ Q (.bl k) H) := by
 intro pins s σ H xs us Q I r h
 obtain ⟨x, C, t, k, rfl, ty, e, q⟩ := h
 obtain ⟨u, w', rfl, rx, rc⟩ := vals2 r
 cases rc
 exact isinst_ok I rx ty e fun tk => ⟨.bl k, H, I.tok _, rfl, q⟩
theorem pe_ty {x : Str} (T : String) (hg : Gl X x) (hm : X.mg x = none) (hv : bootBuiltins x = some (.type T)) (hn : x ≠ "__name__" := by decide) (hd : (x == ("__debug__" : Str)) = false := by decide) : PE X (.Name x pos) (tC (.ty T)) := pe_bltn hg hm hv rfl hn hd
end
section
variable {D : Ends} {σ : St} {H : Hp} {t u : TS} {te ta tb tc : TE} {tt tu : TT} {Q : VK} {QB : Bool -> Hp -> Prop} {QA : List V -> Hp -> Prop} {QG : St -> Hp -> Prop} {v x y : V} {vs : List V} {i j : Nat} {g : TG} {gs : TGs} {A : TA} {K : Fg_}
theorem ap_seq : tSeq t u D σ H = t { D with nx := u D } σ H := rfl
theorem ap_next : tNext D σ H = D.nx σ H := rfl
theorem ap_asg : tAsg te g D σ H = te σ H fun x H1 => g x σ H1 D.nx := rfl
theorem ap_name : gName i v σ H QG = QG (σ.set i (some v)) H := rfl
theorem ap_var : tVar i σ H Q = ∃ v, σ[i]? = some (some v) /\ Q v H := rfl
theorem ap_c : tC v σ H Q = Q v H := rfl
theorem ap_op {r : R2} : tOp r ta tb σ H Q = ta σ H fun x H1 => tb σ H1 fun y H2 => r x y H2 Q := rfl
theorem ap_un {r : V -> Hp -> VK -> Prop} : tUn r ta σ H Q = ta σ H fun x H1 => r x H1 Q := rfl
theorem ap_rI {C : Int -> Int -> Prop} {f : Int -> Int -> V} : rI C f x y H Q = ∃ i j, x = .int i /\ y = .int j /\ C i j /\ Q (f i j) H := rfl
theorem ap_rI0 {f : Int -> Int -> V} : rI0 f x y H Q = ∃ i j, x = .int i /\ y = .int j /\ Q (f i j) H := rfl
theorem ap_rU {f : Int -> V} : rU f x H Q = ∃ i, x = .int i /\ Q (f i) H := rfl
theorem ap_rEq : rEq x y H Q = (scal x y = true /\ Q (.bl (decide (x = y))) H) := rfl
theorem ap_rNe : rNe x y H Q = (scal x y = true /\ Q (.bl (!decide (x = y))) H) := rfl
theorem ap_ret : tRet te D σ H = te σ H D.rt := rfl
theorem ap_retN : tRetN D σ H = D.rt .non H := rfl
theorem ap_drop : tDrop te D σ H = te σ H fun _ H1 => D.nx σ H1 := rfl
theorem ap_if : tIfS tt t u D σ H = tt σ H fun b H1 => if b = true then t D σ H1 else u D σ H1 := rfl
theorem ap_test : tTest te σ H QB = te σ H fun x H' => ∃ k, x = .bl k /\ QB k H' := rfl
theorem ap_tB : tB te σ H QB = te σ H fun x H1 => ∃ c, x = .bl c /\ QB c H1 := rfl
theorem ap_and : tAnd tt tu σ H QB = tt σ H fun c H1 => if c = true then tu σ H1 QB else QB false H1 := rfl
theorem ap_or : tOr tt tu σ H QB = tt σ H fun c H1 => if c = true then QB true H1 else tu σ H1 QB := rfl
theorem ap_not : tNot tt σ H QB = tt σ H fun c H1 => QB (!c) H1 := rfl
theorem ap_andV : tAndV ta tb σ H Q = ta σ H fun x H1 => ∃ c, x = .bl c /\ if c = true then tb σ H1 Q else Q (.bl false) H1 := rfl
theorem ap_notV : tNotV ta σ H Q = ta σ H fun x H1 => ∃ c, x = .bl c /\ Q (.bl (!c)) H1 := rfl
theorem ap_ifE : tIf tt ta tb σ H Q = tt σ H fun c H1 => if c = true then ta σ H1 Q else tb σ H1 Q := rfl
theorem ap_call {sp : Sp} {dvs : List V} {E : XK} : tCall sp dvs E A σ H Q = A σ H fun vs H1 => sp (vs ++ dvs) H1 Q E := rfl
theorem ap_nil : tNil σ H QA = QA [] H := rfl
theorem ap_cons : tCons ta A σ H QA = ta σ H fun x H1 => A σ H1 fun xs H2 => QA (x :: xs) H2 := rfl
theorem ap_cb {r : List V -> Hp -> VK -> Prop} : tCB r A σ H Q = A σ H fun vs H1 => r vs H1 Q := rfl
theorem ap_lst : tLst A σ H Q = A σ H fun xs H1 => xs.length <= sizeLine /\ ∀ p, H1 p = none -> Q (.ref p) (upd H1 p (.lst xs)) := rfl
theorem ap_tup : tTup A σ H Q = A σ H fun xs H1 => xs.length <= sizeLine /\ ∀ p, H1 p = none -> Q (.ref p) (upd H1 p (.tup xs)) := rfl
theorem ap_chain {r r' : R2} : tChain r r' ta tb tc σ H Q = ta σ H fun x H1 => tb σ H1 fun y H2 => r x y H2 fun z H3 => ∃ k, z = .bl k /\ (if k = true then tc σ H3 fun w' H4 => r' y w' H4 Q else Q (.bl false) H3) := rfl
theorem ap_sl {r : V -> Option Int -> Option Int -> Hp -> VK -> Prop} {tl th : TO} : tSl r te tl th σ H Q = te σ H fun x H1 => tl σ H1 fun l H2 => th σ H2 fun u H3 => r x l u H3 Q := rfl
theorem ap_noPart {QO : Option Int -> Hp -> Prop} : tNoPart σ H QO = QO none H := rfl
theorem ap_part {QO : Option Int -> Hp -> Prop} : tPart te σ H QO = te σ H fun x H1 => ∃ i, x = .int i /\ QO (some i) H1 := rfl
theorem ap_gNil : gNil vs σ H QG = (vs = [] /\ QG σ H) := rfl
theorem ap_gCons {u : TGs} : gCons g u vs σ H QG = ∃ v r, vs = v :: r /\ g v σ H fun σ' H' => u r σ' H' QG := rfl
theorem ap_gLst {n : Nat} : gLst K n gs v σ H QG = ∃ a xs, v = .ref a /\ SqL K H a xs /\ xs.length = n /\ gs xs σ H QG := rfl
theorem ap_gTup {n : Nat} : gTup K n gs v σ H QG = ∃ a xs, v = .ref a /\ SqT K H a xs /\ xs.length = n /\ gs xs σ H QG := rfl
theorem ap_bm {T : String} {r : V -> List V -> Hp -> VK -> Prop} : tBM K T r te A σ H Q = te σ H fun x H1 => tyV K T x H1 /\ A σ H1 fun xs H2 => r x xs H2 Q := rfl
theorem ap_bm0 {T : String} {r : V -> List V -> Hp -> VK -> Prop} : tBM0 K T r te σ H Q = te σ H fun x H1 => tyV K T x H1 /\ r x [] H1 Q := rfl
theorem ap_ixL {x y : V} : rIxL K x y H Q = ∃ p xs i v, x = .ref p /\ y = .int i /\ SqL K H p xs /\ atI xs i = some v /\ Q v H := rfl
theorem ap_slL {lo hi : Option Int} : rSlL K x lo hi H Q = ∃ a xs, x = .ref a /\ SqL K H a xs /\ ∀ p, H p = none -> Q (.ref p) (upd H p (.lst (cutV xs lo hi))) := rfl
theorem scal_int (i j : Int) : scal (.int i) (.int j) = true := rfl
theorem scal_str (i j : Str) : scal (.str i) (.str j) = true := rfl
theorem scal_bl (i j : Bool) : scal (.bl i) (.bl j) = true := rfl
theorem start_eq (N : List Str) (vs : List V) : start N vs = vs.map some ++ List.replicate (N.length - vs.length) none := rfl
end
end L2
namespace L2
open PySem PySem.Spec PyProof.Rows
theorem filt_true {α : Type} (l : List α) : l.filter (fun _ => true) = l := by simp
theorem Same.upd {H H' : Hp} {a : Addr} {o : HO} (h : Same H H') (hn : H a = Option.none) : Same H (upd H' a o) := fun b u e => by
 rw [upd_ne (ne_of_none e hn)]
 exact h b u e
theorem Same.new {H : Hp} {a : Addr} {o : HO} (hn : H a = Option.none) : Same H (L2.upd H a o) := Same.upd (Same.refl H) hn
section
variable {K : Fg_} {a D : Addr} {xs : List V} {g : TG} {tt : TT} {te : TE} {σ0 : St} {H1 : Hp} {Q : VK}
theorem comp_step {xs : List V} (J : It) (Sσ : St -> Prop) (p : V -> Bool) (F : V -> V) (hD : H1 D = Option.none) (h0 : Sσ σ0) (hz : xs.length <= sizeLine)
  (hgo : ∀ (i : Nat) x H, xs[i]? = some x -> Same H1 H -> J.go i H /\ ∀ y H', J.yld i H y H' -> y = x /\ H' = H) (hstop : ∀ H, Same H1 H -> J.stop xs.length H)
  (hs : ∀ x ∈ xs, ∀ (σ : St) (H : Hp) (R1 : St -> VK) (R2 : St -> Hp -> Prop), Sσ σ -> Same H1 H -> (p x = true -> ∀ σ4 H6, Sσ σ4 -> Same H H6 -> R1 σ4 (F x) H6) -> (p x = false -> ∀ σ4 H6, Sσ σ4 -> Same H H6 -> R2 σ4 H6) ->
   g x σ H fun σ4 H4 => tt σ4 H4 fun b H5 => if b = true then te σ4 H5 (R1 σ4) else R2 σ4 H5)
  (k : ∀ H', Same H1 H' -> H' D = some (.lst ((xs.filter p).map F)) -> Q (.ref D) H') :
  ∃ W : Nat -> Nat -> List V -> St -> Hp -> Prop, (∃ m, W 0 m [] σ0 (upd H1 D (.lst []))) /\ ∀ i m acc σ1 H2, W i m acc σ1 H2 -> H2 D = some (.lst acc) ->
   (J.stop i H2 /\ Q (.ref D) H2) \/ (J.go i H2 /\ ∀ x H3, J.yld i H2 x H3 -> g x σ1 H3 fun σ4 H4 => tt σ4 H4 fun b H5 =>
    if b = true then te σ4 H5 fun v H6 => ∃ acc', H6 D = some (.lst acc') /\ acc'.length < sizeLine /\ ∃ m', m' < m /\ W (i + 1) m' (acc' ++ [v]) σ4 (upd H6 D (.lst (acc' ++ [v])))
    else ∃ m', m' < m /\ ∃ acc', H5 D = some (.lst acc') /\ W (i + 1) m' acc' σ4 H5) := by
 refine ⟨fun i m acc σ H => m = xs.length - i /\ i <= xs.length /\ Sσ σ /\ Same H1 H /\ acc = ((xs.take i).filter p).map F, ⟨xs.length, rfl, Nat.zero_le _, h0, Same.new hD, by simp⟩, ?_⟩
 rintro i m acc σ H ⟨rfl, hi, hσ, sm, rfl⟩ hA
 by_cases hlt : i < xs.length
 ·have hx : xs[i]? = some xs[i] := by simp [hlt]
  obtain ⟨go, yl⟩ := hgo i xs[i] H hx sm
  refine .inr ⟨go, fun y H' hy => ?_⟩
  obtain ⟨rfl, rfl⟩ := yl y H' hy
  have htake : xs.take (i + 1) = xs.take i ++ [xs[i]] := by rw [List.take_add_one, hx]; rfl
  have hlen : (((xs.take i).filter p).map F).length <= i := by
   rw [List.length_map]
   exact Nat.le_trans (List.length_filter_le _ _) (by rw [List.length_take]; exact Nat.min_le_left _ _)
  refine hs xs[i] (List.getElem_mem hlt) σ H' _ _ hσ sm (fun hp σ4 H6 hσ4 s6 => ?_) (fun hp σ4 H6 hσ4 s6 => ?_)
  ·refine ⟨_, s6 _ _ hA, by omega, xs.length - (i + 1), by omega, rfl, hlt, hσ4, (sm.trans s6).upd hD, ?_⟩
   rw [htake, List.filter_append, List.map_append]
   simp [hp]
  ·refine ⟨xs.length - (i + 1), by omega, _, s6 _ _ hA, rfl, hlt, hσ4, sm.trans s6, ?_⟩
   rw [htake, List.filter_append, List.map_append]
   simp [hp]
 ·have e : i = xs.length := by omega
  subst e
  refine .inl ⟨hstop H sm, k H sm ?_⟩
  rw [hA, List.take_length]
theorem comp_list (Sσ : St -> Prop) (p : V -> Bool) (F : V -> V) (hS : SqL K H1 a xs) (hD : H1 D = Option.none) (h0 : Sσ σ0) (hz : xs.length <= sizeLine)
  (hs : ∀ x ∈ xs, ∀ (σ : St) (H : Hp) (R1 : St -> VK) (R2 : St -> Hp -> Prop), Sσ σ -> Same H1 H -> (p x = true -> ∀ σ4 H6, Sσ σ4 -> Same H H6 -> R1 σ4 (F x) H6) -> (p x = false -> ∀ σ4 H6, Sσ σ4 -> Same H H6 -> R2 σ4 H6) ->
   g x σ H fun σ4 H4 => tt σ4 H4 fun b H5 => if b = true then te σ4 H5 (R1 σ4) else R2 σ4 H5)
  (k : ∀ H', Same H1 H' -> H' D = some (.lst ((xs.filter p).map F)) -> Q (.ref D) H') :
  ∃ W : Nat -> Nat -> List V -> St -> Hp -> Prop, (∃ m, W 0 m [] σ0 (upd H1 D (.lst []))) /\ ∀ i m acc σ1 H2, W i m acc σ1 H2 -> H2 D = some (.lst acc) ->
   ((Itl K a).stop i H2 /\ Q (.ref D) H2) \/ ((Itl K a).go i H2 /\ ∀ x H3, (Itl K a).yld i H2 x H3 -> g x σ1 H3 fun σ4 H4 => tt σ4 H4 fun b H5 =>
    if b = true then te σ4 H5 fun v H6 => ∃ acc', H6 D = some (.lst acc') /\ acc'.length < sizeLine /\ ∃ m', m' < m /\ W (i + 1) m' (acc' ++ [v]) σ4 (upd H6 D (.lst (acc' ++ [v])))
    else ∃ m', m' < m /\ ∃ acc', H5 D = some (.lst acc') /\ W (i + 1) m' acc' σ4 H5) :=
 comp_step (Itl K a) Sσ p F hD h0 hz (fun i x H hx sm => ⟨⟨xs, x, sm.seq hS, hx⟩, fun y H' hy => ⟨Option.some.inj ((hy.2 xs (sm.seq hS)).symm.trans hx), hy.1⟩⟩) (fun H sm => ⟨xs, sm.seq hS, Nat.le_refl _⟩) hs k
theorem comp_range {lo : Int} {n : Nat} (Sσ : St -> Prop) (p : V -> Bool) (F : V -> V) (hD : H1 D = Option.none) (h0 : Sσ σ0) (hz : n <= sizeLine)
  (hs : ∀ i : Nat, i < n -> ∀ (σ : St) (H : Hp) (R1 : St -> VK) (R2 : St -> Hp -> Prop), Sσ σ -> Same H1 H -> (p (.int (lo + i)) = true -> ∀ σ4 H6, Sσ σ4 -> Same H H6 -> R1 σ4 (F (.int (lo + i))) H6) -> (p (.int (lo + i)) = false -> ∀ σ4 H6, Sσ σ4 -> Same H H6 -> R2 σ4 H6) ->
   g (.int (lo + i)) σ H fun σ4 H4 => tt σ4 H4 fun b H5 => if b = true then te σ4 H5 (R1 σ4) else R2 σ4 H5)
  (k : ∀ H', Same H1 H' -> H' D = some (.lst ((((List.range n).map fun (i : Nat) => V.int (lo + i)).filter p).map F)) -> Q (.ref D) H') :
  ∃ W : Nat -> Nat -> List V -> St -> Hp -> Prop, (∃ m, W 0 m [] σ0 (upd H1 D (.lst []))) /\ ∀ i m acc σ1 H2, W i m acc σ1 H2 -> H2 D = some (.lst acc) ->
   ((Itr lo n).stop i H2 /\ Q (.ref D) H2) \/ ((Itr lo n).go i H2 /\ ∀ x H3, (Itr lo n).yld i H2 x H3 -> g x σ1 H3 fun σ4 H4 => tt σ4 H4 fun b H5 =>
    if b = true then te σ4 H5 fun v H6 => ∃ acc', H6 D = some (.lst acc') /\ acc'.length < sizeLine /\ ∃ m', m' < m /\ W (i + 1) m' (acc' ++ [v]) σ4 (upd H6 D (.lst (acc' ++ [v])))
    else ∃ m', m' < m /\ ∃ acc', H5 D = some (.lst acc') /\ W (i + 1) m' acc' σ4 H5) := by
 refine comp_step (xs := (List.range n).map fun (i : Nat) => V.int (lo + i)) (Itr lo n) Sσ p F hD h0 (by simpa using hz) (fun i x H hx sm => ?_) (fun H sm => ?_) (fun x hx σ H R1 R2 h1 h2 h3 h4 => ?_) k
 ·have hi : i < n := by simpa using (List.getElem?_eq_some_iff.mp hx).1
  have e : x = .int (lo + i) := by
   rw [List.getElem?_map, List.getElem?_range hi] at hx
   exact (Option.some.inj hx).symm
  exact ⟨hi, fun y H' hy => ⟨hy.2.trans e.symm, hy.1⟩⟩
 ·show n <= _
  simp
 ·obtain ⟨i, hi, rfl⟩ := List.mem_map.mp hx
  exact hs i (List.mem_range.mp hi) σ H R1 R2 h1 h2 h3 h4
end
end L2
namespace L2
open PySem PySem.Spec PyProof.Rows
inductive DV where
 | non | bl (b : Bool) | int (i : Int) | str (x : Str) | lst (xs : List DV) | tup (xs : List DV)
mutual
inductive RepD (K : Fg_) (H : Hp) : V -> DV -> Prop
 | non : RepD K H .non .non
 | bl (b : Bool) : RepD K H (.bl b) (.bl b)
 | int (i : Int) : RepD K H (.int i) (.int i)
 | str (x : Str) : RepD K H (.str x) (.str x)
 | lst {a : Addr} {vs : List V} {ds : List DV} (h : SqL K H a vs) (hs : RepsD K H vs ds) : RepD K H (.ref a) (.lst ds)
 | tup {a : Addr} {vs : List V} {ds : List DV} (h : SqT K H a vs) (hs : RepsD K H vs ds) : RepD K H (.ref a) (.tup ds)
inductive RepsD (K : Fg_) (H : Hp) : List V -> List DV -> Prop
 | nil : RepsD K H [] []
 | cons {v : V} {d : DV} {vs : List V} {ds : List DV} (h : RepD K H v d) (hs : RepsD K H vs ds) : RepsD K H (v :: vs) (d :: ds)
end
mutual
def deqD : DV -> DV -> Bool
 | .non, .non => true
 | .bl a, .bl b => a == b
 | .int a, .int b => a == b
 | .bl a, .int b => (if a then 1 else 0) == b
 | .int a, .bl b => a == (if b then 1 else 0)
 | .str a, .str b => a == b
 | .lst xs, .lst ys => deqDs xs ys
 | .tup xs, .tup ys => deqDs xs ys
 | _, _ => false
def deqDs : List DV -> List DV -> Bool
 | [], [] => true
 | x :: xs, y :: ys => deqD x y && deqDs xs ys
 | _, _ => false
end
mutual
def depD : DV -> Nat
 | .lst xs => depDs xs + 1
 | .tup xs => depDs xs + 1
 | _ => 0
def depDs : List DV -> Nat
 | [] => 0
 | x :: xs => max (depD x) (depDs xs)
end
theorem RepsD.length {K : Fg_} {H : Hp} : ∀ {vs : List V} {ds : List DV}, RepsD K H vs ds -> vs.length = ds.length
 | _, _, .nil => rfl
 | _, _, .cons _ hs => congrArg (· + 1) (RepsD.length hs)
theorem RepsD.get {K : Fg_} {H : Hp} : ∀ {vs : List V} {ds : List DV} {j : Nat} {v : V} {d : DV}, RepsD K H vs ds -> vs[j]? = some v -> ds[j]? = some d -> RepD K H v d
 | _, _, _, _, _, .nil, h, _ => by simp at h
 | _, _, 0, _, _, .cons h _, e1, e2 => by simp at e1 e2; subst e1 e2; exact h
 | _, _, j + 1, _, _, .cons _ hs, e1, e2 => RepsD.get (j := j) hs (by simpa using e1) (by simpa using e2)
theorem depDs_get : ∀ {ds : List DV} {j : Nat} {d : DV}, ds[j]? = some d -> depD d <= depDs ds
 | [], _, _, h => by simp at h
 | x :: xs, 0, d, h => by simp at h; subst h; unfold depDs; exact Nat.le_max_left _ _
 | x :: xs, j + 1, d, h => by unfold depDs; exact Nat.le_trans (depDs_get (j := j) (by simpa using h)) (Nat.le_max_right _ _)
theorem deqDs_all : ∀ (xs ys : List DV), xs.length = ys.length -> deqDs xs ys = (List.range xs.length).all fun j => deqD (xs.getD j .non) (ys.getD j .non)
 | [], [], _ => rfl
 | x :: xs, y :: ys, h => by
  unfold deqDs
  rw [deqDs_all xs ys (by simpa using h), List.length_cons, List.range_succ_eq_map, List.all_cons, List.all_map]
  rfl
 | [], _ :: _, h => by simp at h
 | _ :: _, [], h => by simp at h
theorem deqDs_len : ∀ (xs ys : List DV), xs.length ≠ ys.length -> deqDs xs ys = false
 | [], [], h => absurd rfl h
 | x :: xs, y :: ys, h => by
  unfold deqDs
  rw [deqDs_len xs ys (by simpa using h), Bool.and_false]
 | [], _ :: _, _ => by unfold deqDs; rfl
 | _ :: _, [], _ => by unfold deqDs; rfl
theorem deqD_lst (xs ys : List DV) : deqD (.lst xs) (.lst ys) = deqDs xs ys := by unfold deqD; rfl
theorem deqD_tup (xs ys : List DV) : deqD (.tup xs) (.tup ys) = deqDs xs ys := by unfold deqD; rfl
mutual
theorem deqD_refl : ∀ d : DV, deqD d d = true
 | .non => by unfold deqD; rfl
 | .bl a => by unfold deqD; simp
 | .int a => by unfold deqD; simp
 | .str a => by unfold deqD; simp
 | .lst xs => by unfold deqD; exact deqDs_refl xs
 | .tup xs => by unfold deqD; exact deqDs_refl xs
theorem deqDs_refl : ∀ ds : List DV, deqDs ds ds = true
 | [] => by unfold deqDs; rfl
 | x :: xs => by unfold deqDs; rw [deqD_refl x, deqDs_refl xs]; rfl
end
section
variable {X : Cx} {pins : List (Addr × Obj)} {σ : St} {H : Hp} {s : Shared}
theorem Inv.noboth (I : Inv X pins σ H s) {a : Addr} {xs ys : List V} (h : SqL X.K H a xs) (h' : SqT X.K H a ys) : False := by
 obtain ⟨its, r, ⟨o, n, e, c, _⟩, _⟩ := I.list h
 obtain ⟨its', r', ⟨o', e', c', _⟩, _⟩ := I.tuple h'
 rw [e] at e'; cases e'
 rw [c] at c'
 exact absurd c' (by decide)
mutual
theorem RepD.inj (I : Inv X pins σ H s) : ∀ {v : V} {d d' : DV}, RepD X.K H v d -> RepD X.K H v d' -> d = d'
 | _, _, _, .non, .non => rfl
 | _, _, _, .bl _, .bl _ => rfl
 | _, _, _, .int _, .int _ => rfl
 | _, _, _, .str _, .str _ => rfl
 | _, _, _, .lst h hs, .lst h' hs' => by
  have e := I.list_inj h h'
  subst e
  rw [RepsD.inj I hs hs']
 | _, _, _, .tup h hs, .tup h' hs' => by
  have e := I.tuple_inj h h'
  subst e
  rw [RepsD.inj I hs hs']
 | _, _, _, .lst h _, .tup h' _ => (I.noboth h h').elim
 | _, _, _, .tup h _, .lst h' _ => (I.noboth h' h).elim
theorem RepsD.inj (I : Inv X pins σ H s) : ∀ {vs : List V} {ds ds' : List DV}, RepsD X.K H vs ds -> RepsD X.K H vs ds' -> ds = ds'
 | _, _, _, .nil, .nil => rfl
 | _, _, _, .cons h hs, .cons h' hs' => by rw [RepD.inj I h h', RepsD.inj I hs hs']
end
theorem in1_units (A : Around) : A.in1.units = A.units + 1 := rfl
theorem eqAt_flatL (I : Inv X pins σ H s) {A : Around} {d1 d2 : DV} {v1 v2 : V} {u1 u2 : Value} (hd : depD d1 <= 0) (hu' : A.units < cLine) (h1 : RepD X.K H v1 d1) (h2 : RepD X.K H v2 d2) (r1 : RelV v1 u1) (r2 : RelV v2 u2) : SeqAt.EqAt A s u1 u2 (deqD d1 d2) := by
 cases h1 with
 | lst h hs => unfold depD at hd; omega
 | tup h hs => unfold depD at hd; omega
 | non =>
  cases (show u1 = Value.none from r1)
  cases h2 with
  | non => cases (show u2 = Value.none from r2); unfold deqD; exact SeqAt.EqAt.same _
  | bl b => cases (show u2 = Value.bool b from r2); unfold deqD; exact SeqAt.EqAt.none_bool b
  | int i => obtain ⟨t, e⟩ := (show ∃ t, u2 = Value.int i t from r2); subst e; unfold deqD; exact SeqAt.EqAt.none_int i t
  | str x => obtain ⟨t, e⟩ := (show ∃ t, u2 = Value.str x t from r2); subst e; unfold deqD; exact SeqAt.EqAt.none_str x t
  | lst h hs => obtain ⟨its, _, p, _⟩ := I.list h; cases r2; unfold deqD; exact SeqAt.EqAt.none_list p.isList hu'
  | tup h hs => obtain ⟨its, _, p, _⟩ := I.tuple h; cases r2; unfold deqD; exact SeqAt.EqAt.none_tuple p hu'
 | bl a =>
  cases (show u1 = Value.bool a from r1)
  cases h2 with
  | non => cases (show u2 = Value.none from r2); unfold deqD; exact SeqAt.EqAt.bool_none a
  | bl b => cases (show u2 = Value.bool b from r2); unfold deqD; exact SeqAt.EqAt.bool_bool a b
  | int i => obtain ⟨t, e⟩ := (show ∃ t, u2 = Value.int i t from r2); subst e; unfold deqD; exact SeqAt.EqAt.bool_int a i t
  | str x => obtain ⟨t, e⟩ := (show ∃ t, u2 = Value.str x t from r2); subst e; unfold deqD; exact SeqAt.EqAt.bool_str a x t
  | lst h hs => obtain ⟨its, _, p, _⟩ := I.list h; cases r2; unfold deqD; exact SeqAt.EqAt.bool_list a p.isList hu'
  | tup h hs => obtain ⟨its, _, p, _⟩ := I.tuple h; cases r2; unfold deqD; exact SeqAt.EqAt.bool_tuple a p hu'
 | int a =>
  obtain ⟨t1, e1⟩ := (show ∃ t, u1 = Value.int a t from r1); subst e1
  cases h2 with
  | non => cases (show u2 = Value.none from r2); unfold deqD; exact SeqAt.EqAt.int_none a t1
  | bl b => cases (show u2 = Value.bool b from r2); unfold deqD; exact SeqAt.EqAt.int_bool a t1 b
  | int i => obtain ⟨t, e⟩ := (show ∃ t, u2 = Value.int i t from r2); subst e; unfold deqD; exact SeqAt.EqAt.int_int a t1 i t
  | str x => obtain ⟨t, e⟩ := (show ∃ t, u2 = Value.str x t from r2); subst e; unfold deqD; exact SeqAt.EqAt.int_str a t1 x t
  | lst h hs => obtain ⟨its, _, p, _⟩ := I.list h; cases r2; unfold deqD; exact SeqAt.EqAt.int_list a t1 p.isList hu'
  | tup h hs => obtain ⟨its, _, p, _⟩ := I.tuple h; cases r2; unfold deqD; exact SeqAt.EqAt.int_tuple a t1 p hu'
 | str a =>
  obtain ⟨t1, e1⟩ := (show ∃ t, u1 = Value.str a t from r1); subst e1
  cases h2 with
  | non => cases (show u2 = Value.none from r2); unfold deqD; exact SeqAt.EqAt.str_none a t1
  | bl b => cases (show u2 = Value.bool b from r2); unfold deqD; exact SeqAt.EqAt.str_bool a t1 b
  | int i => obtain ⟨t, e⟩ := (show ∃ t, u2 = Value.int i t from r2); subst e; unfold deqD; exact SeqAt.EqAt.str_int a t1 i t
  | str x => obtain ⟨t, e⟩ := (show ∃ t, u2 = Value.str x t from r2); subst e; unfold deqD; exact SeqAt.EqAt.str_str a t1 x t
  | lst h hs => obtain ⟨its, _, p, _⟩ := I.list h; cases r2; unfold deqD; exact SeqAt.EqAt.str_list a t1 p.isList hu'
  | tup h hs => obtain ⟨its, _, p, _⟩ := I.tuple h; cases r2; unfold deqD; exact SeqAt.EqAt.str_tuple a t1 p hu'
theorem eqAt_items {A : Around} {vs1 vs2 : List V} {ds1 ds2 : List DV} {its1 its2 : List Value} (r1 : Vals vs1 its1) (r2 : Vals vs2 its2) (h1 : RepsD X.K H vs1 ds1) (h2 : RepsD X.K H vs2 ds2)
  (ih : ∀ (d1 d2 : DV) (v1 v2 : V) (u1 u2 : Value), depD d1 <= depDs ds1 -> RepD X.K H v1 d1 -> RepD X.K H v2 d2 -> RelV v1 u1 -> RelV v2 u2 -> SeqAt.EqAt A s u1 u2 (deqD d1 d2)) :
  ∀ (j : Nat) (a : j < its1.toArray.size) (b : j < its2.toArray.size), SeqAt.EqAt A s its1.toArray[j] its2.toArray[j] (deqD (ds1.getD j .non) (ds2.getD j .non)) := by
 intro j a b
 have l1 := r1.length
 have l2 := r2.length
 have m1 := h1.length
 have m2 := h2.length
 simp only [List.size_toArray] at a b
 have a1 : j < vs1.length := by omega
 have a2 : j < vs2.length := by omega
 have b1 : j < ds1.length := by omega
 have b2 : j < ds2.length := by omega
 obtain ⟨w1, e1, q1⟩ := r1.get (i := j) (x := vs1[j]) (by simp [a1])
 obtain ⟨w2, e2, q2⟩ := r2.get (i := j) (x := vs2[j]) (by simp [a2])
 have z1 : its1.toArray[j] = w1 := by simpa [a] using e1
 have z2 : its2.toArray[j] = w2 := by simpa [b] using e2
 have y1 : ds1.getD j .non = ds1[j] := by simp [List.getD, b1]
 have y2 : ds2.getD j .non = ds2[j] := by simp [List.getD, b2]
 rw [z1, z2, y1, y2]
 exact ih _ _ _ _ _ _ (depDs_get (j := j) (by simp [b1])) (h1.get (j := j) (by simp [a1]) (by simp [b1])) (h2.get (j := j) (by simp [a2]) (by simp [b2])) q1 q2
theorem eqAt_D (I : Inv X pins σ H s) : ∀ (n : Nat) (A : Around) (d1 d2 : DV) (v1 v2 : V) (u1 u2 : Value), depD d1 <= n -> A.units + n < cLine -> RepD X.K H v1 d1 -> RepD X.K H v2 d2 -> RelV v1 u1 -> RelV v2 u2 -> SeqAt.EqAt A s u1 u2 (deqD d1 d2) := by
 intro n
 induction n with
 | zero => exact fun A d1 d2 v1 v2 u1 u2 hd hu h1 h2 r1 r2 => eqAt_flatL I hd (by omega) h1 h2 r1 r2
 | succ n ih =>
  intro A d1 d2 v1 v2 u1 u2 hd hu h1 h2 r1 r2
  have hu' : A.units < cLine := by omega
  have hin : A.in1.units + n < cLine := by rw [in1_units]; omega
  cases h1 with
  | non => exact eqAt_flatL I (by unfold depD; omega) hu' .non h2 r1 r2
  | bl a => exact eqAt_flatL I (by unfold depD; omega) hu' (.bl a) h2 r1 r2
  | int a => exact eqAt_flatL I (by unfold depD; omega) hu' (.int a) h2 r1 r2
  | str a => exact eqAt_flatL I (by unfold depD; omega) hu' (.str a) h2 r1 r2
  | @lst a vs ds h hs =>
   obtain ⟨its, rv, p, _⟩ := I.list h
   cases (show u1 = Value.ref a from r1)
   have hd' : depDs ds <= n := by unfold depD at hd; omega
   cases h2 with
   | non => cases (show u2 = Value.none from r2); unfold deqD; exact SeqAt.EqAt.list_none p.isList hu'
   | bl b => cases (show u2 = Value.bool b from r2); unfold deqD; exact SeqAt.EqAt.list_bool b p.isList hu'
   | int i => obtain ⟨t, e⟩ := (show ∃ t, u2 = Value.int i t from r2); subst e; unfold deqD; exact SeqAt.EqAt.list_int i t p.isList hu'
   | str x => obtain ⟨t, e⟩ := (show ∃ t, u2 = Value.str x t from r2); subst e; unfold deqD; exact SeqAt.EqAt.list_str x t p.isList hu'
   | @lst a2 vs2 ds2 h' hs' =>
    obtain ⟨its2, rv2, p2, _⟩ := I.list h'
    cases (show u2 = Value.ref a2 from r2)
    unfold deqD
    by_cases hne : a = a2
    ·subst hne
     have e := I.list_inj h h'
     subst e
     rw [RepsD.inj I hs hs', deqDs_refl]
     exact SeqAt.EqAt.same _
    ·have l1 := rv.length
     have l2 := rv2.length
     have m1 := hs.length
     have m2 := hs'.length
     by_cases hz : ds.length = ds2.length
     ·rw [deqDs_all _ _ hz]
      have := SeqAt.EqAt.of_refs hne (SeqAt.RcAt.lists (A := A) (e := fun j => deqD (ds.getD j .non) (ds2.getD j .non)) p.isList p2.isList (by simp only [List.size_toArray]; omega) hu'
       (eqAt_items rv rv2 hs hs' fun d1 d2 v1 v2 u1 u2 hdd g1 g2 q1 q2 => ih A.in1 d1 d2 v1 v2 u1 u2 (by omega) hin g1 g2 q1 q2))
      rw [List.size_toArray, show its.length = ds.length by omega] at this
      exact this
     ·rw [deqDs_len _ _ hz]
      exact SeqAt.EqAt.of_refs hne (SeqAt.RcAt.lists_lengths p.isList p2.isList (by simp only [List.size_toArray, bne_iff_ne]; omega) hu')
   | @tup a2 vs2 ds2 h' hs' =>
    obtain ⟨its2, rv2, p2, _⟩ := I.tuple h'
    cases (show u2 = Value.ref a2 from r2)
    unfold deqD
    exact SeqAt.EqAt.list_tuple p.isList p2 hu'
  | @tup a vs ds h hs =>
   obtain ⟨its, rv, p, _⟩ := I.tuple h
   cases (show u1 = Value.ref a from r1)
   have hd' : depDs ds <= n := by unfold depD at hd; omega
   cases h2 with
   | non => cases (show u2 = Value.none from r2); unfold deqD; exact SeqAt.EqAt.tuple_none p hu'
   | bl b => cases (show u2 = Value.bool b from r2); unfold deqD; exact SeqAt.EqAt.tuple_bool b p hu'
   | int i => obtain ⟨t, e⟩ := (show ∃ t, u2 = Value.int i t from r2); subst e; unfold deqD; exact SeqAt.EqAt.tuple_int i t p hu'
   | str x => obtain ⟨t, e⟩ := (show ∃ t, u2 = Value.str x t from r2); subst e; unfold deqD; exact SeqAt.EqAt.tuple_str x t p hu'
   | @lst a2 vs2 ds2 h' hs' =>
    obtain ⟨its2, rv2, p2, _⟩ := I.list h'
    cases (show u2 = Value.ref a2 from r2)
    unfold deqD
    exact SeqAt.EqAt.tuple_list p p2.isList hu'
   | @tup a2 vs2 ds2 h' hs' =>
    obtain ⟨its2, rv2, p2, _⟩ := I.tuple h'
    cases (show u2 = Value.ref a2 from r2)
    unfold deqD
    by_cases hne : a = a2
    ·subst hne
     have e := I.tuple_inj h h'
     subst e
     rw [RepsD.inj I hs hs', deqDs_refl]
     exact SeqAt.EqAt.same _
    ·have l1 := rv.length
     have l2 := rv2.length
     have m1 := hs.length
     have m2 := hs'.length
     have := SeqAt.EqAt.of_refs hne (SeqAt.RcAt.tuples (A := A) (e := fun j => deqD (ds.getD j .non) (ds2.getD j .non)) p p2 hu'
       (eqAt_items rv rv2 hs hs' fun d1 d2 v1 v2 u1 u2 hdd g1 g2 q1 q2 => ih A.in1 d1 d2 v1 v2 u1 u2 (by omega) hin g1 g2 q1 q2))
     simp only [List.size_toArray] at this
     by_cases hz : ds.length = ds2.length
     ·rw [deqDs_all _ _ hz]
      rw [show its.length = ds.length by omega, show its2.length = ds.length by omega, Nat.min_self, beq_self_eq_true, Bool.and_true] at this
      exact this
     ·rw [deqDs_len _ _ hz]
      rw [show (its.length == its2.length) = false from beq_eq_false_iff_ne.mpr (by omega), Bool.and_false] at this
      exact this
def rEqD (K : Fg_) : R2 := fun x y H Q => ∃ d1 d2, RepD K H x d1 /\ RepD K H y d2 /\ 1 <= depD d1 /\ depD d1 <= 20 /\ Q (.bl (deqD d1 d2)) H
def rNeD (K : Fg_) : R2 := fun x y H Q => ∃ d1 d2, RepD K H x d1 /\ RepD K H y d2 /\ 1 <= depD d1 /\ depD d1 <= 20 /\ Q (.bl (!deqD d1 d2)) H
theorem op_eqD {k : Nat} (hr : Room k X.A) : OpR X (compareOp .Eq) (rEqD X.K) := by
 intro pins s σ H x y v u Q I rx ry h
 obtain ⟨d1, d2, h1, h2, hd1, hd, q⟩ := h
 have hr' := hr.units
 have hu' : X.A.units < cLine := by omega
 have hin : X.A.in1.units + 20 < cLine := by rw [in1_units]; omega
 have fin : ∀ b, SeqAt.RcAt X.A s v u b -> b = (deqD d1 d2) -> wpAny (model X.prog X.w) X.A (compareOp .Eq v u) (EP X pins σ Q) X.xe s := fun b hb e => by
  subst e
  exact hb X.prog X.w X.xe _ ⟨.bl _, H, I, rfl, q⟩
 cases h1 with
 | non => unfold depD at hd1; omega
 | bl a => unfold depD at hd1; omega
 | int a => unfold depD at hd1; omega
 | str a => unfold depD at hd1; omega
 | @lst a vs ds h hs =>
  obtain ⟨its, rv, p, _⟩ := I.list h
  cases (show v = Value.ref a from rx)
  have hd' : depDs ds <= 20 := by unfold depD at hd; omega
  cases h2 with
  | non => cases (show u = Value.none from ry); exact fin _ (SeqAt.RcAt.list_none p.isList hu') (by unfold deqD; rfl)
  | bl b => cases (show u = Value.bool b from ry); exact fin _ (SeqAt.RcAt.list_bool b p.isList hu') (by unfold deqD; rfl)
  | int i => obtain ⟨t, e⟩ := (show ∃ t, u = Value.int i t from ry); subst e; exact fin _ (SeqAt.RcAt.list_int i t p.isList hu') (by unfold deqD; rfl)
  | str z => obtain ⟨t, e⟩ := (show ∃ t, u = Value.str z t from ry); subst e; exact fin _ (SeqAt.RcAt.list_str z t p.isList hu') (by unfold deqD; rfl)
  | @tup a2 vs2 ds2 h' hs' =>
   obtain ⟨its2, rv2, p2, _⟩ := I.tuple h'
   cases (show u = Value.ref a2 from ry)
   exact fin _ (SeqAt.RcAt.list_tuple p.isList p2 hu') (by unfold deqD; rfl)
  | @lst a2 vs2 ds2 h' hs' =>
   obtain ⟨its2, rv2, p2, _⟩ := I.list h'
   cases (show u = Value.ref a2 from ry)
   have l1 := rv.length
   have l2 := rv2.length
   have m1 := hs.length
   have m2 := hs'.length
   by_cases hz : ds.length = ds2.length
   ·refine fin _ (SeqAt.RcAt.lists (A := X.A) (e := fun j => deqD (ds.getD j .non) (ds2.getD j .non)) p.isList p2.isList (by simp only [List.size_toArray]; omega) hu'
     (eqAt_items rv rv2 hs hs' fun d1 d2 v1 v2 u1 u2 hdd g1 g2 q1 q2 => eqAt_D I 20 X.A.in1 d1 d2 v1 v2 u1 u2 (by omega) hin g1 g2 q1 q2)) ?_
    rw [deqD_lst, deqDs_all _ _ hz, List.size_toArray, show its.length = ds.length by omega]
   ·refine fin _ (SeqAt.RcAt.lists_lengths p.isList p2.isList (by simp only [List.size_toArray, bne_iff_ne]; omega) hu') ?_
    unfold deqD
    rw [deqDs_len _ _ hz]
    all_goals rfl
 | @tup a vs ds h hs =>
  obtain ⟨its, rv, p, _⟩ := I.tuple h
  cases (show v = Value.ref a from rx)
  have hd' : depDs ds <= 20 := by unfold depD at hd; omega
  cases h2 with
  | non => cases (show u = Value.none from ry); exact fin _ (SeqAt.RcAt.tuple_none p hu') (by unfold deqD; rfl)
  | bl b => cases (show u = Value.bool b from ry); exact fin _ (SeqAt.RcAt.tuple_bool b p hu') (by unfold deqD; rfl)
  | int i => obtain ⟨t, e⟩ := (show ∃ t, u = Value.int i t from ry); subst e; exact fin _ (SeqAt.RcAt.tuple_int i t p hu') (by unfold deqD; rfl)
  | str z => obtain ⟨t, e⟩ := (show ∃ t, u = Value.str z t from ry); subst e; exact fin _ (SeqAt.RcAt.tuple_str z t p hu') (by unfold deqD; rfl)
  | @lst a2 vs2 ds2 h' hs' =>
   obtain ⟨its2, rv2, p2, _⟩ := I.list h'
   cases (show u = Value.ref a2 from ry)
   exact fin _ (SeqAt.RcAt.tuple_list p p2.isList hu') (by unfold deqD; rfl)
  | @tup a2 vs2 ds2 h' hs' =>
   obtain ⟨its2, rv2, p2, _⟩ := I.tuple h'
   cases (show u = Value.ref a2 from ry)
   have l1 := rv.length
   have l2 := rv2.length
   have m1 := hs.length
   have m2 := hs'.length
   refine fin _ (SeqAt.RcAt.tuples (A := X.A) (e := fun j => deqD (ds.getD j .non) (ds2.getD j .non)) p p2 hu'
     (eqAt_items rv rv2 hs hs' fun d1 d2 v1 v2 u1 u2 hdd g1 g2 q1 q2 => eqAt_D I 20 X.A.in1 d1 d2 v1 v2 u1 u2 (by omega) hin g1 g2 q1 q2)) ?_
   rw [deqD_tup]
   simp only [List.size_toArray]
   by_cases hz : ds.length = ds2.length
   ·rw [deqDs_all _ _ hz, show its.length = ds.length by omega, show its2.length = ds.length by omega, Nat.min_self, beq_self_eq_true, Bool.and_true]
   ·rw [deqDs_len _ _ hz, show (its.length == its2.length) = false from beq_eq_false_iff_ne.mpr (by omega), Bool.and_false]
theorem op_neD {k : Nat} (hr : Room k X.A) : OpR X (compareOp .NotEq) (rNeD X.K) := by
 intro pins s σ H x y v u Q I rx ry h
 obtain ⟨d1, d2, h1, h2, hd1, hd, q⟩ := h
 have hr' := hr.units
 have hu' : X.A.units < cLine := by omega
 have hin : X.A.in1.units + 20 < cLine := by rw [in1_units]; omega
 have fin : ∀ b, SeqAt.RcNeAt X.A s v u b -> b = (!deqD d1 d2) -> wpAny (model X.prog X.w) X.A (compareOp .NotEq v u) (EP X pins σ Q) X.xe s := fun b hb e => by
  subst e
  exact hb X.prog X.w X.xe _ ⟨.bl _, H, I, rfl, q⟩
 cases h1 with
 | non => unfold depD at hd1; omega
 | bl a => unfold depD at hd1; omega
 | int a => unfold depD at hd1; omega
 | str a => unfold depD at hd1; omega
 | @lst a vs ds h hs =>
  obtain ⟨its, rv, p, _⟩ := I.list h
  cases (show v = Value.ref a from rx)
  have hd' : depDs ds <= 20 := by unfold depD at hd; omega
  cases h2 with
  | non => cases (show u = Value.none from ry); exact fin _ (SeqAt.RcNeAt.list_none p.isList hu') (by unfold deqD; rfl)
  | bl b => cases (show u = Value.bool b from ry); exact fin _ (SeqAt.RcNeAt.list_bool b p.isList hu') (by unfold deqD; rfl)
  | int i => obtain ⟨t, e⟩ := (show ∃ t, u = Value.int i t from ry); subst e; exact fin _ (SeqAt.RcNeAt.list_int i t p.isList hu') (by unfold deqD; rfl)
  | str z => obtain ⟨t, e⟩ := (show ∃ t, u = Value.str z t from ry); subst e; exact fin _ (SeqAt.RcNeAt.list_str z t p.isList hu') (by unfold deqD; rfl)
  | @tup a2 vs2 ds2 h' hs' =>
   obtain ⟨its2, rv2, p2, _⟩ := I.tuple h'
   cases (show u = Value.ref a2 from ry)
   exact fin _ (SeqAt.RcNeAt.list_tuple p.isList p2 hu') (by unfold deqD; rfl)
  | @lst a2 vs2 ds2 h' hs' =>
   obtain ⟨its2, rv2, p2, _⟩ := I.list h'
   cases (show u = Value.ref a2 from ry)
   have l1 := rv.length
   have l2 := rv2.length
   have m1 := hs.length
   have m2 := hs'.length
   by_cases hz : ds.length = ds2.length
   ·refine fin _ (SeqAt.RcNeAt.lists (A := X.A) (e := fun j => deqD (ds.getD j .non) (ds2.getD j .non)) p.isList p2.isList (by simp only [List.size_toArray]; omega) hu'
     (eqAt_items rv rv2 hs hs' fun d1 d2 v1 v2 u1 u2 hdd g1 g2 q1 q2 => eqAt_D I 20 X.A.in1 d1 d2 v1 v2 u1 u2 (by omega) hin g1 g2 q1 q2)) ?_
    rw [deqD_lst, deqDs_all _ _ hz, List.size_toArray, show its.length = ds.length by omega]
   ·refine fin _ (SeqAt.RcNeAt.lists_lengths p.isList p2.isList (by simp only [List.size_toArray, bne_iff_ne]; omega) hu') ?_
    unfold deqD
    rw [deqDs_len _ _ hz]
    all_goals rfl
 | @tup a vs ds h hs =>
  obtain ⟨its, rv, p, _⟩ := I.tuple h
  cases (show v = Value.ref a from rx)
  have hd' : depDs ds <= 20 := by unfold depD at hd; omega
  cases h2 with
  | non => cases (show u = Value.none from ry); exact fin _ (SeqAt.RcNeAt.tuple_none p hu') (by unfold deqD; rfl)
  | bl b => cases (show u = Value.bool b from ry); exact fin _ (SeqAt.RcNeAt.tuple_bool b p hu') (by unfold deqD; rfl)
  | int i => obtain ⟨t, e⟩ := (show ∃ t, u = Value.int i t from ry); subst e; exact fin _ (SeqAt.RcNeAt.tuple_int i t p hu') (by unfold deqD; rfl)
  | str z => obtain ⟨t, e⟩ := (show ∃ t, u = Value.str z t from ry); subst e; exact fin _ (SeqAt.RcNeAt.tuple_str z t p hu') (by unfold deqD; rfl)
  | @lst a2 vs2 ds2 h' hs' =>
   obtain ⟨its2, rv2, p2, _⟩ := I.list h'
   cases (show u = Value.ref a2 from ry)
   exact fin _ (SeqAt.RcNeAt.tuple_list p p2.isList hu') (by unfold deqD; rfl)
  | @tup a2 vs2 ds2 h' hs' =>
   obtain ⟨its2, rv2, p2, _⟩ := I.tuple h'
   cases (show u = Value.ref a2 from ry)
   have l1 := rv.length
   have l2 := rv2.length
   have m1 := hs.length
   have m2 := hs'.length
   refine fin _ (SeqAt.RcNeAt.tuples (A := X.A) (e := fun j => deqD (ds.getD j .non) (ds2.getD j .non)) p p2 hu'
     (eqAt_items rv rv2 hs hs' fun d1 d2 v1 v2 u1 u2 hdd g1 g2 q1 q2 => eqAt_D I 20 X.A.in1 d1 d2 v1 v2 u1 u2 (by omega) hin g1 g2 q1 q2)) ?_
   rw [deqD_tup]
   simp only [List.size_toArray]
   by_cases hz : ds.length = ds2.length
   ·rw [deqDs_all _ _ hz, show its.length = ds.length by omega, show its2.length = ds.length by omega, Nat.min_self, beq_self_eq_true, Bool.and_true]
   ·rw [deqDs_len _ _ hz, show (its.length == its2.length) = false from beq_eq_false_iff_ne.mpr (by omega), Bool.and_false]
end
end L2
namespace L2
open PySem PySem.Spec PyProof.Rows
section
variable {X : Cx} {K : Fg_} {a b o e : Expr} {ta tb to te : TE} {pos : Pos} {tg : Expr}
theorem ix_listK (hK : X.K = K := by rfl) : IxR X (rIxL K) := hK ▸ ix_list
theorem ix_tupK (hK : X.K = K := by rfl) : IxR X (rIxT K) := hK ▸ ix_tup
theorem sl_listK (hK : X.K = K := by rfl) : SlR X (rSlL K) := hK ▸ sl_list
theorem sl_tupK (hK : X.K = K := by rfl) : SlR X (rSlT K) := hK ▸ sl_tup
theorem op_inK (hK : X.K = K := by rfl) : OpR X (compareOp .In) (rIn K false) := hK ▸ op_in_seq
theorem op_notInK (hK : X.K = K := by rfl) : OpR X (compareOp .NotIn) (rIn K true) := hK ▸ op_notIn_seq
theorem op_eqDK {k : Nat} (hr : Room k X.A) (hK : X.K = K := by rfl) : OpR X (compareOp .Eq) (rEqD K) := hK ▸ op_eqD hr
theorem op_neDK {k : Nat} (hr : Room k X.A) (hK : X.K = K := by rfl) : OpR X (compareOp .NotEq) (rNeD K) := hK ▸ op_neD hr
theorem op_catTK (hK : X.K = K := by rfl) : OpR X (binaryOp .Add) (rCatT K) := hK ▸ op_catT
def rLen (K : Fg_) : List V -> Hp -> VK -> Prop := fun xs H Q => ∃ p ys, xs = [.ref p] /\ (SqL K H p ys \/ SqT K H p ys) /\ Q (.int ys.length) H
theorem call_lenK (hK : X.K = K := by rfl) : CallR X (.builtin "len") (rLen K) := hK ▸ call_len_seq
def rSum (K : Fg_) : List V -> Hp -> VK -> Prop := fun xs H Q => ∃ (a : Addr) (ns : List Int), xs = [.ref a] /\ SqL K H a (ns.map V.int) /\ Q (.int ns.sum) H
theorem call_sumK (hc : X.calm = true) (hK : X.K = K := by rfl) : CallR X (.builtin "sum") (rSum K) := hK ▸ call_sumI hc
def rAny (K : Fg_) : List V -> Hp -> VK -> Prop := fun xs H Q => ∃ (a : Addr) (bs : List Bool), xs = [.ref a] /\ SqL K H a (bs.map V.bl) /\ Q (.bl (bs.any id)) H
def rAll (K : Fg_) : List V -> Hp -> VK -> Prop := fun xs H Q => ∃ (a : Addr) (bs : List Bool), xs = [.ref a] /\ SqL K H a (bs.map V.bl) /\ Q (.bl (bs.all id)) H
theorem call_allK (hc : X.calm = true) (hK : X.K = K := by rfl) : CallR X (.builtin "all") (rAll K) := hK ▸ call_allB hc
def rListOf (K : Fg_) : List V -> Hp -> VK -> Prop := fun xs H Q => ∃ p ys, xs = [.ref p] /\ (SqL K H p ys \/ SqT K H p ys) /\ ∀ l, H l = none -> Q (.ref l) (upd H l (.lst ys))
theorem call_listK (hK : X.K = K := by rfl) : CallR X (.type "list") (rListOf K) := hK ▸ call_list_of
def rTupOf (K : Fg_) : List V -> Hp -> VK -> Prop := fun xs H Q => ∃ p ys, xs = [.ref p] /\ ((SqL K H p ys /\ ∀ l, H l = none -> Q (.ref l) (upd H l (.tup ys))) \/ (SqT K H p ys /\ Q (.ref p) H))
theorem call_tupleK (hK : X.K = K := by rfl) : CallR X (.type "tuple") (rTupOf K) := hK ▸ call_tuple_of
def rIsT (K : Fg_) : List V -> Hp -> VK -> Prop := fun xs H Q => ∃ x n t k, xs = [x, .ty n] /\ TyOf K H x t /\ PySem.W.kitOne K t (.type n) = some k /\ Q (.bl k) H
theorem call_isTK (hK : X.K = K := by rfl) : CallR X (.builtin "isinstance") (rIsT K) := hK ▸ call_isinstT
def rIsC (K : Fg_) : List V -> Hp -> VK -> Prop := fun xs H Q => ∃ x C t k, xs = [x, .ref C] /\ TyOf K H x t /\ PySem.W.kitOne K t (.ref C) = some k /\ Q (.bl k) H
theorem call_isCK (hK : X.K = K := by rfl) : CallR X (.builtin "isinstance") (rIsC K) := hK ▸ call_isinstC
def rMax : List V -> Hp -> VK -> Prop := fun xs H Q => ∃ i j, xs = [.int i, .int j] /\ Q (.int (if j > i then j else i)) H
theorem call_maxK (hc : X.calm = true) : CallR X (.builtin "max") rMax := call_max2 hc
def rMin : List V -> Hp -> VK -> Prop := fun xs H Q => ∃ i j, xs = [.int i, .int j] /\ Q (.int (if j < i then j else i)) H
theorem call_minK (hc : X.calm = true) : CallR X (.builtin "min") rMin := call_min2 hc
theorem pi_listK (hl : PE X o to) (hK : X.K = K := by rfl) : PI X tg o (iList K to) := hK ▸ pi_list hl
theorem pi_tupK (hl : PE X o to) (hK : X.K = K := by rfl) : PI X tg o (iTup K to) := hK ▸ pi_tup hl
theorem pg_lstK {es : List Expr} {k : Nat} {t : TGs} {n : Nat} (hc : X.calm = true) (h : PGs X es t) (hn : (assignEach es X.env).length = n := by rfl) (hst : (assignEach es X.env).findIdx? (·.1) = none := by rfl) (hK : X.K = K := by rfl) : PG X (.Tuple es k pos) (gLst K n t) := hK ▸ pg_lst hc h hn hst
theorem pg_tupK {es : List Expr} {k : Nat} {t : TGs} {n : Nat} (hc : X.calm = true) (h : PGs X es t) (hn : (assignEach es X.env).length = n := by rfl) (hst : (assignEach es X.env).findIdx? (·.1) = none := by rfl) (hK : X.K = K := by rfl) : PG X (.Tuple es k pos) (gTup K n t) := hK ▸ pg_tup hc h hn hst
theorem pe_fldK {f : Str} (he : PE X e ta) (hb : attributeBase e f X.env (eval e X.env) = eval e X.env) (hK : X.K = K := by rfl) : PE X (.Attribute e f pos) (tFld K ta f) := hK ▸ pe_fld he hb
theorem pe_bmK {T : String} {name : Str} {id : String} {r : V -> List V -> Hp -> VK -> Prop} {es : List Expr} {t : TA} {apos cpos : Pos} (pa : PlainAttrs T) (slot : Slot T name id) (hty : typeOf (.builtin id) = pure (.type "method_descriptor")) (hm : MtR X id r) (ho : PE X o to) (ha : PA X (e :: es) t)
  (hbase : attributeBase o name X.env (eval o X.env) = eval o X.env := by rfl)
  (hfew : ((backTo cpos (starEach (e :: es) X.env)).all (fun x => !x.1) && (backToKw cpos (keywordEach [] X.env)).all (fun x => x.1.isSome)
   && decide ((e :: es).length + ([] : List Keyword).length + (if ([] : List Keyword).isEmpty then 0 else 1) < 30)) = true := by rfl)
  (hline : (apos.endLine == cpos.line) = true := by rfl) (hs : starEach (e :: es) X.env = (false, eval e X.env) :: starEach es X.env := by rfl) (hplain : (backTo cpos (starEach es X.env)).any (·.1) = false := by rfl) (hK : X.K = K := by rfl) :
  PE X (.Call (.Attribute o name apos) (e :: es) [] cpos) (tBM K T r to t) := hK ▸ pe_bm pa slot hty hm ho ha hbase hfew hline hs hplain
theorem pe_bm0K {T : String} {name : Str} {id : String} {r : V -> List V -> Hp -> VK -> Prop} {apos cpos : Pos} (pa : PlainAttrs T) (slot : Slot T name id) (hty : typeOf (.builtin id) = pure (.type "method_descriptor")) (hm : MtR X id r) (ho : PE X o to)
  (hbase : attributeBase o name X.env (eval o X.env) = eval o X.env := by rfl) (hline : (apos.endLine == cpos.line) = true := by rfl) (hK : X.K = K := by rfl) : PE X (.Call (.Attribute o name apos) [] [] cpos) (tBM0 K T r to) := hK ▸ pe_bm0 pa slot hty hm ho hbase hline
end
section
variable {K : Fg_} {H : Hp} {Q : VK} {p : Addr} {x y : V}
theorem ap_noIf {σ : St} {QB : Bool -> Hp -> Prop} : tNoIf σ H QB = QB true H := rfl
theorem ap_rLen : rLen K [.ref p] H Q = ∃ ys, (SqL K H p ys \/ SqT K H p ys) /\ Q (.int (ys.length : Int)) H := by simp [rLen]
theorem ap_rSum : rSum K [.ref p] H Q = ∃ ns : List Int, SqL K H p (ns.map V.int) /\ Q (.int ns.sum) H := by simp [rSum]
theorem ap_rAll : rAll K [.ref p] H Q = ∃ bs : List Bool, SqL K H p (bs.map V.bl) /\ Q (.bl (bs.all id)) H := by simp [rAll]
theorem ap_rListOf : rListOf K [.ref p] H Q = ∃ ys, (SqL K H p ys \/ SqT K H p ys) /\ ∀ l, H l = none -> Q (.ref l) (upd H l (.lst ys)) := by simp [rListOf]
theorem ap_rIsT {n : String} : rIsT K [x, .ty n] H Q = ∃ t k, TyOf K H x t /\ PySem.W.kitOne K t (.type n) = some k /\ Q (.bl k) H := propext ⟨fun ⟨x', n', t, k, e, h⟩ => by
  injection e with e1 e2
  injection e2 with e2 _
  injection e2 with e2
  subst e1 e2
  exact ⟨t, k, h⟩, fun ⟨t, k, h⟩ => ⟨x, n, t, k, rfl, h⟩⟩
theorem ap_append : rAppend (.ref p) [y] H Q = ∃ xs, H p = some (.lst xs) /\ xs.length < sizeLine /\ Q .non (upd H p (.lst (xs ++ [y]))) := by simp [rAppend]
theorem ap_rCat {l b : Addr} : rCat (.ref l) (.ref b) H Q = ∃ xs zs, H l = some (.lst xs) /\ H b = some (.lst zs) /\ xs.length + zs.length <= sizeLine /\ ∀ p, H p = none -> Q (.ref p) (upd H p (.lst (xs ++ zs))) := by simp [rCat]
theorem ap_rMax {i j : Int} : rMax [.int i, .int j] H Q = Q (.int (if j > i then j else i)) H := propext ⟨fun ⟨i', j', e, h⟩ => by cases e; exact h, fun h => ⟨i, j, rfl, h⟩⟩
theorem ap_rMin {i j : Int} : rMin [.int i, .int j] H Q = Q (.int (if j < i then j else i)) H := propext ⟨fun ⟨i', j', e, h⟩ => by cases e; exact h, fun h => ⟨i, j, rfl, h⟩⟩
end
end L2
namespace L2
open PySem PySem.Spec PyProof.Rows
section
variable {K : Fg_} {a : Addr} {xs : List V} {g : TG} {tb : TS} {D : Ends} {σ : St} {H : Hp} {wi : TI} {cap : List (Option Nat)} {tt : TT} {te tl : TE} {Q : VK} {ta : TA} {R : It -> Hp -> Prop}
def ForP (J : It) (g : TG) (tb : TS) (D : Ends) (σ : St) (H1 : Hp) : Prop := ∃ W : Nat -> Nat -> St -> Hp -> Prop, (∃ m, W 0 m σ H1) /\ ∀ i m σ H, W i m σ H ->
 (J.stop i H /\ D.nx σ H) \/ (J.go i H /\ ∃ N : St -> Hp -> Prop, (∀ σ' H', N σ' H' -> ∃ m', m' < m /\ W (i + 1) m' σ' H') /\ ∀ x H', J.yld i H x H' -> g x σ H' fun σ2 H2 => tb { D with nx := N, ct := N, bk := D.nx } σ2 H2)
theorem ap_for : tFor wi g tb D σ H = wi σ H fun J H1 => ForP J g tb D σ H1 := rfl
theorem ForP.list (Pv : Nat -> St -> Hp -> Prop) (h0 : Pv 0 σ H) (hl : ∀ i σ H, i <= xs.length -> Pv i σ H -> SqL K H a xs)
  (hs : ∀ i x σ H, xs[i]? = some x -> Pv i σ H -> g x σ H fun σ2 H2 => tb { D with nx := Pv (i + 1), ct := Pv (i + 1), bk := D.nx } σ2 H2) (hd : ∀ σ H, Pv xs.length σ H -> D.nx σ H) : ForP (Itl K a) g tb D σ H := for_list Pv h0 hl hs hd
theorem ForP.range {lo : Int} {n : Nat} (Pv : Nat -> St -> Hp -> Prop) (h0 : Pv 0 σ H)
  (hs : ∀ i σ H, i < n -> Pv i σ H -> g (.int (lo + i)) σ H fun σ2 H2 => tb { D with nx := Pv (i + 1), ct := Pv (i + 1), bk := D.nx } σ2 H2) (hd : ∀ σ H, Pv n σ H -> D.nx σ H) : ForP (Itr lo n) g tb D σ H := for_range Pv h0 hs hd
theorem ap_iList : iList K tl σ H R = tl σ H fun x H1 => ∃ a, x = .ref a /\ (∃ xs, SqL K H1 a xs) /\ R (Itl K a) H1 := rfl
theorem ap_iTup : iTup K tl σ H R = tl σ H fun x H1 => ∃ a, x = .ref a /\ (∃ xs, SqT K H1 a xs) /\ R (Itt K a) H1 := rfl
theorem ap_iRng1 : iRng1 ta σ H R = ta σ H fun vs H1 => ∃ j : Int, vs = [.int j] /\ -(2 ^ 62) <= j /\ j < 2 ^ 62 /\ R (Itr 0 j.toNat) H1 := rfl
def CompP (cap : List (Option Nat)) (J : It) (g : TG) (tt : TT) (te : TE) (σ : St) (H1 : Hp) (Q : VK) : Prop := ∀ D, H1 D = Option.none ->
 ∃ W : Nat -> Nat -> List V -> St -> Hp -> Prop, (∃ m, W 0 m [] (capSt σ cap) (upd H1 D (.lst []))) /\ ∀ i m acc σ1 H2, W i m acc σ1 H2 -> H2 D = some (.lst acc) ->
  (J.stop i H2 /\ Q (.ref D) H2) \/ (J.go i H2 /\ ∀ x H3, J.yld i H2 x H3 -> g x σ1 H3 fun σ4 H4 => tt σ4 H4 fun b H5 =>
   if b = true then te σ4 H5 fun v H6 => ∃ acc', H6 D = some (.lst acc') /\ acc'.length < sizeLine /\ ∃ m', m' < m /\ W (i + 1) m' (acc' ++ [v]) σ4 (upd H6 D (.lst (acc' ++ [v])))
   else ∃ m', m' < m /\ ∃ acc', H5 D = some (.lst acc') /\ W (i + 1) m' acc' σ4 H5)
theorem ap_comp : tComp cap wi g tt te σ H Q = wi σ H fun J H1 => CompP cap J g tt te σ H1 Q := rfl
theorem CompP.list (Sσ : St -> Prop) (p : V -> Bool) (F : V -> V) (hS : SqL K H a xs) (h0 : Sσ (capSt σ cap)) (hz : xs.length <= sizeLine)
  (hs : ∀ x ∈ xs, ∀ (σ : St) (H5 : Hp) (R1 : St -> VK) (R2 : St -> Hp -> Prop), Sσ σ -> Same H H5 -> (p x = true -> ∀ σ4 H6, Sσ σ4 -> Same H5 H6 -> R1 σ4 (F x) H6) -> (p x = false -> ∀ σ4 H6, Sσ σ4 -> Same H5 H6 -> R2 σ4 H6) ->
   g x σ H5 fun σ4 H4 => tt σ4 H4 fun b H5 => if b = true then te σ4 H5 (R1 σ4) else R2 σ4 H5)
  (k : ∀ D H', H D = Option.none -> Same H H' -> H' D = some (.lst ((xs.filter p).map F)) -> Q (.ref D) H') : CompP cap (Itl K a) g tt te σ H Q :=
 fun D hD => comp_list Sσ p F hS hD h0 hz hs fun H' s e => k D H' hD s e
theorem CompP.range {lo : Int} {n : Nat} (Sσ : St -> Prop) (p : V -> Bool) (F : V -> V) (h0 : Sσ (capSt σ cap)) (hz : n <= sizeLine)
  (hs : ∀ i : Nat, i < n -> ∀ (σ : St) (H5 : Hp) (R1 : St -> VK) (R2 : St -> Hp -> Prop), Sσ σ -> Same H H5 -> (p (.int (lo + i)) = true -> ∀ σ4 H6, Sσ σ4 -> Same H5 H6 -> R1 σ4 (F (.int (lo + i))) H6) -> (p (.int (lo + i)) = false -> ∀ σ4 H6, Sσ σ4 -> Same H5 H6 -> R2 σ4 H6) ->
   g (.int (lo + i)) σ H5 fun σ4 H4 => tt σ4 H4 fun b H5 => if b = true then te σ4 H5 (R1 σ4) else R2 σ4 H5)
  (k : ∀ D H', H D = Option.none -> Same H H' -> H' D = some (.lst ((((List.range n).map fun (i : Nat) => V.int (lo + i)).filter p).map F)) -> Q (.ref D) H') : CompP cap (Itr lo n) g tt te σ H Q :=
 fun D hD => comp_range Sσ p F hD h0 hz hs fun H' s e => k D H' hD s e
theorem cut_none (xs : List V) (n : Nat) : cutV xs none (some (n : Int)) = xs.take n := by
 unfold cutV
 rw [HT.sIx_none, HT.sIx_nat, List.drop_zero, Nat.sub_zero]
 rcases Nat.le_total n xs.length with h | h
 ·rw [Nat.min_eq_left h]
 ·rw [Nat.min_eq_right h, List.take_of_length_le h, List.take_of_length_le (Nat.le_refl _)]
end
end L2
namespace L2
open PySem PySem.Spec PyProof.Rows
def MonoE (t : TE) : Prop := ∀ σ H (Q Q' : VK), (∀ v H', Q v H' -> Q' v H') -> t σ H Q -> t σ H Q'
def MonoT (t : TT) : Prop := ∀ σ H (Q Q' : Bool -> Hp -> Prop), (∀ v H', Q v H' -> Q' v H') -> t σ H Q -> t σ H Q'
def MonoA (t : TA) : Prop := ∀ σ H (Q Q' : List V -> Hp -> Prop), (∀ v H', Q v H' -> Q' v H') -> t σ H Q -> t σ H Q'
def MonoO (t : TO) : Prop := ∀ σ H (Q Q' : Option Int -> Hp -> Prop), (∀ v H', Q v H' -> Q' v H') -> t σ H Q -> t σ H Q'
def MonoR (r : R2) : Prop := ∀ x y H (Q Q' : VK), (∀ v H', Q v H' -> Q' v H') -> r x y H Q -> r x y H Q'
def MonoU (r : V -> Hp -> VK -> Prop) : Prop := ∀ x H (Q Q' : VK), (∀ v H', Q v H' -> Q' v H') -> r x H Q -> r x H Q'
def MonoC (r : List V -> Hp -> VK -> Prop) : Prop := ∀ xs H (Q Q' : VK), (∀ v H', Q v H' -> Q' v H') -> r xs H Q -> r xs H Q'
def MonoM (r : V -> List V -> Hp -> VK -> Prop) : Prop := ∀ x xs H (Q Q' : VK), (∀ v H', Q v H' -> Q' v H') -> r x xs H Q -> r x xs H Q'
def MonoL (r : V -> Option Int -> Option Int -> Hp -> VK -> Prop) : Prop := ∀ x l u H (Q Q' : VK), (∀ v H', Q v H' -> Q' v H') -> r x l u H Q -> r x l u H Q'
def MonoG (g : TG) : Prop := ∀ v σ H (Q Q' : St -> Hp -> Prop), (∀ σ H, Q σ H -> Q' σ H) -> g v σ H Q -> g v σ H Q'
def MonoGs (g : TGs) : Prop := ∀ v σ H (Q Q' : St -> Hp -> Prop), (∀ σ H, Q σ H -> Q' σ H) -> g v σ H Q -> g v σ H Q'
def MonoI (wi : TI) : Prop := ∀ σ H (R R' : It -> Hp -> Prop), (∀ J H', R J H' -> R' J H') -> wi σ H R -> wi σ H R'
def MonoP (sp : Sp) : Prop := ∀ vs H (Q Q' : VK) (E : XK), (∀ v H', Q v H' -> Q' v H') -> sp vs H Q E -> sp vs H Q' E
structure LeE (D D' : Ends) : Prop where
 nx : ∀ σ H, D.nx σ H -> D'.nx σ H
 rt : ∀ v H, D.rt v H -> D'.rt v H
 bk : ∀ σ H, D.bk σ H -> D'.bk σ H
 ct : ∀ σ H, D.ct σ H -> D'.ct σ H
def MonoS (t : TS) : Prop := ∀ D D' σ H, LeE D D' -> t D σ H -> t D' σ H
section
variable {t u : TS} {te ta tb tc : TE} {tt tu : TT} {A : TA} {g : TG} {gs : TGs} {r r' : R2} {i n : Nat} {v : V} {K : Fg_} {wi : TI}
theorem mn_var : MonoE (tVar i) := fun _ _ _ _ f ⟨v, e, q⟩ => ⟨v, e, f _ _ q⟩
theorem mn_c : MonoE (tC v) := fun _ _ _ _ f q => f _ _ q
theorem mn_op (hr : MonoR r) (ha : MonoE ta) (hb : MonoE tb) : MonoE (tOp r ta tb) := fun σ H _ _ f q => ha σ H _ _ (fun x H1 q1 => hb σ H1 _ _ (fun y H2 q2 => hr x y H2 _ _ f q2) q1) q
theorem mn_un {r : V -> Hp -> VK -> Prop} (hr : MonoU r) (ha : MonoE ta) : MonoE (tUn r ta) := fun σ H _ _ f q => ha σ H _ _ (fun x H1 q1 => hr x H1 _ _ f q1) q
theorem mn_rI {C : Int -> Int -> Prop} {f : Int -> Int -> V} : MonoR (rI C f) := fun _ _ _ _ _ k ⟨i, j, e1, e2, c, q⟩ => ⟨i, j, e1, e2, c, k _ _ q⟩
theorem mn_rI0 {f : Int -> Int -> V} : MonoR (rI0 f) := fun _ _ _ _ _ k ⟨i, j, e1, e2, q⟩ => ⟨i, j, e1, e2, k _ _ q⟩
theorem mn_rU {f : Int -> V} : MonoU (rU f) := fun _ _ _ _ k ⟨i, e1, q⟩ => ⟨i, e1, k _ _ q⟩
theorem mn_rEq : MonoR rEq := fun _ _ _ _ _ k ⟨s, q⟩ => ⟨s, k _ _ q⟩
theorem mn_rNe : MonoR rNe := fun _ _ _ _ _ k ⟨s, q⟩ => ⟨s, k _ _ q⟩
theorem mn_rEqD : MonoR (rEqD K) := fun _ _ _ _ _ k ⟨a, b, c, d, e, f, q⟩ => ⟨a, b, c, d, e, f, k _ _ q⟩
theorem mn_rNeD : MonoR (rNeD K) := fun _ _ _ _ _ k ⟨a, b, c, d, e, f, q⟩ => ⟨a, b, c, d, e, f, k _ _ q⟩
theorem mn_ixL : MonoR (rIxL K) := fun _ _ _ _ _ k ⟨p, xs, i, v, a, b, c, d, q⟩ => ⟨p, xs, i, v, a, b, c, d, k _ _ q⟩
theorem mn_ixT : MonoR (rIxT K) := fun _ _ _ _ _ k ⟨p, xs, i, v, a, b, c, d, q⟩ => ⟨p, xs, i, v, a, b, c, d, k _ _ q⟩
theorem mn_in {b : Bool} : MonoR (rIn K b) := fun _ _ _ _ _ k ⟨p, xs, a, b, c, d, q⟩ => ⟨p, xs, a, b, c, d, k _ _ q⟩
theorem mn_isN : MonoR (fun x y H Q => y = V.non /\ Q (.bl (decide (x = .non))) H) := fun _ _ _ _ _ k ⟨e, q⟩ => ⟨e, k _ _ q⟩
theorem mn_notN : MonoR (fun x y H Q => y = V.non /\ Q (.bl (!decide (x = .non))) H) := fun _ _ _ _ _ k ⟨e, q⟩ => ⟨e, k _ _ q⟩
theorem mn_cat : MonoR rCat := fun _ _ _ _ _ k ⟨a, b, c, d, e, f, g, h, i, q⟩ => ⟨a, b, c, d, e, f, g, h, i, fun p hp => k _ _ (q p hp)⟩
theorem mn_test (h : MonoE te) : MonoT (tTest te) := fun σ H _ _ f q => h σ H _ _ (fun x H1 ⟨k, e, q1⟩ => ⟨k, e, f _ _ q1⟩) q
theorem mn_tB (h : MonoE te) : MonoT (tB te) := fun σ H _ _ f q => h σ H _ _ (fun x H1 ⟨k, e, q1⟩ => ⟨k, e, f _ _ q1⟩) q
theorem mn_not (h : MonoT tt) : MonoT (tNot tt) := fun σ H _ _ f q => h σ H _ _ (fun c H1 q1 => f _ _ q1) q
theorem mn_and (h : MonoT tt) (h2 : MonoT tu) : MonoT (tAnd tt tu) := fun σ H _ _ f q => h σ H _ _ (fun c H1 q1 => by
 cases c with
 | true => exact h2 σ H1 _ _ f q1
 | false => exact f _ _ q1) q
theorem mn_or (h : MonoT tt) (h2 : MonoT tu) : MonoT (tOr tt tu) := fun σ H _ _ f q => h σ H _ _ (fun c H1 q1 => by
 cases c with
 | true => exact f _ _ q1
 | false => exact h2 σ H1 _ _ f q1) q
theorem mn_nil : MonoA tNil := fun _ _ _ _ f q => f _ _ q
theorem mn_cons (h : MonoE ta) (h2 : MonoA A) : MonoA (tCons ta A) := fun σ H _ _ f q => h σ H _ _ (fun x H1 q1 => h2 σ H1 _ _ (fun xs H2 q2 => f _ _ q2) q1) q
theorem mn_cb {r : List V -> Hp -> VK -> Prop} (hr : MonoC r) (h : MonoA A) : MonoE (tCB r A) := fun σ H _ _ f q => h σ H _ _ (fun x H1 q1 => hr _ _ _ _ f q1) q
theorem mn_call {sp : Sp} {dvs : List V} {E : XK} (hr : MonoP sp) (h : MonoA A) : MonoE (tCall sp dvs E A) := fun σ H _ _ f q => h σ H _ _ (fun x H1 q1 => hr _ _ _ _ _ f q1) q
theorem mn_lst (h : MonoA A) : MonoE (tLst A) := fun σ H _ _ f q => h σ H _ _ (fun x H1 ⟨z, q1⟩ => ⟨z, fun p hp => f _ _ (q1 p hp)⟩) q
theorem mn_tup (h : MonoA A) : MonoE (tTup A) := fun σ H _ _ f q => h σ H _ _ (fun x H1 ⟨z, q1⟩ => ⟨z, fun p hp => f _ _ (q1 p hp)⟩) q
theorem mn_len : MonoC (rLen K) := fun _ _ _ _ k ⟨p, ys, a, b, q⟩ => ⟨p, ys, a, b, k _ _ q⟩
theorem mn_sum : MonoC (rSum K) := fun _ _ _ _ k ⟨p, ys, a, b, q⟩ => ⟨p, ys, a, b, k _ _ q⟩
theorem mn_any : MonoC (rAny K) := fun _ _ _ _ k ⟨p, ys, a, b, q⟩ => ⟨p, ys, a, b, k _ _ q⟩
theorem mn_all : MonoC (rAll K) := fun _ _ _ _ k ⟨p, ys, a, b, q⟩ => ⟨p, ys, a, b, k _ _ q⟩
theorem mn_max : MonoC rMax := fun _ _ _ _ k ⟨p, ys, a, q⟩ => ⟨p, ys, a, k _ _ q⟩
theorem mn_min : MonoC rMin := fun _ _ _ _ k ⟨p, ys, a, q⟩ => ⟨p, ys, a, k _ _ q⟩
theorem mn_listOf : MonoC (rListOf K) := fun _ _ _ _ k ⟨p, ys, a, b, q⟩ => ⟨p, ys, a, b, fun l hl => k _ _ (q l hl)⟩
theorem mn_isT : MonoC (rIsT K) := fun _ _ _ _ k ⟨x, n, t, kk, a, b, c, q⟩ => ⟨x, n, t, kk, a, b, c, k _ _ q⟩
theorem mn_isC : MonoC (rIsC K) := fun _ _ _ _ k ⟨x, n, t, kk, a, b, c, q⟩ => ⟨x, n, t, kk, a, b, c, k _ _ q⟩
theorem mn_noPart : MonoO tNoPart := fun _ _ _ _ f q => f _ _ q
theorem mn_part (h : MonoE te) : MonoO (tPart te) := fun σ H _ _ f q => h σ H _ _ (fun x H1 ⟨i, e, q1⟩ => ⟨i, e, f _ _ q1⟩) q
theorem mn_sl {r : V -> Option Int -> Option Int -> Hp -> VK -> Prop} {tl th : TO} (hr : MonoL r) (h : MonoE te) (hl : MonoO tl) (hh : MonoO th) : MonoE (tSl r te tl th) := fun σ H _ _ f q =>
 h σ H _ _ (fun x H1 q1 => hl σ H1 _ _ (fun l H2 q2 => hh σ H2 _ _ (fun u H3 q3 => hr _ _ _ _ _ _ f q3) q2) q1) q
theorem mn_slL : MonoL (rSlL K) := fun _ _ _ _ _ _ k ⟨a, xs, e, h, q⟩ => ⟨a, xs, e, h, fun p hp => k _ _ (q p hp)⟩
theorem mn_bm {T : String} {r : V -> List V -> Hp -> VK -> Prop} (hr : MonoM r) (h : MonoE te) (hA : MonoA A) : MonoE (tBM K T r te A) := fun σ H _ _ f q => h σ H _ _ (fun x H1 ⟨ty, q1⟩ => ⟨ty, hA σ H1 _ _ (fun xs H2 q2 => hr _ _ _ _ _ f q2) q1⟩) q
theorem mn_bm0 {T : String} {r : V -> List V -> Hp -> VK -> Prop} (hr : MonoM r) (h : MonoE te) : MonoE (tBM0 K T r te) := fun σ H _ _ f q => h σ H _ _ (fun x H1 ⟨ty, q1⟩ => ⟨ty, hr _ _ _ _ _ f q1⟩) q
theorem mn_append : MonoM rAppend := fun _ _ _ _ _ k ⟨l, xs, y, a, b, c, d, q⟩ => ⟨l, xs, y, a, b, c, d, k _ _ q⟩
theorem mn_chain (h1 : MonoR r) (h2 : MonoR r') (ha : MonoE ta) (hb : MonoE tb) (hc : MonoE tc) : MonoE (tChain r r' ta tb tc) := fun σ H _ _ f q =>
 ha σ H _ _ (fun x H1 q1 => hb σ H1 _ _ (fun y H2 q2 => h1 x y H2 _ _ (fun z H3 ⟨k, e, q3⟩ => ⟨k, e, by
  cases k with
  | true => exact hc σ H3 _ _ (fun w' H4 q4 => h2 y w' H4 _ _ f q4) q3
  | false => exact f _ _ q3⟩) q2) q1) q
theorem mn_andV (ha : MonoE ta) (hb : MonoE tb) : MonoE (tAndV ta tb) := fun σ H _ _ f q => ha σ H _ _ (fun x H1 ⟨c, e, q1⟩ => ⟨c, e, by
 cases c with
 | true => exact hb σ H1 _ _ f q1
 | false => exact f _ _ q1⟩) q
theorem mn_orV (ha : MonoE ta) (hb : MonoE tb) : MonoE (tOrV ta tb) := fun σ H _ _ f q => ha σ H _ _ (fun x H1 ⟨c, e, q1⟩ => ⟨c, e, by
 cases c with
 | true => exact f _ _ q1
 | false => exact hb σ H1 _ _ f q1⟩) q
theorem mn_notV (ha : MonoE ta) : MonoE (tNotV ta) := fun σ H _ _ f q => ha σ H _ _ (fun x H1 ⟨c, e, q1⟩ => ⟨c, e, f _ _ q1⟩) q
theorem mn_ifE (h : MonoT tt) (ha : MonoE ta) (hb : MonoE tb) : MonoE (tIf tt ta tb) := fun σ H _ _ f q => h σ H _ _ (fun c H1 q1 => by
 cases c with
 | true => exact ha σ H1 _ _ f q1
 | false => exact hb σ H1 _ _ f q1) q
theorem mn_name : MonoG (gName i) := fun _ _ _ _ _ f q => f _ _ q
theorem mn_gNil : MonoGs gNil := fun _ _ _ _ _ f ⟨e, q⟩ => ⟨e, f _ _ q⟩
theorem mn_gCons (h : MonoG g) (h2 : MonoGs gs) : MonoGs (gCons g gs) := fun _ σ H _ _ f ⟨v, r, e, q⟩ => ⟨v, r, e, h _ _ _ _ _ (fun σ1 H1 q1 => h2 _ _ _ _ _ f q1) q⟩
theorem mn_gLst (h : MonoGs gs) : MonoG (gLst K n gs) := fun _ _ _ _ _ f ⟨a, xs, e, s, l, q⟩ => ⟨a, xs, e, s, l, h _ _ _ _ _ f q⟩
theorem mn_gTup (h : MonoGs gs) : MonoG (gTup K n gs) := fun _ _ _ _ _ f ⟨a, xs, e, s, l, q⟩ => ⟨a, xs, e, s, l, h _ _ _ _ _ f q⟩
theorem mn_next : MonoS tNext := fun _ _ _ _ f q => f.nx _ _ q
theorem mn_nxE : MonoS Ends.nx := fun _ _ _ _ f q => f.nx _ _ q
theorem mn_never : MonoS tNever := fun _ _ _ _ _ q => q
theorem mn_break : MonoS tBreak := fun _ _ _ _ f q => f.bk _ _ q
theorem mn_cont : MonoS tCont := fun _ _ _ _ f q => f.ct _ _ q
theorem mn_ret (h : MonoE te) : MonoS (tRet te) := fun _ _ σ H f q => h σ H _ _ f.rt q
theorem mn_retN : MonoS tRetN := fun _ _ _ _ f q => f.rt _ _ q
theorem mn_drop (h : MonoE te) : MonoS (tDrop te) := fun _ _ σ H f q => h σ H _ _ (fun _ H1 q1 => f.nx _ _ q1) q
theorem mn_asg (h : MonoE te) (hg : MonoG g) : MonoS (tAsg te g) := fun _ _ σ H f q => h σ H _ _ (fun x H1 q1 => hg _ _ _ _ _ f.nx q1) q
theorem mn_seq (h : MonoS t) (h2 : MonoS u) : MonoS (tSeq t u) := fun D D' σ H f q => h { D with nx := u D } { D' with nx := u D' } σ H ⟨fun σ1 H1 q1 => h2 D D' σ1 H1 f q1, f.rt, f.bk, f.ct⟩ q
theorem mn_if (h : MonoT tt) (ht : MonoS t) (hu : MonoS u) : MonoS (tIfS tt t u) := fun _ _ σ H f q => h σ H _ _ (fun c H1 q1 => by
 cases c with
 | true => exact ht _ _ σ H1 f q1
 | false => exact hu _ _ σ H1 f q1) q
theorem seq_join {D : Ends} {σ : St} {H : Hp} (P : St -> Hp -> Prop) (m : MonoS t) (h : t { D with nx := P } σ H) (k : ∀ σ' H', P σ' H' -> u D σ' H') : tSeq t u D σ H :=
 m { D with nx := P } { D with nx := u D } σ H ⟨k, fun _ _ q => q, fun _ _ q => q, fun _ _ q => q⟩ h
end
end L2
namespace L2
open PySem PySem.Spec PyProof.Rows
section
variable {X : Cx} {pins : List (Addr × Obj)} {σ : St} {H : Hp} {s : Shared} {h' : Heap}
theorem Inv.turnedN {t' : Nat} {fp : List Addr} (I : Inv X pins σ H s) (hf : ∀ b ∈ fp, FpOk X pins H b) (k : ∀ b o, b ∉ fp -> s.heap.get? b = some o -> h'.get? b = some o) : Inv X pins σ H { s with heap := h', toks := t' } := by
 have nit : ∀ b u, H b = some u -> b ∉ fp := fun b u e z => by rw [(hf b z).1] at e; cases e
 refine I.step (g' := s.gens) (d' := s.drawn) (ch := fp) (fun b hb => ⟨(hf b hb).2.2.2.1, (hf b hb).2.1, (hf b hb).2.2.2.2.1, (hf b hb).2.2.2.2.2⟩) (fun b o _ _ hc e _ => k b o hc e) (fun b o _ _ hc e _ => ⟨o.slots, k b o hc e⟩) (fun _ _ _ _ n => n)
  (fun b o hc e => ⟨o, k b o hc e⟩) (fun _ _ e => e) (fun _ _ _ e => e) (fun b ps e => ⟨#[], by rw [e]; simp⟩) (fun m hm => ?_) (fun b u e => ?_) I.bare
 ·obtain ⟨o, es, ep, ho, r⟩ := hm
  exact ⟨o, es, ep, k _ o (fun z => (hf _ z).2.1 rfl) ho, r⟩
 ·refine (I.hok b u e).stay (fun c v hc q => k c v ?_ q) (fun _ q => q) fun _ _ q => q
  rcases hc with z | z
  ·rw [z]; exact nit b u e
  ·exact nit c _ z
theorem Inv.turnedT {t' : Nat} {fp : List Addr} {T : Addr} {o : HO} (I : Inv X pins σ H s) (hf : ∀ b ∈ fp, FpOk X pins H b) (hT : s.heap.objs.size <= T) (k : ∀ b o, b ∉ fp -> s.heap.get? b = some o -> h'.get? b = some o)
  (new : ObjOk X.prog X.w (upd H T o) h' T o) : Inv X pins σ (upd H T o) { s with heap := h', toks := t' } := by
 have nit : ∀ b u, H b = some u -> b ∉ fp := fun b u e z => by rw [(hf b z).1] at e; cases e
 have hn : H T = none := I.hok.fresh hT
 refine I.step (g' := s.gens) (d' := s.drawn) (ch := fp) (fun b hb => ⟨(hf b hb).2.2.2.1, (hf b hb).2.1, (hf b hb).2.2.2.2.1, (hf b hb).2.2.2.2.2⟩) (fun b o _ _ hc e _ => k b o hc e) (fun b o _ _ hc e _ => ⟨o.slots, k b o hc e⟩)
  (fun b o _ e n => by rw [upd_ne (Nat.ne_of_lt (Nat.lt_of_lt_of_le (Heap.lt_size e) hT))]; exact n)
  (fun b o hc e => ⟨o, k b o hc e⟩) (fun b xs e => by rw [upd_ne (ne_of_none e hn)]; exact e) (fun b o xs e => by rw [upd_ne (ne_of_none e hn)]; exact e) (fun b ps e => ⟨#[], by rw [upd_ne (ne_of_none e hn), e]; simp⟩) (fun m hm => ?_) (fun b u e => ?_) I.bare
 ·obtain ⟨o, es, ep, ho, r⟩ := hm
  exact ⟨o, es, ep, k _ o (fun z => (hf _ z).2.1 rfl) ho, r⟩
 ·by_cases hb : b = T
  ·subst hb; rw [upd_same] at e; cases e; exact new
  ·rw [upd_ne hb] at e
   refine (I.hok b u e).stay (fun c v hc q => k c v ?_ q) (fun c q => by rw [upd_ne (ne_of_none q hn)]; exact q) fun c xs q => by rw [upd_ne (ne_of_none q hn)]; exact q
   rcases hc with z | z
   ·rw [z]; exact nit b u e
   ·exact nit c _ z
end
theorem ne_cls {h : Heap} {a b : Addr} {oa ob : Obj} {ca cb : Value} (ha : h.get? a = some oa) (hb : h.get? b = some ob) (ea : oa.cls = ca) (eb : ob.cls = cb) (hc : ca ≠ cb) : a ≠ b := by
 intro e; subst e; rw [ha] at hb; cases hb; exact hc (ea.symm.trans eb)
def Itz (K : Fg_) (a b : Addr) : It :=
 ⟨fun i H => ∃ xs ys x y, SqL K H a xs /\ SqL K H b ys /\ xs[i]? = some x /\ ys[i]? = some y,
   fun i H v H' => ∃ p x y, H p = none /\ v = .ref p /\ H' = upd H p (.tup [x, y]) /\ (∀ xs, SqL K H a xs -> xs[i]? = some x) /\ ∀ ys, SqL K H b ys -> ys[i]? = some y,
   fun i H => ∃ xs ys, SqL K H a xs /\ SqL K H b ys /\ (xs.length <= i \/ ys.length <= i)⟩
theorem zipApart_of {h : Heap} {z TI TO i1 i2 a b : Addr} {f0 u v : Value} {xs ys : Array Value} {j1 j2 : Nat} (hTT : TI ≠ TO) (h12 : i1 ≠ i2) (hz : IsZip h z TI TO f0) (hTI : IsPair h TI (.ref i1) (.ref i2)) (hTO : IsPair h TO u v)
  (h1 : h.IsListIter i1 a j1) (h2 : h.IsListIter i2 b j2) (p1 : h.IsList a xs) (p2 : h.IsList b ys) : ZipApart z TI TO i1 i2 a b := by
 obtain ⟨o1, e1, c1, _⟩ := h1
 obtain ⟨o2, e2, c2, _⟩ := h2
 obtain ⟨l1, f1, d1, _⟩ := p1
 obtain ⟨l2, f2, d2, _⟩ := p2
 exact ⟨ne_cls hTI hz rfl rfl (by simp), ne_cls hTO hz rfl rfl (by simp), ne_cls e1 hz c1 rfl (by simp), ne_cls e2 hz c2 rfl (by simp), hTT, ne_cls hTI e1 rfl c1 (by simp), ne_cls hTI e2 rfl c2 (by simp), ne_cls hTO e1 rfl c1 (by simp), ne_cls hTO e2 rfl c2 (by simp), h12,
  ne_cls f1 hz d1 rfl (by simp), ne_cls f1 hTO d1 rfl (by simp), ne_cls f1 e1 d1 c1 (by simp), ne_cls f1 e2 d1 c2 (by simp), ne_cls f2 hz d2 rfl (by simp), ne_cls f2 hTO d2 rfl (by simp), ne_cls f2 e1 d2 c1 (by simp), ne_cls f2 e2 d2 c2 (by simp)⟩
theorem turn_zip {P : Program} {w : World} {K : Fg_} {elts : List Expr} {x1 : Nat} {pos : Pos} (a b z TI TO i1 i2 : Addr) (hTT : TI ≠ TO) (h12 : i1 ≠ i2) :
  Turn P w K (.Tuple elts x1 pos) (Itz K a b) [z, TI, TO, i1, i2] z (fun i h => IsZip h z TI TO .none /\ IsPair h TI (.ref i1) (.ref i2) /\ (∃ u v, IsPair h TO u v) /\ h.IsListIter i1 a i /\ h.IsListIter i2 b i) where
 mem := by simp
 obj := fun i h st c hb => by
  obtain ⟨hz, hTI, ⟨u, v, hTO⟩, ⟨o1, e1, c1, d1⟩, ⟨o2, e2, c2, d2⟩⟩ := st
  simp only [List.mem_cons, List.not_mem_nil, or_false] at hb
  rcases hb with rfl | rfl | rfl | rfl | rfl
  ·exact ⟨_, hz, fun v z => by cases z⟩
  ·exact ⟨_, hTI, fun v z => by cases z⟩
  ·exact ⟨_, hTO, fun v z => by cases z⟩
  ·exact ⟨_, e1, fun v z => by rw [d1] at z; cases z⟩
  ·exact ⟨_, e2, fun v z => by rw [d2] at z; cases z⟩
 keep := fun i h h' st k => by
  obtain ⟨hz, hTI, ⟨u, v, hTO⟩, h1, h2⟩ := st
  exact ⟨k _ (by simp) _ hz, k _ (by simp) _ hTI, ⟨u, v, k _ (by simp) _ hTO⟩, h1.at fun o e => k _ (by simp) o e, h2.at fun o e => k _ (by simp) o e⟩
 item := by
  intro X hP hw hK hc i pins s σ H E I hf st hg
  subst hP hw hK
  obtain ⟨xs, ys, x, y, hq1, hq2, hx, hy⟩ := hg
  obtain ⟨its1, rv1, p1, _⟩ := I.list hq1
  obtain ⟨its2, rv2, p2, _⟩ := I.list hq2
  obtain ⟨u1, hu1, ru1⟩ := rv1.get hx
  obtain ⟨u2, hu2, ru2⟩ := rv2.get hy
  obtain ⟨hz, hTI, ⟨ua, ub, hTO⟩, h1, h2⟩ := st
  have D := zipApart_of hTT h12 hz hTI hTO h1 h2 p1.isList p2.isList
  refine wpAny_pyNext_zip_item D hz hTI hTO h1 h2 p1.isList p2.isList (x := u1) (y := u2) (by simpa using hu1) (by simpa using hu2) fun h' a1 a2 a3 a4 a5 a6 a7 => ?_
  refine ⟨_, rfl, wpAny_letOwnedTupleGo_zip (s := { s with heap := h' }) a1 fun h'' b1 b2 => ?_⟩
  have nz : s.heap.objs.size ≠ z := Nat.ne_of_gt (Heap.lt_size hz)
  have k : ∀ c o, c ∉ [z, TI, TO, i1, i2] -> s.heap.get? c = some o -> h''.get? c = some o := fun c o hc e => by
   simp only [List.mem_cons, List.not_mem_nil, or_false, not_or] at hc
   exact (b2.2 c hc.1).trans (a7 c o hc.1 hc.2.2.1 hc.2.2.2.1 hc.2.2.2.2 e)
  have hTup : h''.get? s.heap.objs.size = some { cls := .type "tuple", data := .seq #[u1, u2] } := (b2.2 _ nz).trans a5
  refine ⟨.ref s.heap.objs.size, upd H s.heap.objs.size (.tup [x, y]), I.turnedT (t' := s.toks) hf (Nat.le_refl _) k ⟨by rw [sizeLine_eq]; simp, [u1, u2], .cons ru1 (.cons ru2 .nil), _, hTup, rfl, _, rfl⟩, rfl,
   ⟨_, x, y, I.hok.fresh (Nat.le_refl _), rfl, rfl, fun xs' q => by rw [I.list_inj q hq1]; exact hx, fun ys' q => by rw [I.list_inj q hq2]; exact hy⟩, ?_, fun c hb => ?_⟩
  ·exact ⟨b1, (b2.2 _ D.TIz).trans (a7 _ _ D.TIz D.TITO D.TIi1 D.TIi2 hTI), ⟨_, _, (b2.2 _ D.TOz).trans a2⟩, a3.at fun o e => (b2.2 _ D.i1z).trans e, a4.at fun o e => (b2.2 _ D.i2z).trans e⟩
  ·obtain ⟨o, e⟩ : ∃ o, s.heap.get? c = some o := by
    simp only [List.mem_cons, List.not_mem_nil, or_false] at hb
    rcases hb with rfl | rfl | rfl | rfl | rfl
    ·exact ⟨_, hz⟩
    ·exact ⟨_, hTI⟩
    ·exact ⟨_, hTO⟩
    ·obtain ⟨o, e, _⟩ := h1; exact ⟨o, e⟩
    ·obtain ⟨o, e, _⟩ := h2; exact ⟨o, e⟩
   rw [upd_ne (Nat.ne_of_lt (Heap.lt_size e))]
   exact (hf c hb).1
 done := by
  intro X hP hw hK hc i pins s σ H E I hf st hg
  subst hP hw hK
  obtain ⟨xs, ys, hq1, hq2, hx⟩ := hg
  obtain ⟨its1, rv1, p1, _⟩ := I.list hq1
  obtain ⟨its2, rv2, p2, _⟩ := I.list hq2
  obtain ⟨hz, hTI, ⟨ua, ub, hTO⟩, h1, h2⟩ := st
  have D := zipApart_of hTT h12 hz hTI hTO h1 h2 p1.isList p2.isList
  have l1 := rv1.length
  have l2 := rv2.length
  refine wpAny_pyNext_zip_end (I.ok.hd hc) D hz hTI hTO h1 h2 p1.isList p2.isList (hx.elim (fun h => .inl (by simp; omega)) fun h => .inr (by simp; omega)) fun h' k => ⟨rfl, I.turnedN (t' := s.toks) hf fun c o hc e => ?_⟩
  simp only [List.mem_cons, List.not_mem_nil, or_false, not_or] at hc
  exact k c o hc.1 hc.2.2.1 hc.2.2.2.1 hc.2.2.2.2 e
 self := fun _ _ _ _ _ st h => wpAny_pyIter_zip st.1 h
def Ite (K : Fg_) (a : Addr) : It :=
 ⟨fun i H => ∃ xs x, SqL K H a xs /\ xs[i]? = some x,
   fun i H v H' => ∃ p x, H p = none /\ v = .ref p /\ H' = upd H p (.tup [.int i, x]) /\ ∀ xs, SqL K H a xs -> xs[i]? = some x,
   fun i H => ∃ xs, SqL K H a xs /\ xs.length <= i⟩
theorem turn_enum {P : Program} {w : World} {K : Fg_} {elts : List Expr} {x1 : Nat} {pos : Pos} (a e it : Addr) (hei : e ≠ it) :
  Turn P w K (.Tuple elts x1 pos) (Ite K a) [e, it] e (fun i h => (∃ old, IsEnum h e it i old) /\ h.IsListIter it a i) where
 mem := by simp
 obj := fun i h st c hb => by
  obtain ⟨⟨old, he⟩, ⟨o1, e1, c1, d1⟩⟩ := st
  simp only [List.mem_cons, List.not_mem_nil, or_false] at hb
  rcases hb with rfl | rfl
  ·exact ⟨_, he, fun v z => by cases z⟩
  ·exact ⟨_, e1, fun v z => by rw [d1] at z; cases z⟩
 keep := fun i h h' st k => by
  obtain ⟨⟨old, he⟩, h1⟩ := st
  exact ⟨⟨old, k _ (by simp) _ he⟩, h1.at fun o e => k _ (by simp) o e⟩
 item := by
  intro X hP hw hK hc i pins s σ H E I hf st hg
  subst hP hw hK
  obtain ⟨xs, x, hq1, hx⟩ := hg
  obtain ⟨its1, rv1, p1, _⟩ := I.list hq1
  obtain ⟨u1, hu1, ru1⟩ := rv1.get hx
  obtain ⟨⟨old, he⟩, h1⟩ := st
  refine wpAny_pyNext_enum_item he h1 p1.isList (x := u1) (by simpa using hu1) hei fun h' a1 a2 a3 a4 a5 => ?_
  refine ⟨_, rfl, wpAny_letOwnedTupleGo_enum (s := { s with heap := h', toks := s.toks + 1 }) a1 fun h'' b1 b2 => ?_⟩
  have ne : s.heap.objs.size ≠ e := Nat.ne_of_gt (Heap.lt_size he)
  have k : ∀ c o, c ∉ [e, it] -> s.heap.get? c = some o -> h''.get? c = some o := fun c o hc q => by
   simp only [List.mem_cons, List.not_mem_nil, or_false, not_or] at hc
   exact (b2.2 c hc.1).trans (a5 c o hc.1 hc.2 q)
  have hTup : h''.get? s.heap.objs.size = some { cls := .type "tuple", data := .seq #[.int i s.toks, u1] } := (b2.2 _ ne).trans a3
  refine ⟨.ref s.heap.objs.size, upd H s.heap.objs.size (.tup [.int i, x]), I.turnedT (t' := s.toks + 1) hf (Nat.le_refl _) k ⟨by rw [sizeLine_eq]; simp, [.int i s.toks, u1], .cons ⟨_, rfl⟩ (.cons ru1 .nil), _, hTup, rfl, _, rfl⟩, rfl,
   ⟨_, x, I.hok.fresh (Nat.le_refl _), rfl, rfl, fun xs' q => by rw [I.list_inj q hq1]; exact hx⟩, ⟨⟨u1, by simpa using b1⟩, a2.at fun o q => (b2.2 _ (Ne.symm hei)).trans q⟩, fun c hb => ?_⟩
  obtain ⟨o, q⟩ : ∃ o, s.heap.get? c = some o := by
   simp only [List.mem_cons, List.not_mem_nil, or_false] at hb
   rcases hb with rfl | rfl
   ·exact ⟨_, he⟩
   ·obtain ⟨o, q, _⟩ := h1; exact ⟨o, q⟩
  rw [upd_ne (Nat.ne_of_lt (Heap.lt_size q))]
  exact (hf c hb).1
 done := by
  intro X hP hw hK hc i pins s σ H E I hf st hg
  subst hP hw hK
  obtain ⟨xs, hq1, hx⟩ := hg
  obtain ⟨its1, rv1, p1, _⟩ := I.list hq1
  obtain ⟨⟨old, he⟩, h1⟩ := st
  have l1 := rv1.length
  refine wpAny_pyNext_enum_end (I.ok.hd hc) he h1 p1.isList (by simp; omega) fun h' k => ⟨rfl, I.turnedN (t' := s.toks) hf fun c o hc q => ?_⟩
  simp only [List.mem_cons, List.not_mem_nil, or_false, not_or] at hc
  exact k c o hc.2 q
 self := fun _ _ _ _ _ st h => by
  obtain ⟨⟨old, he⟩, _⟩ := st
  exact wpAny_pyIter_enum he h
section
variable {X : Cx} {K : Fg_} {ta : TA} {elts : List Expr} {x1 : Nat} {tpos : Pos}
def iZip (K : Fg_) (ta : TA) : TI := fun σ H R => ta σ H fun vs H1 => ∃ a b, vs = [.ref a, .ref b] /\ (∃ xs, SqL K H1 a xs) /\ (∃ ys, SqL K H1 b ys) /\ R (Itz K a b) H1
def iEnum (K : Fg_) (ta : TA) : TI := fun σ H R => ta σ H fun vs H1 => ∃ a, vs = [.ref a] /\ (∃ xs, SqL K H1 a xs) /\ R (Ite K a) H1
theorem pi_zip {a b : Expr} {p pos : Pos} (hg : Gl X "zip") (hm : X.mg "zip" = none) (ha : PA X [a, b] ta) (hs : starEach [a, b] X.env = [(false, eval a X.env), (false, eval b X.env)] := by rfl) (hs2 : starEach [b] X.env = [(false, eval b X.env)] := by rfl) (hK : X.K = K := by rfl) :
  PI X (.Tuple elts x1 tpos) (.Call (.Name "zip" p) [a, b] [] pos) (iZip K ta) := by
 subst hK
 intro pins s σ H R I h
 refine Call_ (ld_blt I hg hm (by decide +kernel) (PyProof.Rows.callWith_type1 (T := "zip") (thn (ha pos pins s σ H _ I h) fun us s1 ⟨vs, H1, I1, r1, q1⟩ => ?_) (by rw [hs, hs2]) (by rw [hs2]; rfl)))
 obtain ⟨l1, l2, e, ⟨xs, hx⟩, ⟨ys, hy⟩, q⟩ := q1
 subst e
 obtain ⟨u, v, rfl, ru, rv⟩ := vals2 r1
 cases ru
 cases rv
 obtain ⟨its1, _, p1, _⟩ := I1.list hx
 obtain ⟨its2, _, p2, _⟩ := I1.list hy
 refine call_zip_2 p1.isList p2.isList fun h' g1 g2 g3 g4 g5 g6 k => ?_
 have I2 : Inv X pins σ H1 { s1 with heap := h' } := I1.kept (t' := s1.toks) k
 refine wpAny_pyIter_zip (s := { s1 with heap := h' }) g1 ⟨_, [s1.heap.objs.size + 4, s1.heap.objs.size + 2, s1.heap.objs.size + 3, s1.heap.objs.size, s1.heap.objs.size + 1], _, _, H1, rfl, I2, turn_zip l1 l2 _ _ _ _ _ (show ((s1.heap.objs.size : Nat) + 2 ≠ s1.heap.objs.size + 3) by omega) (show ((s1.heap.objs.size : Nat) ≠ s1.heap.objs.size + 1) by omega), ⟨g1, g2, ⟨_, _, g3⟩, g4, g5⟩, fun c hc => ?_, q⟩
 have hc' : s1.heap.objs.size <= c := by
  simp only [List.mem_cons, List.not_mem_nil, or_false] at hc
  have hc2 : ∃ k : Nat, c = s1.heap.objs.size + k := by
   rcases hc with rfl | rfl | rfl | rfl | rfl
   ·exact ⟨4, rfl⟩
   ·exact ⟨2, rfl⟩
   ·exact ⟨3, rfl⟩
   ·exact ⟨0, rfl⟩
   ·exact ⟨1, rfl⟩
  obtain ⟨k, rfl⟩ := hc2
  exact Nat.le_add_right _ k
 exact I1.fpOk hc' (I1.hok.fresh hc')
theorem pi_enum {a : Expr} {p pos : Pos} (hg : Gl X "enumerate") (hm : X.mg "enumerate" = none) (ha : PA X [a] ta) (hs : starEach [a] X.env = [(false, eval a X.env)] := by rfl) (hK : X.K = K := by rfl) :
  PI X (.Tuple elts x1 tpos) (.Call (.Name "enumerate" p) [a] [] pos) (iEnum K ta) := by
 subst hK
 intro pins s σ H R I h
 refine Call_ (ld_blt I hg hm (by decide +kernel) (PyProof.Rows.callWith_type1 (T := "enumerate") (thn (ha pos pins s σ H _ I h) fun us s1 ⟨vs, H1, I1, r1, q1⟩ => ?_) (by rw [hs]; rfl) rfl))
 obtain ⟨l1, e, ⟨xs, hx⟩, q⟩ := q1
 subst e
 obtain ⟨u, rfl, ru⟩ := vals1 r1
 cases ru
 obtain ⟨its1, _, p1, _⟩ := I1.list hx
 refine call_enumerate_list p1.isList fun h' g1 g2 g3 k => ?_
 have I2 : Inv X pins σ H1 { s1 with heap := h' } := I1.kept (t' := s1.toks) k
 refine wpAny_pyIter_enum (s := { s1 with heap := h' }) g1 ⟨_, [s1.heap.objs.size + 1, s1.heap.objs.size], _, _, H1, rfl, I2, turn_enum l1 _ _ (show ((s1.heap.objs.size : Nat) + 1 ≠ s1.heap.objs.size) by omega), ⟨⟨_, g1⟩, g2⟩, fun c hc => ?_, q⟩
 have hc' : s1.heap.objs.size <= c := by
  simp only [List.mem_cons, List.not_mem_nil, or_false] at hc
  have hc2 : ∃ k : Nat, c = s1.heap.objs.size + k := by
   rcases hc with rfl | rfl
   ·exact ⟨1, rfl⟩
   ·exact ⟨0, rfl⟩
  obtain ⟨k, rfl⟩ := hc2
  exact Nat.le_add_right _ k
 exact I1.fpOk hc' (I1.hok.fresh hc')
variable {σ : St} {H : Hp} {R : It -> Hp -> Prop} {g : TG} {tb : TS} {D : Ends} {a b : Addr} {xs ys : List V}
theorem ap_iZip : iZip K ta σ H R = ta σ H fun vs H1 => ∃ a b, vs = [.ref a, .ref b] /\ (∃ xs, SqL K H1 a xs) /\ (∃ ys, SqL K H1 b ys) /\ R (Itz K a b) H1 := rfl
theorem ap_iEnum : iEnum K ta σ H R = ta σ H fun vs H1 => ∃ a, vs = [.ref a] /\ (∃ xs, SqL K H1 a xs) /\ R (Ite K a) H1 := rfl
theorem ForP.zip (Pv : Nat -> St -> Hp -> Prop) (hlen : xs.length = ys.length) (h0 : Pv 0 σ H) (hl : ∀ i σ H, i <= xs.length -> Pv i σ H -> SqL K H a xs /\ SqL K H b ys)
  (hs : ∀ i x y σ H p, xs[i]? = some x -> ys[i]? = some y -> Pv i σ H -> H p = none -> g (.ref p) σ (upd H p (.tup [x, y])) fun σ2 H2 => tb { D with nx := Pv (i + 1), ct := Pv (i + 1), bk := D.nx } σ2 H2) (hd : ∀ σ H, Pv xs.length σ H -> D.nx σ H) : ForP (Itz K a b) g tb D σ H := by
 refine ⟨fun i m σ H => m = xs.length - i /\ i <= xs.length /\ Pv i σ H, ⟨xs.length, by simp, Nat.zero_le _, h0⟩, ?_⟩
 rintro i m σ H ⟨rfl, hi, p⟩
 obtain ⟨q1, q2⟩ := hl i σ H hi p
 by_cases hlt : i < xs.length
 ·refine .inr ⟨⟨xs, ys, xs[i], ys[i], q1, q2, by simp [hlt], by simp [hlen ▸ hlt]⟩, Pv (i + 1), fun σ' H' p' => ⟨xs.length - (i + 1), by omega, rfl, hlt, p'⟩, fun v H' y => ?_⟩
  obtain ⟨pp, x, y, hp, rfl, rfl, e1, e2⟩ := y
  exact hs i x y σ _ pp (e1 xs q1) (e2 ys q2) p hp
 ·have e : i = xs.length := by omega
  subst e
  exact .inl ⟨⟨xs, ys, q1, q2, .inl (Nat.le_refl _)⟩, hd σ H p⟩
theorem ForP.enum (Pv : Nat -> St -> Hp -> Prop) (h0 : Pv 0 σ H) (hl : ∀ i σ H, i <= xs.length -> Pv i σ H -> SqL K H a xs)
  (hs : ∀ i x σ H p, xs[i]? = some x -> Pv i σ H -> H p = none -> g (.ref p) σ (upd H p (.tup [.int i, x])) fun σ2 H2 => tb { D with nx := Pv (i + 1), ct := Pv (i + 1), bk := D.nx } σ2 H2) (hd : ∀ σ H, Pv xs.length σ H -> D.nx σ H) : ForP (Ite K a) g tb D σ H := by
 refine ⟨fun i m σ H => m = xs.length - i /\ i <= xs.length /\ Pv i σ H, ⟨xs.length, by simp, Nat.zero_le _, h0⟩, ?_⟩
 rintro i m σ H ⟨rfl, hi, p⟩
 have q1 := hl i σ H hi p
 by_cases hlt : i < xs.length
 ·refine .inr ⟨⟨xs, xs[i], q1, by simp [hlt]⟩, Pv (i + 1), fun σ' H' p' => ⟨xs.length - (i + 1), by omega, rfl, hlt, p'⟩, fun v H' y => ?_⟩
  obtain ⟨pp, x, hp, rfl, rfl, e1⟩ := y
  exact hs i x σ _ pp (e1 xs q1) p hp
 ·have e : i = xs.length := by omega
  subst e
  exact .inl ⟨⟨xs, q1, Nat.le_refl _⟩, hd σ H p⟩
end
end L2
namespace L2
open PySem PySem.Spec PyProof.Rows
def DK (h h' : Heap) : Prop := ∀ b o, h.get? b = some o -> ∃ o', h'.get? b = some o' /\ o'.dict = o.dict
theorem DK.trans {h h1 h2 : Heap} (a : DK h h1) (b : DK h1 h2) : DK h h2 := fun c o e => by
 obtain ⟨o1, e1, d1⟩ := a c o e
 obtain ⟨o2, e2, d2⟩ := b c o1 e1
 exact ⟨o2, e2, d2.trans d1⟩
structure KD {α : Type} (t : Sem α) : Prop where
 out : ∀ (M : Model) (Γ : PySem.Ctx) (P : α -> Pos -> Shared -> Prop) (E : Value -> Pos -> Shared -> Prop) (p : Pos) (s : Shared), Sem.wp M Γ t P E p s -> Sem.wp M Γ t (fun a p' s' => P a p' s' /\ DK s.heap s'.heap) E p s
end L2
namespace L2
open PySem PySem.Spec PyProof.Rows
structure XCls (K : Fg_) (C : Addr) : Prop where
 ex : PySem.W.excIn K C [.type "ValueError", .type "Exception", .type "BaseException", .type "object"] "ValueError.__new__" = true
end L2
namespace L2
open PySem PySem.Spec PyProof.Rows
section
variable {prog : Program} {w : World} {A : Around} {E : Value -> Shared -> Prop} {h : Heap} {g : Array GenState} {d : Drawn} {t : Nat} {os : OsState} {a : Addr} {o : Obj}
 {nm q : Str} {C N : Addr} {bs bm : List Value} {hdct : Bool} {sn : List Str} {sub : List Value} {ab : Bool} {col : Option Bool} {dd : Option Addr} {k0 k1 k2 k3 k5 : Option Value} {newId : String} {K : Fg_}
structure XAsk (K : Fg_) (C : Addr) : Prop where
 cl : PySem.W.findIn K (.ref C) "__class__" = some (some (.builtin "object.__class__"))
 ga : PySem.W.findIn K (.ref C) "__getattribute__" = some (some (.builtin "BaseException.__getattribute__"))
 gh : PySem.W.findIn K (.ref C) "__getattr__" = some none
end
end L2
namespace L2
open PySem PySem.Spec PyProof.Rows
abbrev TX := St -> Hp -> VK -> XK -> Prop
end L2
namespace L2
open PySem PySem.Spec PyProof.Rows
section
variable {κ : Type} [DecidableEq κ]
def valV (kvs : List (κ × V)) (k : κ) : Option V := (kvs.find? fun kv => decide (kv.1 = k)).map (·.2)
def putK (kvs : List (κ × V)) (k : κ) (v : V) : List (κ × V) :=
 if (kvs.any fun kv => decide (kv.1 = k)) = true then kvs.map (fun kv => if kv.1 = k then (kv.1, v) else kv) else kvs ++ [(k, v)]
theorem valV_pos {p : κ × V} {r : List (κ × V)} {k : κ} (e : p.1 = k) : valV (p :: r) k = some p.2 := by simp [valV, List.find?_cons, e]
theorem valV_neg {p : κ × V} {r : List (κ × V)} {k : κ} (e : ¬ p.1 = k) : valV (p :: r) k = valV r k := by simp [valV, List.find?_cons, e]
theorem valV_any (k : κ) : ∀ kvs : List (κ × V), (kvs.any fun kv => decide (kv.1 = k)) = (valV kvs k).isSome
 | [] => rfl
 | p :: r => by
  rw [List.any_cons]
  by_cases e : p.1 = k
  ·simp only [valV_pos e, decide_eq_true e, Bool.true_or, Option.isSome_some]
  ·rw [valV_neg e, decide_eq_false e, Bool.false_or]; exact valV_any k r
theorem valV_map (k j : κ) (y : V) : ∀ kvs : List (κ × V), valV (kvs.map fun kv => if kv.1 = k then (kv.1, y) else kv) j = (valV kvs j).map fun x => if j = k then y else x
 | [] => rfl
 | p :: r => by
  have ih := valV_map k j y r
  rw [List.map_cons]
  by_cases h : p.1 = k
  ·rw [if_pos h]
   by_cases e : p.1 = j
   ·rw [valV_pos (p := (p.1, y)) e, valV_pos e, Option.map_some, if_pos (e.symm.trans h)]
   ·rw [valV_neg (p := (p.1, y)) e, valV_neg e, ih]
  ·rw [if_neg h]
   by_cases e : p.1 = j
   ·rw [valV_pos (p := p) e, valV_pos e, Option.map_some, if_neg (fun z => h (e.trans z))]
   ·rw [valV_neg (p := p) e, valV_neg e, ih]
theorem valV_snoc (k j : κ) (y : V) : ∀ kvs : List (κ × V), valV kvs k = none -> valV (kvs ++ [(k, y)]) j = if j = k then some y else valV kvs j
 | [], _ => by
  by_cases e : k = j
  ·rw [if_pos e.symm]; exact valV_pos (p := (k, y)) e
  ·rw [if_neg (fun z => e z.symm)]; exact valV_neg (p := (k, y)) e
 | p :: r, hn => by
  rw [List.cons_append]
  have hk : ¬ p.1 = k := fun z => by rw [valV_pos z] at hn; cases hn
  rw [valV_neg hk] at hn
  have ih := valV_snoc k j y r hn
  by_cases e : p.1 = j
  ·rw [valV_pos e, valV_pos e, if_neg (fun z => hk (e.trans z))]
  ·rw [valV_neg e, valV_neg e, ih]
theorem valV_put (kvs : List (κ × V)) (k j : κ) (y : V) : valV (putK kvs k y) j = if j = k then some y else valV kvs j := by
 unfold putK
 by_cases a : (kvs.any fun kv => decide (kv.1 = k)) = true
 ·rw [if_pos a, valV_map]
  rw [valV_any] at a
  by_cases e : j = k
  ·obtain ⟨x, hx⟩ := Option.isSome_iff_exists.mp a
   rw [if_pos e, e, hx, Option.map_some, if_pos rfl]
  ·rw [if_neg e]
   cases valV kvs j with
   | none => rfl
   | some x => rw [Option.map_some, if_neg e]
 ·rw [if_neg a]
  refine valV_snoc k j y kvs ?_
  rw [valV_any] at a
  cases q : valV kvs k with
  | none => rfl
  | some x => rw [q] at a; exact (a rfl).elim
theorem length_putK (kvs : List (κ × V)) (k : κ) (v : V) : (putK kvs k v).length <= kvs.length + 1 := by
 unfold putK
 split
 ·rw [List.length_map]; omega
 ·rw [List.length_append, List.length_cons, List.length_nil]; omega
theorem RelO.isSome_eq {o : Option V} {u : Option Value} (r : RelO o u) : o.isSome = u.isSome := by
 cases o with
 | none => cases u with
  | none => rfl
  | some _ => exact (show False from r).elim
 | some _ => cases u with
  | none => exact (show False from r).elim
  | some _ => rfl
theorem RelO.getD {o : Option V} {u : Option Value} {d : V} {d' : Value} (r : RelO o u) (rd : RelV d d') : RelV (o.getD d) (u.getD d') := by
 cases o with
 | none => cases u with
  | none => exact rd
  | some _ => exact (show False from r).elim
 | some _ => cases u with
  | none => exact (show False from r).elim
  | some _ => exact r
theorem KV.val {kvs : List (κ × V)} {vs : List (κ × Value)} (r : KV kvs vs) (k : κ) : RelO (valV kvs k) (valueAt vs k) := by
 unfold KV at r
 induction r with
 | nil => exact True.intro
 | @cons p q ps qs h t ih =>
  obtain ⟨h1, h2⟩ := h
  by_cases e : p.1 = k
  ·have e' : q.1 = k := h1.symm.trans e
   have b : valueAt (q :: qs) k = some q.2 := by simp [valueAt, List.find?_cons, e']
   rw [valV_pos e, b]; exact h2
  ·have e' : ¬ q.1 = k := fun z => e (h1.trans z)
   have b : valueAt (q :: qs) k = valueAt qs k := by simp [valueAt, List.find?_cons, e']
   rw [valV_neg e, b]; exact ih
theorem KV.any {kvs : List (κ × V)} {vs : List (κ × Value)} (r : KV kvs vs) (k : κ) : (kvs.any fun kv => decide (kv.1 = k)) = vs.any fun kv => decide (kv.1 = k) := by
 unfold KV at r
 induction r with
 | nil => rfl
 | cons h t ih => rw [List.any_cons, List.any_cons, ih, h.1]
theorem KV.repl {kvs : List (κ × V)} {vs : List (κ × Value)} (r : KV kvs vs) (k : κ) {y : V} {u : Value} (ry : RelV y u) :
  KV (kvs.map fun kv => if kv.1 = k then (kv.1, y) else kv) (vs.map fun kv => if kv.1 = k then (kv.1, u) else kv) := by
 unfold KV at r ⊢
 induction r with
 | nil => exact .nil
 | @cons p q ps qs h t ih =>
  rw [List.map_cons, List.map_cons]
  refine .cons ?_ ih
  obtain ⟨h1, h2⟩ := h
  by_cases e : p.1 = k
  ·rw [if_pos e, if_pos (h1.symm.trans e)]; exact ⟨h1, ry⟩
  ·rw [if_neg e, if_neg (fun z => e (h1.trans z))]; exact ⟨h1, h2⟩
theorem KV.put {kvs : List (κ × V)} {vs : List (κ × Value)} (r : KV kvs vs) (k : κ) {y : V} {u : Value} (ry : RelV y u) : KV (putK kvs k y) (stored vs k u) := by
 unfold putK stored
 rw [r.any k]
 by_cases e : (vs.any fun kv => decide (kv.1 = k)) = true
 ·rw [if_pos e, if_pos e]; exact r.repl k ry
 ·rw [if_neg e, if_neg e]; exact Paired.snoc r ⟨rfl, ry⟩
theorem KV.length {kvs : List (κ × V)} {vs : List (κ × Value)} (r : KV kvs vs) : kvs.length = vs.length := Paired.length r
end
theorem kV_is {P : Program} {w : World} {k : Key} {u : Value} (r : RelV (kV k) u) : (mixKind P w).is k u = true := by
 cases k with
 | inl i => obtain ⟨t, e⟩ := (show ∃ t, u = Value.int i t from r); subst e; exact mixKind_int P w i t
 | inr x => obtain ⟨t, e⟩ := (show ∃ t, u = Value.str x t from r); subst e; exact mixKind_str P w x t
theorem items_are {P : Program} {w : World} : ∀ {ks : List Key} {us : List Value}, Vals (ks.map kV) us -> ItemsAre (mixKind P w) ks us
 | [], _, r => by rw [List.map_nil] at r; cases r; exact .nil
 | k :: ks, _, r => by
  rw [List.map_cons] at r
  cases r with
  | cons h t => exact .cons (kV_is h) (items_are t)
abbrev KT (H : Hp) : List (List Key × V) -> List (List Key × Addr × Value) -> Prop := Paired fun p q => p.1 = q.1 /\ H q.2.1 = some (.tup (p.1.map kV)) /\ RelV p.2 q.2.2
theorem KT.val {H : Hp} {kvs : List (List Key × V)} {xs : List (List Key × Addr × Value)} (r : KT H kvs xs) (k : List Key) : RelO (valV kvs k) ((atKey xs k).map (·.2)) := by
 induction r with
 | nil => exact True.intro
 | @cons p q ps qs h t ih =>
  obtain ⟨h1, _, h2⟩ := h
  by_cases e : p.1 = k
  ·have e' : q.1 = k := h1.symm.trans e
   have b : atKey (q :: qs) k = some q.2 := by simp [atKey, List.find?_cons, e']
   rw [valV_pos e, b]; exact h2
  ·have e' : ¬ q.1 = k := fun z => e (h1.trans z)
   have b : atKey (q :: qs) k = atKey qs k := by simp [atKey, List.find?_cons, e']
   rw [valV_neg e, b]; exact ih
theorem KT.repl {H : Hp} {kvs : List (List Key × V)} {xs : List (List Key × Addr × Value)} (r : KT H kvs xs) (k : List Key) {y : V} {u : Value} (ry : RelV y u) :
  KT H (kvs.map fun kv => if kv.1 = k then (kv.1, y) else kv) (xs.map (putAt k u)) := by
 induction r with
 | nil => exact .nil
 | @cons p q ps qs h t ih =>
  rw [List.map_cons, List.map_cons]
  refine .cons ?_ ih
  obtain ⟨h1, h2, h3⟩ := h
  unfold putAt
  by_cases e : p.1 = k
  ·rw [if_pos e, if_pos (h1.symm.trans e)]; exact ⟨h1, h2, ry⟩
  ·rw [if_neg e, if_neg (fun z => e (h1.trans z))]; exact ⟨h1, h2, h3⟩
theorem KT.put {H : Hp} {kvs : List (List Key × V)} {xs : List (List Key × Addr × Value)} (r : KT H kvs xs) (k : List Key) {b : Addr} {y : V} {u : Value} (hb : H b = some (.tup (k.map kV))) (ry : RelV y u) :
  KT H (putK kvs k y) (storedH xs k b u) := by
 have e : (kvs.any fun kv => decide (kv.1 = k)) = (atKey xs k).isSome := by
  rw [valV_any, (r.val k).isSome_eq, Option.isSome_map]
 unfold putK storedH
 rw [e]
 by_cases q : (atKey xs k).isSome = true
 ·rw [if_pos q, if_pos q]; exact r.repl k ry
 ·rw [if_neg q, if_neg q]; exact Paired.snoc r ⟨rfl, hb, ry⟩
theorem KT.keeps {H H' : Hp} {kvs : List (List Key × V)} {xs : List (List Key × Addr × Value)} (r : KT H kvs xs) (ht : ∀ b ys, H b = some (.tup ys) -> H' b = some (.tup ys)) : KT H' kvs xs :=
 Paired.mapP r fun _ _ z => ⟨z.1, ht _ _ z.2.1, z.2.2⟩
section
variable {P : Program} {w : World} {H : Hp} {h : Heap} {a : Addr}
theorem rd_of {u : HO} (ok : HOk P w H h) (e : Rd H a u) : ObjOk P w H h a u := e.ok ok
theorem dk_rd {kvs : List (Key × V)} (ok : HOk P w H h) (e : Rd H a (.dK kvs)) : kvs.length <= sizeLine /\ (a == sysModules) = false /\ ∃ vs, KV kvs vs /\ h.DictOf (mixKind P w) a vs :=
 show ObjOk P w H h a (.dK kvs) from rd_of ok e
theorem dk_of {kvs : List (Key × V)} (ok : HOk P w H h) (e : H a = some (.dK kvs)) : kvs.length <= sizeLine /\ (a == sysModules) = false /\ ∃ vs, KV kvs vs /\ h.DictOf (mixKind P w) a vs := dk_rd ok (.inl e)
theorem key_of {ks : List Key} (ok : HOk P w H h) (e : H a = some (.tup (ks.map kV))) : (tupleKind (mixKind P w)).is h ks a := by
 obtain ⟨_, its, r, o, h1, h2, n, h3⟩ := (show ObjOk P w H h a (.tup (ks.map kV)) from ok a _ e)
 exact ⟨o, its.toArray, n, h1, h2, h3, by simpa using items_are r⟩
theorem dt_rd {kvs : List (List Key × V)} (ok : HOk P w H h) (e : Rd H a (.dT kvs)) : kvs.length <= sizeLine /\ (a == sysModules) = false /\
  ∃ xs, KT H kvs xs /\ h.DictOfH (tupleKind (mixKind P w)) a xs := by
 obtain ⟨z, y, xs, r, o, es, ep, h1, h2, h3, h4, h5⟩ := (show ObjOk P w H h a (.dT kvs) from rd_of ok e)
 refine ⟨z, y, xs, r, o, es, ep, h1, h2, h3, h4, fun x hx => ?_, h5⟩
 have all : ∀ {l : List (List Key × V)} {m : List (List Key × Addr × Value)}, KT H l m -> ∀ x ∈ m, (tupleKind (mixKind P w)).is h x.1 x.2.1 := by
  intro l m q
  induction q with
  | nil => intro x hx; exact nomatch hx
  | @cons p q ps qs hq t ih =>
   intro x hx
   rcases List.mem_cons.mp hx with e | hx
   ·subst e
    exact key_of ok (by rw [<- hq.1]; exact hq.2.1)
   ·exact ih x hx
 exact all r x hx
theorem dt_of {kvs : List (List Key × V)} (ok : HOk P w H h) (e : H a = some (.dT kvs)) : kvs.length <= sizeLine /\ (a == sysModules) = false /\
  ∃ xs, KT H kvs xs /\ h.DictOfH (tupleKind (mixKind P w)) a xs := dt_rd ok (.inl e)
end
def DGet (H : Hp) (a : Addr) (y : V) (r : Option V) : Prop :=
 (∃ kvs k, Rd H a (.dK kvs) /\ y = kV k /\ r = valV kvs k) \/ ∃ kvs k b, Rd H a (.dT kvs) /\ y = .ref b /\ H b = some (.tup (k.map kV)) /\ r = valV kvs k
def DPut (H : Hp) (a : Addr) (y v : V) (H' : Hp) : Prop :=
 (∃ kvs k, H a = some (.dK kvs) /\ y = kV k /\ kvs.length < sizeLine /\ H' = upd H a (.dK (putK kvs k v))) \/
 ∃ kvs k b, H a = some (.dT kvs) /\ y = .ref b /\ H b = some (.tup (k.map kV)) /\ kvs.length < sizeLine /\ H' = upd H a (.dT (putK kvs k v))
theorem DGet.k {H : Hp} {a : Addr} {kvs : List (Key × V)} {k : Key} (e : H a = some (.dK kvs)) : DGet H a (kV k) (valV kvs k) := .inl ⟨kvs, k, .inl e, rfl, rfl⟩
theorem DPut.k {H : Hp} {a : Addr} {kvs : List (Key × V)} {k : Key} {v : V} (e : H a = some (.dK kvs)) (hl : kvs.length < sizeLine) : DPut H a (kV k) v (upd H a (.dK (putK kvs k v))) := .inl ⟨kvs, k, e, rfl, hl, rfl⟩
section
variable {X : Cx} {pins : List (Addr × Obj)} {σ : St} {H : Hp} {s : Shared} {a : Addr} {y v : V} {u r : Value} {o : Option V} {A : Around} {E : Value -> Shared -> Prop}
theorem Inv.big (I : Inv X pins σ H s) : sysModules < s.heap.objs.size := by
 have h : mainGlobals < s.heap.objs.size := (I.mod.glob.keeps I.bk).lt
 exact Nat.lt_trans (by decide) h
theorem d_in {Q : Value -> Shared -> Prop} (hu : A.units + 1 < cLine) (I : Inv X pins σ H s) (g : DGet H a y o) (ry : RelV y u) (h : ∀ s', Inv X pins σ H s' -> Q (.bool o.isSome) s') :
  wpAny (model X.prog X.w) A (compareOp .In u (.ref a)) Q E s := by
 rcases g with ⟨kvs, k, e, ey, l⟩ | ⟨kvs, k, b, e, ey, eb, l⟩
 ·subst ey
  obtain ⟨z, hd, vs, rel, dd⟩ := dk_rd I.hok e
  refine wpAny_in_of (kV_is ry) hd dd.mapOf ?_
  rw [<- (rel.val k).isSome_eq, <- l]
  exact h _ (I.tok _)
 ·subst ey
  cases (show u = Value.ref b from ry)
  obtain ⟨z, hd, xs, rel, dd⟩ := dt_rd I.hok e
  refine wpAny_in_heap (tupleKind_room_in1 hu) (key_of I.hok eb) hd dd ?_
  have q := (rel.val k).isSome_eq
  rw [Option.isSome_map] at q
  rw [<- q, <- l]
  exact h _ (I.tok _)
theorem d_write {h' : Heap} {t' : Nat} {ob : HO} (I : Inv X pins σ H s) (mu : Mut (H a)) (hs : Heap.SameBut a s.heap h') (he : ∃ q, h'.get? a = some q) (new : ObjOk X.prog X.w (upd H a ob) h' a ob) :
  Inv X pins σ (upd H a ob) { s with heap := h', toks := t' } :=
 I.write (x := a) (e := a) mu (.inl rfl) (fun b q hb z => (hs.2 b hb).trans z) he new
theorem dk_new {P : Program} {w : World} {H' : Hp} {h' : Heap} {kvs : List (Key × V)} {vs : List (Key × Value)} (z : kvs.length <= sizeLine) (hd : (a == sysModules) = false) (rel : KV kvs vs) (dd : h'.DictOf (mixKind P w) a vs) :
  ObjOk P w H' h' a (.dK kvs) := ⟨z, hd, vs, rel, dd⟩
theorem d_setItem {H' : Hp} {Q : Unit -> Shared -> Prop} (hu : A.units + 1 < cLine) (I : Inv X pins σ H s) (g : DPut H a y v H') (ry : RelV y u) (rv : RelV v r) (h : ∀ s', Inv X pins σ H' s' -> Q () s') :
  wpAny (model X.prog X.w) A (setItem (.ref a) u r) Q E s := by
 rcases g with ⟨kvs, k, e, ey, l, eH⟩ | ⟨kvs, k, b, e, ey, eb, l, eH⟩
 ·subst ey eH
  obtain ⟨z, hd, vs, rel, dd⟩ := dk_of I.hok e
  have hz : vs.length <= sizeLine := by rw [<- rel.length]; exact z
  have hl : (putK kvs k v).length <= sizeLine := by have := length_putK kvs k v; omega
  refine wpAny_setItem_pairs (hsz := hz) (kV_is ry) dd fun h' dd' hs => h _ ?_
  have he : ∃ q, h'.get? a = some q := let ⟨q, _, _, hq, _⟩ := dd'; ⟨q, hq⟩
  exact d_write I (by rw [e]; exact True.intro) hs he (dk_new hl hd (rel.put k rv) dd')
 ·subst ey eH
  cases (show u = Value.ref b from ry)
  obtain ⟨z, hd, xs, rel, dd⟩ := dt_of I.hok e
  have hz : xs.length <= sizeLine := by rw [<- Paired.length rel]; exact z
  have hl : (putK kvs k v).length <= sizeLine := by have := length_putK kvs k v; omega
  refine wpAny_setItem_heap (hsz := hz) (tupleKind_room_in1 hu) (key_of I.hok eb) dd fun h' dd' hs => h _ ?_
  obtain ⟨q, es, ep, hq, h2, h3, h4, _, h5⟩ := dd'
  refine d_write I (by rw [e]; exact True.intro) hs ⟨q, hq⟩ ⟨hl, hd, _, (rel.put k eb rv).keeps fun c ys ec => ?_, q, es, ep, hq, h2, h3, h4, h5⟩
  rw [upd_ne (ne_of ec e (fun z => nomatch z))]
  exact ec
end
def NoSl (i : Expr) : Prop := ∀ ov iv, subscripted i false ov iv = operate [ov, iv] (getItem ov iv)
theorem subD_of {prog : Program} {w : World} {A : Around} {E : Value -> Shared -> Prop} {s : Shared} {env : Env} {value slice : Expr} {pos : Pos} {T id : String} {Q : Value -> Shared -> Prop}
  (hl : typeLookup (.type T) "__getitem__" = pure (some (.builtin id))) (hs : NoSl slice)
  (h : wpAny (model prog w) A (eval value env) (fun o s₁ => wpAny (model prog w) A (eval slice env) (fun i s₂ => s₂.TypeIs o T /\ wpAny (model prog w) A (getItem o i) Q E s₂) E s₁) E s) :
  wpAny (model prog w) A (eval (.Subscript value slice pos) env) Q E s := by
 refine Subscript_ (wpAny_mono h (fun o s₁ h₁ => wpAny_mono h₁ (fun i s₂ h₂ => ?_) fun _ _ x => x) fun _ _ x => x)
 obtain ⟨hT, h₂⟩ := h₂
 unfold subscriptTail
 refine wpAny_bind ?_
 rw [getitemInPython_of_ne hT.not_modules]
 refine wpAny_bind (wpAny_specialOf hT hl ?_)
 have fin : wpAny (model prog w) A (subscripted slice false o i) (fun r s₃ => wpAny (model prog w) A (letTemporaryGo value o r >>= fun _ => pure r) Q E s₃) E s₂ := by
  rw [hs o i]
  exact wpAny_operating (wpAny_mono h₂ (fun r s₃ h₃ => wpAny_bind (wpAny_letTemporaryGo (wpAny_pure h₃))) fun _ _ x => x)
 first
  | exact wpAny_pure (wpAny_bind fin)
  | exact wpAny_bind (wpAny_pure (wpAny_bind fin))
  | exact wpAny_bind fin
def sDPut (td ty tv : TE) : TS := fun D σ H => tv σ H fun v H1 => td σ H1 fun x H2 => ty σ H2 fun y H3 => ∃ a H4, x = .ref a /\ DPut H3 a y v H4 /\ D.nx σ H4
section
variable {X : Cx} {o i e value : Expr} {pos pos' tpos : Pos} {td ty tv : TE}
theorem ps_dput (hu : X.A.units + 1 < cLine) (ho : PE X o td) (hi : PE X i ty) (hv : PE X value tv) (hs : swapsWith value (some (.Subscript o i pos')) pos.line X.env = pure false) :
  PS X (.Assign [.Subscript o i pos'] value pos) (sDPut td ty tv) := by
 intro pins s σ H D I h
 refine wpAny_Assign_Subscript (thn (hv pins s σ H _ I h) fun r s1 ⟨v, H1, I1, rv, q1⟩ => thn (ho pins s1 σ H1 _ I1 q1) fun u s2 ⟨x, H2, I2, rx, q2⟩ => thn (hi pins s2 σ H2 _ I2 q2) fun iv s3 ⟨y, H3, I3, ry, a, H4, ex, g, q3⟩ => ?_) hs
 subst ex
 obtain rfl : u = Value.ref a := rx
 exact d_setItem hu I3 g ry rv fun s4 I4 => ⟨σ, H4, I4, q3⟩
end
theorem dk_empty {P : Program} {w : World} {H : Hp} (h : Heap) (hb : sysModules < h.objs.size) : ObjOk P w H (h.push { cls := .type "dict", data := .dict #[] }) h.objs.size (.dK []) :=
 ⟨Nat.zero_le _, beq_eq_false_iff_ne.mpr (Ne.symm (Nat.ne_of_lt hb)), [], .nil, Heap.DictOf.new h⟩
def tDNewK : TE := fun _ H Q => ∀ p, H p = none -> Q (.ref p) (upd H p (.dK []))
section
variable {X : Cx} {pos : Pos}
theorem pe_dnewK : PE X (.Dict [] [] pos) tDNewK := fun pins s σ H Q I h =>
 wpAny_Dict_empty ⟨.ref s.heap.objs.size, _, I.laid (a := s.heap.objs.size) (o := .dK []) (t' := s.toks) (fun _ _ q => Heap.get?_push_of_some _ q) (Nat.le_refl _) (dk_empty s.heap I.big), rfl, h _ (I.hok.fresh (Nat.le_refl _))⟩
end
def tPairs : List (TE × TE) -> St -> Hp -> (List (V × V) -> Hp -> Prop) -> Prop
 | [], _, H, Q => Q [] H
 | (tk, tv) :: r, σ, H, Q => tk σ H fun x H1 => tv σ H1 fun y H2 => tPairs r σ H2 fun ps H3 => Q ((x, y) :: ps) H3
abbrev VV : List (V × V) -> List (Value × Value) -> Prop := Paired fun p q => RelV p.1 q.1 /\ RelV p.2 q.2
def PPs (X : Cx) (pos : Pos) (keys : List (Option Expr)) (values : List Expr) (trs : List (TE × TE)) : Prop :=
 ∀ (pins : List (Addr × Obj)) (s : Shared) (σ : St) (H : Hp) (Q : List (V × V) -> Hp -> Prop), Inv X pins σ H s -> tPairs trs σ H Q ->
  wpAny (model X.prog X.w) X.A (evalPairs (pairTrees keys values X.env pos)) (fun vs s' => ∃ ps H', Inv X pins σ H' s' /\ VV ps vs /\ Q ps H') X.xe s
theorem pps_nil {X : Cx} {pos : Pos} : PPs X pos [] [] [] := fun pins s σ H Q I h => pairTrees_nil_walk ⟨[], H, I, .nil, h⟩
theorem pps_cons {X : Cx} {pos : Pos} {k v : Expr} {ks : List (Option Expr)} {vs : List Expr} {tk tv : TE} {trs : List (TE × TE)} (hk : PE X k tk) (hv : PE X v tv) (hr : PPs X pos ks vs trs) :
  PPs X pos (some k :: ks) (v :: vs) ((tk, tv) :: trs) := fun pins s σ H Q I h =>
 pairTrees_cons_walk (thn (hk pins s σ H _ I h) fun u s1 ⟨x, H1, I1, rx, q1⟩ => thn (hv pins s1 σ H1 _ I1 q1) fun w2 s2 ⟨y, H2, I2, ry, q2⟩ =>
  thn (hr pins s2 σ H2 _ I2 q2) fun ws s3 ⟨ps, H3, I3, rel, q3⟩ => ⟨(x, y) :: ps, H3, I3, .cons ⟨rx, ry⟩ rel, q3⟩)
def mergeK (kvs more : List (Key × V)) : List (Key × V) := more.foldl (fun acc kv => putK acc kv.1 kv.2) kvs
theorem KV.merge : ∀ {more : List (Key × V)} {rs : List (Key × Value)} {kvs : List (Key × V)} {vs : List (Key × Value)}, KV more rs -> KV kvs vs -> KV (mergeK kvs more) (merged vs rs) := by
 intro more rs kvs vs r
 unfold KV at r
 induction r generalizing kvs vs with
 | nil => intro q; exact q
 | @cons p q ps qs h t ih =>
  intro r0
  have e : KV (putK kvs p.1 p.2) (stored vs q.1 q.2) := by
   have := r0.put p.1 h.2
   rw [<- h.1]; exact this
  exact ih e
theorem length_mergeK : ∀ (more kvs : List (Key × V)), (mergeK kvs more).length <= kvs.length + more.length
 | [], kvs => by show kvs.length <= kvs.length + 0; omega
 | p :: r, kvs => by
  have h1 := length_mergeK r (putK kvs p.1 p.2)
  have h2 := length_putK kvs p.1 p.2
  show (mergeK (putK kvs p.1 p.2) r).length <= _
  rw [List.length_cons]; omega
theorem carries_of {P : Program} {w : World} : ∀ {kvs : List (Key × V)} {ws : List (Value × Value)}, VV (kvs.map fun kv => (kV kv.1, kv.2)) ws -> ∃ rs, Carries (mixKind P w) ws rs /\ KV kvs rs
 | [], _, r => by rw [List.map_nil] at r; cases r; exact ⟨[], True.intro, .nil⟩
 | p :: kvs, _, r => by
  rw [List.map_cons] at r
  cases r with
  | @cons a b as bs h t =>
   obtain ⟨rs, c, q⟩ := carries_of (P := P) (w := w) t
   obtain ⟨b1, b2⟩ := b
   exact ⟨(p.1, b2) :: rs, ⟨kV_is h.1, rfl, c⟩, .cons ⟨rfl, h.2⟩ q⟩
def tDisp (trs : List (TE × TE)) : TE := fun σ H Q => ∀ p, H p = none -> tPairs trs σ (upd H p (.dK [])) fun ps H2 => H2 p = some (.dK []) /\ ∃ kvs : List (Key × V), ps = kvs.map (fun kv => (kV kv.1, kv.2)) /\ kvs.length <= 15 /\ Q (.ref p) (upd H2 p (.dK (mergeK [] kvs)))
theorem pe_disp {X : Cx} {pos : Pos} {keys : List (Option Expr)} {values : List Expr} {trs : List (TE × TE)} (h : PPs X pos keys values trs) (hall : keys.all (·.isSome) = true) (hl : keys.length = values.length) (h0 : keys ≠ [])
  (h15 : keys.length <= 15) : PE X (.Dict keys values pos) (tDisp trs) := by
 intro pins s σ H Q I q
 have hn := I.hok.fresh (Nat.le_refl s.heap.objs.size)
 have I1 := I.laid (a := s.heap.objs.size) (o := .dK []) (h' := s.heap.push { cls := .type "dict", data := .dict #[] }) (t' := s.toks) (fun _ _ q => Heap.get?_push_of_some _ q) (Nat.le_refl _) (dk_empty s.heap I.big)
 refine wpAny_Dict_walk (knd := mixKind X.prog X.w) hall hl h0 h15 (thn (h pins _ σ _ _ I1 (q _ hn)) fun ws s2 ⟨ps, H2, I2, rel, e, kvs, ep, lk, q2⟩ => ?_)
 subst ep
 obtain ⟨rs, c, rk⟩ := carries_of (P := X.prog) (w := X.w) rel
 obtain ⟨z, hd, vs0, r0, dd⟩ := dk_of I2.hok e
 cases r0
 refine ⟨rs, c, dd, fun h' dd' hs => ⟨.ref s.heap.objs.size, _, ?_, rfl, q2⟩⟩
 have hz : (mergeK [] kvs).length <= sizeLine := by
  have h1 := length_mergeK kvs []
  rw [List.length_nil] at h1
  rw [sizeLine_eq]; omega
 have he : ∃ q, h'.get? s.heap.objs.size = some q := let ⟨q, _, _, hq, _⟩ := dd'; ⟨q, hq⟩
 exact d_write I2 (by rw [e]; exact True.intro) hs he (dk_new hz hd (rk.merge .nil) dd')
structure M1 (X : Cx) (o : Expr) (m : Str) (apos : Pos) (e : Expr) (cpos : Pos) : Prop where
 base : attributeBase o m X.env (eval o X.env) = eval o X.env
 few : ((backTo cpos (starEach [e] X.env)).all (fun x => !x.1) && (backToKw cpos (keywordEach [] X.env)).all (fun x => x.1.isSome)
  && decide (([e] : List Expr).length + ([] : List Keyword).length + (if ([] : List Keyword).isEmpty then 0 else 1) < 30)) = true
 line : (apos.endLine == cpos.line) = true
 trees : backTo cpos (starEach [e] X.env) = [(false, eval e X.env)]
structure M2 (X : Cx) (o : Expr) (m : Str) (apos : Pos) (e f : Expr) (cpos : Pos) : Prop where
 base : attributeBase o m X.env (eval o X.env) = eval o X.env
 few : ((backTo cpos (starEach [e, f] X.env)).all (fun x => !x.1) && (backToKw cpos (keywordEach [] X.env)).all (fun x => x.1.isSome)
  && decide (([e, f] : List Expr).length + ([] : List Keyword).length + (if ([] : List Keyword).isEmpty then 0 else 1) < 30)) = true
 line : (apos.endLine == cpos.line) = true
 trees : backTo cpos (starEach [e, f] X.env) = [(false, eval e X.env), (false, eval f X.env)]
def IsD (H : Hp) (a : Addr) : Prop := (∃ kvs, Rd H a (.dK kvs)) \/ ∃ kvs, Rd H a (.dT kvs)
theorem isD_at {X : Cx} {pins : List (Addr × Obj)} {σ : St} {H : Hp} {s : Shared} {a : Addr} (I : Inv X pins σ H s) (d : IsD H a) :
  s.TypeIs (.ref a) "dict" /\ (∀ b, Value.ref a = .ref b -> ∃ ob, s.heap.get? b = some ob /\ ob.dict = none) /\ (a == sysModules) = false := by
 rcases d with ⟨kvs, e⟩ | ⟨kvs, e⟩
 ·obtain ⟨_, hd, vs, _, dd⟩ := dk_rd I.hok e
  refine ⟨dd.typeIs, fun b q => ?_, hd⟩
  cases q
  obtain ⟨ob, _, _, h1, h2, _⟩ := dd
  exact ⟨ob, h1, h2.2.1⟩
 ·obtain ⟨_, hd, xs, _, dd⟩ := dt_rd I.hok e
  refine ⟨dd.typeIs, fun b q => ?_, hd⟩
  cases q
  obtain ⟨ob, _, _, h1, h2, _⟩ := dd
  exact ⟨ob, h1, h2.2.1⟩
section
variable {X : Cx} {pins : List (Addr × Obj)} {σ : St} {H : Hp} {s : Shared} {a : Addr} {y d : V} {u r : Value} {o : Option V} {A : Around} {E : Value -> Shared -> Prop}
theorem d_get2 {Q : Value -> Shared -> Prop} (hu : A.units + 1 < cLine) (I : Inv X pins σ H s) (g : DGet H a y o) (ry : RelV y u) (rd : RelV d r) (h : ∀ w' s', Inv X pins σ H s' -> RelV (o.getD d) w' -> Q w' s') :
  wpAny (model X.prog X.w) A (call (.builtin "dict.get") [.ref a, u, r]) Q E s := by
 rcases g with ⟨kvs, k, e, ey, l⟩ | ⟨kvs, k, b, e, ey, eb, l⟩
 ·subst ey
  obtain ⟨z, hd, vs, rel, dd⟩ := dk_rd I.hok e
  refine call_meetsIn PySem.F.slot_dict_get dd.typeIs PySem.F.entry_dict_get (PySem.F.args_dict_get_3 _ _ _) (meets_dict_get_default (mixKind X.prog X.w) a (kV_is ry) hd r) ⟨_, dd.mapOf, h _ _ (I.tok _) ?_⟩
  rw [l]
  exact (rel.val k).getD rd
 ·subst ey
  cases (show u = Value.ref b from ry)
  obtain ⟨z, hd, xs, rel, dd⟩ := dt_rd I.hok e
  refine call_meetsIn PySem.F.slot_dict_get dd.typeIs PySem.F.entry_dict_get (PySem.F.args_dict_get_3 _ _ _) (meetsH_dict_get_default (tupleKind (mixKind X.prog X.w)) a b hd r) ⟨tupleKind_room_in1 hu, k, xs, key_of I.hok eb, dd, h _ _ (I.tok _) ?_⟩
  rw [l]
  exact (rel.val k).getD rd
end
def tDGet2 (td ty tx : TE) : TE := fun σ H Q => td σ H fun x H1 => ∃ a, x = .ref a /\ IsD H1 a /\ ty σ H1 fun y H2 => tx σ H2 fun z H3 => ∃ o, DGet H3 a y o /\ Q (o.getD z) H3
section
variable {X : Cx} {o e f : Expr} {apos cpos : Pos} {td ty tx : TE}
theorem pe_dget2 (hu : X.A.units + 1 < cLine) (ho : PE X o td) (he : PE X e ty) (hf : PE X f tx) (m : M2 X o "get" apos e f cpos) : PE X (.Call (.Attribute o "get" apos) [e, f] [] cpos) (tDGet2 td ty tx) := by
 intro pins s σ H Q I h
 refine wpAny_Call_method m.base m.few m.line PySem.F.plainAttrs_dict PySem.F.slot_dict_get PySem.F.type_dict_get (thn (ho pins s σ H _ I h) fun u s1 ⟨x, H1, I1, rx, a, ex, d, q1⟩ => ?_)
 subst ex
 obtain rfl : u = Value.ref a := rx
 obtain ⟨t1, t2, _⟩ := isD_at I1 d
 refine ⟨t1, t2, ?_⟩
 rw [m.trees]
 refine Calls.callWith_builtin rfl (Calls.evalArgs_plain (Calls.spliced_cons (thn (he pins s1 σ H1 _ I1 q1) fun iv s2 ⟨y, H2, I2, ry, q2⟩ =>
  Calls.spliced_cons (thn (hf pins s2 σ H2 _ I2 q2) fun fv s3 ⟨z, H3, I3, rz, ov, g, q3⟩ => Calls.spliced_nil ?_))))
 exact d_get2 hu I3 g ry rz fun w' s4 I4 rw' => ⟨_, H3, I4, rw', q3⟩
end
end L2
namespace L2
open PySem PySem.Spec PyProof.Rows
structure FunD (K : Fg_) (x qual : Str) (st : Stmt) (f : Addr) (fd : FuncData) (dvs : List V) : Prop where
 ex : ∃ (oc : Value) (od : Option Addr) (Td : Addr) (kV doc pm : Value) (an : Option Addr) (cdv ct : Value) (osl : Array (Option Value)) (ot : Obj) (its : List Value) (nt : Nat),
  fd = PySem.W.fnOf x qual (defArgs st) (defBody st) (defScope st) (.ref Td) kV doc pm an cdv ct /\ K.lookup f = some ⟨oc, od, .func fd, osl⟩ /\ PySem.W.codeIn K cdv qual = true /\ K.lookup Td = some ot /\ ot.data = .seq its.toArray nt /\ Vals dvs its
 kp : PySem.W.keepIn K (.ref f) = true
section
variable {P : Program} {w : World} {K : Fg_} {mg : Str -> Option Value} {base : Heap}
theorem FunD.ok {x qual : Str} {st : Stmt} {f : Addr} {fd : FuncData} {N ps : List Str} {k : Nat} {sp : Sp} {dvs : List V} (F : FunD K x qual st f fd dvs) (S : FnScope N ps (defScope st)) (len : ∀ vs H Q E, sp vs H Q E -> vs.length = ps.length)
  (hbody : ∀ (cdv : Value) (A : Around) (outer : List Env) (s : Shared) (H : Hp) (vs : List V) (Q : VK) (E : XK), Room k (A.deeper (envOfC qual (defScope st) s.heap.objs.size f cdv)) -> sp vs H Q E ->
   ∃ t, PSs (cxOf CX0 P w K mg base N qual (defScope st) f cdv A outer s H E).nox (defBody st) t /\ t { nx := fun _ H' => Q .non H', rt := Q } (start N vs) H) : FnOk P w K mg base CX0 (k + 1) f fd ps sp := by
 obtain ⟨oc, od, Td, kV, doc, pm, an, cdv, ct, osl, ot, its, nt, rfl, lk, hcd, _⟩ := F.ex
 refine fn_of lk hcd S len fun A outer s H vs Q E hr hsp => ?_
 obtain ⟨t, h, q⟩ := hbody cdv A outer s H vs Q E hr hsp
 exact ⟨t, h.nox, q⟩
theorem FunD.binds {x qual : Str} {st : Stmt} {f : Addr} {fd : FuncData} {ps : List Str} {dvs : List V} (F : FunD K x qual st f fd dvs) (n : Nat)
  (h : ∀ (Td : Addr) (kV doc pm : Value) (an : Option Addr) (cdv ct : Value) (its us : List Value), its.length = dvs.length -> (us ++ its.drop n).length = ps.length ->
   ∃ k, bindArgs (PySem.W.fnOf x qual (defArgs st) (defBody st) (defScope st) (.ref Td) kV doc pm an cdv ct) ⟨us, []⟩ = (seqItems? (.ref Td) >>= k) /\ k (some its.toArray) = pure (ps.zip (us ++ its.drop n))) : ∃ ds, Binds K fd ps ds /\ Vals (dvs.drop n) ds := by
 obtain ⟨oc, od, Td, kV, doc, pm, an, cdv, ct, osl, ot, its, nt, rfl, lk, hcd, lt, hdt, hv⟩ := F.ex
 refine ⟨its.drop n, fun s us X hl => ?_, hv.drop n⟩
 obtain ⟨k, e1, e2⟩ := h Td kV doc pm an cdv ct its us hv.length.symm hl
 exact PySem.W.binds_K X rfl lt hdt e1 e2
theorem funD_mk {x qual : Str} {st : Stmt} {f Td : Addr} {oc : Value} {od an : Option Addr} {osl : Array (Option Value)} {kV doc pm cdv ct : Value} {dvs : List V} {ot : Obj} {its : List Value} {nt : Nat} (l : K.lookup f = some ⟨oc, od, .func (PySem.W.fnOf x qual (defArgs st) (defBody st) (defScope st) (.ref Td) kV doc pm an cdv ct), osl⟩)
  (c : PySem.W.codeIn K cdv qual = true) (k : PySem.W.keepIn K (.ref f) = true) (lt : K.lookup Td = some ot) (hd : ot.data = .seq its.toArray nt) (hv : Vals dvs its) : FunD K x qual st f (PySem.W.fnOf x qual (defArgs st) (defBody st) (defScope st) (.ref Td) kV doc pm an cdv ct) dvs :=
 ⟨⟨oc, od, Td, kV, doc, pm, an, cdv, ct, osl, ot, its, nt, rfl, l, c, lt, hd, hv⟩, k⟩
end
structure ClsFn (K : Fg_) (C : Addr) (m : Str) (f : Addr) : Prop where
 ga : PySem.W.specialIn K (.ref C) "__getattribute__" = some (some (.builtin "type.__getattribute__"))
 rd : PySem.W.readsIn K C (.type "type") = true
 fi : PySem.W.findCls K (.ref C) (.type "type") m = some (.val (.ref f))
section
variable {X : Cx} {CX : CXT} {k : Nat} {f C : Addr} {fd : FuncData} {ps ks : List Str} {sp : Sp} {dvs : List V} {ds : List Value} {E : XK} {x m : Str} {p pos apos : Pos} {e o : Expr} {es : List Expr} {ta : TE} {t tk : TA} {kws : List Keyword}
theorem pe_clsCall {pl : Sem Bool} (Z : ClsFn X.K C m f) (F : FnOk X.prog X.w X.K X.mg X.base CX k f fd ps sp) (hr : Room k X.A) (hg : Gl X x) (hm : X.mg x = some (.ref C)) (hk : PySem.W.keepIn X.K (.ref f) = true) (hb : Binds X.K fd ps ds) (hd : Vals dvs ds) (hx : Passes CX X E)
  (ha : PA X (e :: es) t) (hdb : (x == ("__debug__" : Str)) = false := by decide) (he : starEach (e :: es) X.env = (false, eval e X.env) :: starEach es X.env := by rfl) (hpl : (backTo pos (starEach es X.env)).any (·.1) = false := by rfl)
  (ht : eval (.Call (.Attribute (.Name x p) m apos) (e :: es) [] pos) X.env = (do
   let ov <- eval (.Name x p) X.env
   standAt apos.atName
   let (f, first) <- holding [ov] (getMethod ov m pl)
   callWith pos f first (backTo pos (starEach (e :: es) X.env)) (backToKw pos (keywordEach [] X.env))) := by rfl) :
  PE X (.Call (.Attribute (.Name x p) m apos) (e :: es) [] pos) (tCall sp dvs E t) := by
 intro pins s σ H Q I h
 refine PySem.W.methodCall_KW (pl := pl) (ld_glob I hg hm ?_ hdb) ht
 refine PySem.W.method_cls I.kIn Z.ga (PySem.W.cls_value I.kIn Z.rd Z.fi rfl ?_)
 have I' : Inv X pins σ H { s with toks := s.toks + 1 } := I.tok _
 refine PySem.W.callWith_K (first := []) (h₀ := X.base) I.ok.mod.kin hk (thn (ha pos pins _ σ H _ I' h) fun us s1 ⟨vs, H1, I1, r, q⟩ => ⟨I1.kIn, ?_⟩) he hpl
 exact run_fn F hr hb hd hx I1 r q
inductive MTab (X : Cx) (CX : CXT) (m : Str) : List (Addr × Sp) -> Prop
 | nil : MTab X CX m []
 | cons {C f : Addr} {fd : FuncData} {ps : List Str} {sp : Sp} {k : Nat} {r : List (Addr × Sp)} (c : Cls X.K C) (hm : Meth X.K C m f) (F : FnOk X.prog X.w X.K X.mg X.base CX k f fd ps sp) (hr : Room k X.A) (hb : Binds X.K fd ps []) (t : MTab X CX m r) : MTab X CX m ((C, sp) :: r)
theorem MTab.get {tab : List (Addr × Sp)} (T : MTab X CX m tab) {C : Addr} {sp : Sp} (h : (C, sp) ∈ tab) : ∃ f fd ps k, Cls X.K C /\ Meth X.K C m f /\ FnOk X.prog X.w X.K X.mg X.base CX k f fd ps sp /\ Room k X.A /\ Binds X.K fd ps [] := by
 induction T with
 | nil => cases h
 | cons c hm F hr hb t ih =>
  rcases List.mem_cons.mp h with z | z
  ·cases z
   exact ⟨_, _, _, _, c, hm, F, hr, hb⟩
  ·exact ih z
def tMethD (tab : List (Addr × Sp)) (m : Str) (E : XK) (ta : TE) (t : TA) : TE := fun σ H Q => ta σ H fun x H1 => ∃ a C dx fs sp, x = .ref a /\ H1 a = some (.ins C dx fs) /\ (C, sp) ∈ tab /\ fs.lookup m = none /\ t σ H1 fun vs H2 => sp (x :: vs) H2 Q E
theorem pe_methD0 {pl : Sem Bool} {tab : List (Addr × Sp)} (he : PE X o ta) (T : MTab X CX m tab) (hx : Passes CX X E)
  (ht : eval (.Call (.Attribute o m apos) [] [] pos) X.env = (do
   let ov <- eval o X.env
   standAt apos.atName
   let (f, first) <- holding [ov] (getMethod ov m pl)
   callWith pos f first (backTo pos (starEach [] X.env)) (backToKw pos (keywordEach [] X.env))) := by rfl) :
  PE X (.Call (.Attribute o m apos) [] [] pos) (tMethD tab m E ta tNil) := by
 intro pins s σ H Q I h
 refine PySem.W.methodCall_KW (pl := pl) (thn (he pins s σ H _ I h) fun u s1 ⟨y, H1, I1, rx, a, C, dx, fs, sp, ex, ea, hmem, l, q⟩ => ?_) ht
 subst ex
 obtain rfl : u = Value.ref a := rx
 obtain ⟨f, fd, ps, k, c, hm, F, hr, hb⟩ := T.get hmem
 refine getmeth_ok I1 ea c hm l ?_
 exact PySem.W.callWith_K0 (first := [.ref a]) I1.kIn hm.kp (run_fn (us := [.ref a]) (vs := [.ref a]) (dvs := []) (ds := []) F hr hb .nil hx I1 (.cons rfl .nil) q)
variable {g : List Value -> List Value -> List Value} {gV : List V -> List V -> List V}
end
theorem putF_new (f : Str) (v : V) : ∀ {fs : List (Str × V)}, (fs.map (·.1)).contains f = false -> putF f v fs = fs ++ [(f, v)]
 | [], _ => rfl
 | (g, x) :: r, h => by
  rw [List.map_cons, List.contains_cons] at h
  have h1 : ¬ g = f := fun e => by rw [e] at h; simp at h
  have h2 : (r.map (·.1)).contains f = false := (Bool.or_eq_false_iff.mp h).2
  show (if g = f then (g, v) :: r else (g, x) :: putF f v r) = _
  rw [if_neg h1, putF_new f v h2]
  rfl
structure InsTy (K : Fg_) (C : Addr) : Prop where
 cl : Cls K C
 ha : PySem.W.findIn K (.ref C) "__class__" = some (some (.builtin "object.__class__"))
 hn : PySem.W.specialIn K (.builtin "object.__class__") "__get__" = some (some (.builtin "getset_descriptor.__get__"))
 htk : PySem.W.takesIn K (.builtin "object.__class__") = some true
 hm : PySem.W.mroIn K C (.type "object") = some true
theorem InsTy.of {K : Fg_} {C a dx : Addr} {H : Hp} {fs : List (Str × V)} (z : InsTy K C) (h : H a = some (.ins C dx fs)) : TyOf K H (.ref a) (.ref C) := .ins h z.cl z.ha z.hn z.htk z.hm
end L2
namespace L2
open PySem PySem.Spec PyProof.Rows
def signs (x : Str) : List V := x.cps.toList.map fun c => V.str ⟨#[c]⟩
def Itst (x : Str) : It := ⟨fun i _ => i < x.cps.size, fun i H v H' => H' = H /\ (signs x)[i]? = some v, fun i _ => x.cps.size <= i⟩
theorem turn_str {P : Program} {w : World} {K : Fg_} {tg : Expr} {ty : String} (hty : ty = "str_ascii_iterator" \/ ty = "str_iterator") (it : Addr) (x : Str) (t : Tok) : Turn P w K tg (Itst x) [it] it (fun i h => h.IsStrIter it ty x t i) where
 mem := by simp
 obj := fun i h st b hb => by
  have e : b = it := by simpa using hb
  subst e
  obtain ⟨o, e, c, d⟩ := st
  exact ⟨o, e, fun v z => by rw [d] at z; cases z⟩
 keep := fun i h h' st k => by
  obtain ⟨o, e, r⟩ := st
  exact ⟨o, k it (by simp) o e, r⟩
 item := by
  intro X hP hw hK hc i pins s σ H E I hf st hg
  subst hP hw hK
  have hi : i < x.cps.size := hg
  have hx : x.cps[i]? = some x.cps[i] := Array.getElem?_eq_getElem hi
  have hs : (signs x)[i]? = some (.str ⟨#[x.cps[i]]⟩) := by
   unfold signs
   rw [List.getElem?_map, Array.getElem?_toList, hx]
   rfl
  rcases hty with rfl | rfl
  ·refine wpAny_pyNext_ascii_item st hx fun h' st' sb => ?_
   obtain ⟨o, e, c, d⟩ := id st'
   exact ⟨_, rfl, go_of (s := { s with heap := h', toks := s.toks + 1 }) e c d (by decide) ⟨.str ⟨#[x.cps[i]]⟩, H, I.turnedN hf fun b o hb q => (sb.2 b (by simpa using hb)).trans q, ⟨_, rfl⟩, ⟨rfl, hs⟩, st', fun b hb => (hf b hb).1⟩⟩
  ·refine wpAny_pyNext_wide_item st hx fun h' st' sb => ?_
   obtain ⟨o, e, c, d⟩ := id st'
   exact ⟨_, rfl, go_of (s := { s with heap := h', toks := s.toks + 1 }) e c d (by decide) ⟨.str ⟨#[x.cps[i]]⟩, H, I.turnedN hf fun b o hb q => (sb.2 b (by simpa using hb)).trans q, ⟨_, rfl⟩, ⟨rfl, hs⟩, st', fun b hb => (hf b hb).1⟩⟩
 done := by
  intro X hP hw hK hc i pins s σ H E I hf st hg
  subst hP hw hK
  have hx : x.cps[i]? = none := Array.getElem?_eq_none hg
  rcases hty with rfl | rfl
  ·exact wpAny_pyNext_ascii_end (I.ok.hd hc) st hx fun h' eb => ⟨rfl, I.turnedN (t' := s.toks) hf fun b o hb q => eb b o (by simpa using hb) q⟩
  ·exact wpAny_pyNext_wide_end (I.ok.hd hc) st hx fun h' eb => ⟨rfl, I.turnedN (t' := s.toks) hf fun b o hb q => eb b o (by simpa using hb) q⟩
 self := fun _ _ _ _ _ st h => by
  rcases hty with rfl | rfl
  ·exact wpAny_pyIter_striter_ascii st h
  ·exact wpAny_pyIter_striter_wide st h
section
variable {X : Cx} {K : Fg_} {tg : Expr}
def iStr (tl : TE) : TI := fun σ H R => tl σ H fun x H1 => ∃ z, x = .str z /\ R (Itst z) H1
theorem pi_str {l : Expr} {tl : TE} (hl : PE X l tl) : PI X tg l (iStr tl) := by
 intro pins s σ H R I h
 refine thn (hl pins s σ H _ I h) fun v s1 ⟨x, H1, I1, r1, q1⟩ => ?_
 obtain ⟨z, e, q⟩ := q1
 subst e
 obtain ⟨t, rfl⟩ := r1
 have fin : ∀ (ty : String) (hty : ty = "str_ascii_iterator" \/ ty = "str_iterator"), PIE X pins σ tg R (.ref s1.heap.objs.size) { s1 with heap := s1.heap.push { cls := .type ty, data := .fields #[.str z t, .int 0 0] } } := fun ty hty => by
  refine ⟨s1.heap.objs.size, [s1.heap.objs.size], _, _, H1, rfl, I1.kept (t' := s1.toks) fun b o e => Heap.get?_push_of_some _ e, turn_str hty _ z t, ⟨_, Heap.get?_push_size _ rfl, rfl, rfl⟩, fun b hb => ?_, q⟩
  have e : b = s1.heap.objs.size := by simpa using hb
  subst e
  exact I1.fpOk (Nat.le_refl _) (I1.hok.fresh (Nat.le_refl _))
 cases ha : z.cps.all (· < 128)
 ·exact wpAny_pyIter_wide ha (fin _ (.inr rfl))
 ·exact wpAny_pyIter_ascii ha (fin _ (.inl rfl))
variable {σ : St} {H : Hp} {R : It -> Hp -> Prop} {tl : TE} {cap : List (Option Nat)} {g : TG} {tt : TT} {te : TE} {Q : VK} {x : Str}
theorem ap_iStr : iStr tl σ H R = tl σ H fun x H1 => ∃ z, x = .str z /\ R (Itst z) H1 := rfl
theorem CompP.str (Sσ : St -> Prop) (p : V -> Bool) (F : V -> V) (h0 : Sσ (capSt σ cap)) (hz : x.cps.size <= sizeLine)
  (hs : ∀ y ∈ signs x, ∀ (σ : St) (H5 : Hp) (R1 : St -> VK) (R2 : St -> Hp -> Prop), Sσ σ -> Same H H5 -> (p y = true -> ∀ σ4 H6, Sσ σ4 -> Same H5 H6 -> R1 σ4 (F y) H6) -> (p y = false -> ∀ σ4 H6, Sσ σ4 -> Same H5 H6 -> R2 σ4 H6) ->
   g y σ H5 fun σ4 H4 => tt σ4 H4 fun b H5 => if b = true then te σ4 H5 (R1 σ4) else R2 σ4 H5)
  (k : ∀ D H', H D = Option.none -> Same H H' -> H' D = some (.lst (((signs x).filter p).map F)) -> Q (.ref D) H') : CompP cap (Itst x) g tt te σ H Q := fun D hD => by
 have hl : (signs x).length = x.cps.size := by simp [signs]
 refine comp_step (xs := signs x) (Itst x) Sσ p F hD h0 (by omega) (fun i y H' hy sm => ?_) (fun H' sm => ?_) hs fun H' s e => k D H' hD s e
 ·have hi : i < (signs x).length := (List.getElem?_eq_some_iff.mp hy).1
  exact ⟨by show i < x.cps.size; omega, fun z H2 hz => ⟨Option.some.inj (hz.2.symm.trans hy), hz.1⟩⟩
 ·show x.cps.size <= _
  omega
def rLeS : R2 := fun x y H Q => ∃ i j, x = .str i /\ y = .str j /\ Q (.bl (!decide (j.cps.toList < i.cps.toList))) H
theorem op_le_str : OpR X (compareOp .LtE) rLeS := by
 intro pins s σ H x y v u Q I rx ry h
 obtain ⟨i, j, rfl, rfl, q⟩ := h
 obtain ⟨t, rfl⟩ := rx
 obtain ⟨t', rfl⟩ := ry
 exact PySem.P.le_str ⟨.bl _, H, I, rfl, q⟩
def rInD (neg : Bool) : R2 := fun y x H Q => ∃ a o, x = .ref a /\ DGet H a y o /\ Q (.bl (if neg then !o.isSome else o.isSome)) H
theorem op_inDict (hu : X.A.units + 1 < cLine) : OpR X (compareOp .In) (rInD false) := by
 intro pins s σ H y x v u Q I ry rx h
 obtain ⟨a, o, rfl, g, q⟩ := h
 cases rx
 exact d_in hu I g ry fun s' I' => ⟨.bl _, H, I', rfl, q⟩
theorem ps_fldK {o value : Expr} {f : Str} {ta tv : TE} {pos pos' : Pos} (ha : PE X o ta) (hv : PE X value tv) (hs : swapsWith value (some (.Attribute o f pos')) pos.line X.env = pure false) (hK : X.K = K := by rfl) : PS X (.Assign [.Attribute o f pos'] value pos) (sFld K ta tv f) := hK ▸ ps_fld ha hv hs
variable {ta tv ty td tx : TE} {f : Str} {D : Ends} {C : Addr} {tab : List (Addr × Sp)} {m : Str} {E : XK} {t tk : TA} {sp : Sp} {dvs : List V} {gV : List V -> List V -> List V}
theorem ap_fldK : tFld K ta f σ H Q = ta σ H fun x H1 => ∃ a C dx fs v, x = .ref a /\ H1 a = some (.ins C dx fs) /\ Cls K C /\ NoAttr K C f /\ fs.lookup f = some v /\ Q v H1 := rfl
theorem ap_sFld : sFld K ta tv f D σ H = tv σ H fun y H1 => ta σ H1 fun x H2 => ∃ a C dx fs, x = .ref a /\ H2 a = some (.ins C dx fs) /\ Cls K C /\ NoAttr K C f /\ fs.length < 1000 /\ D.nx σ (upd H2 a (.ins C dx (putF f y fs))) := rfl
theorem ap_methD : tMethD tab m E ta t σ H Q = ta σ H fun x H1 => ∃ a C dx fs sp, x = .ref a /\ H1 a = some (.ins C dx fs) /\ (C, sp) ∈ tab /\ fs.lookup m = none /\ t σ H1 fun vs H2 => sp (x :: vs) H2 Q E := rfl
theorem ap_make : tMake C sp dvs E t σ H Q = t σ H fun vs H1 => ∀ x dx, H1 x = none -> H1 dx = none -> dx ≠ x -> sp (.ref x :: (vs ++ dvs)) (upd (upd H1 dx (.own x)) x (.ins C dx [])) (fun v H2 => v = .non /\ Q (.ref x) H2) E := rfl
theorem ap_dget2 : tDGet2 td ty tx σ H Q = td σ H fun x H1 => ∃ a, x = .ref a /\ IsD H1 a /\ ty σ H1 fun y H2 => tx σ H2 fun z H3 => ∃ o, DGet H3 a y o /\ Q (o.getD z) H3 := rfl
theorem ap_dput : sDPut td ty tv D σ H = tv σ H fun v H1 => td σ H1 fun x H2 => ty σ H2 fun y H3 => ∃ a H4, x = .ref a /\ DPut H3 a y v H4 /\ D.nx σ H4 := rfl
theorem ap_dnewK : tDNewK σ H Q = ∀ p, H p = none -> Q (.ref p) (upd H p (.dK [])) := rfl
theorem ap_inD {neg : Bool} {x y : V} : rInD neg y x H Q = ∃ a o, x = .ref a /\ DGet H a y o /\ Q (.bl (if neg then !o.isSome else o.isSome)) H := rfl
theorem ap_leS {i j : Str} : rLeS (.str i) (.str j) H Q = Q (.bl (!decide (j.cps.toList < i.cps.toList))) H := propext ⟨fun ⟨i', j', e1, e2, q⟩ => by cases e1; cases e2; exact q, fun q => ⟨i, j, rfl, rfl, q⟩⟩
theorem ap_rIsC {y : V} : rIsC K [y, .ref C] H Q = ∃ t k, TyOf K H y t /\ PySem.W.kitOne K t (.ref C) = some k /\ Q (.bl k) H := propext ⟨fun ⟨x', C', t, k, e, r⟩ => by cases e; exact ⟨t, k, r⟩, fun ⟨t, k, r⟩ => ⟨y, C, t, k, rfl, r⟩⟩
theorem ap_ixT {x y : V} : rIxT K x y H Q = ∃ p xs i v, x = .ref p /\ y = .int i /\ SqT K H p xs /\ atI xs i = some v /\ Q v H := rfl
theorem ap_ixS {x y : V} : rIxS x y H Q = ∃ z i c, x = .str z /\ y = .int i /\ z.length <= sizeLine /\ atI z.cps.toList i = some c /\ Q (.str ⟨#[c]⟩) H := rfl
theorem ap_slT {x : V} {lo hi : Option Int} : rSlT K x lo hi H Q = ∃ a xs, x = .ref a /\ SqT K H a xs /\ ¬ (HT.sIx xs.length 0 lo = 0 /\ HT.sIx xs.length xs.length hi = xs.length) /\ ∀ p, H p = none -> Q (.ref p) (upd H p (.tup (cutV xs lo hi))) := rfl
theorem ap_rTupOf {p : Addr} : rTupOf K [.ref p] H Q = ∃ ys, ((SqL K H p ys /\ ∀ l, H l = none -> Q (.ref l) (upd H l (.tup ys))) \/ (SqT K H p ys /\ Q (.ref p) H)) := by simp [rTupOf]
theorem ap_rIn {neg : Bool} {x y : V} : rIn K neg x y H Q = ∃ p xs, y = .ref p /\ (SqL K H p xs \/ SqT K H p xs) /\ flatV x = true /\ xs.all flatV = true /\ Q (.bl (if neg then !inV x xs else inV x xs)) H := rfl
theorem ap_lenS {z : Str} : (fun (xs : List V) (H : Hp) (Q : VK) => ∃ z, xs = [V.str z] /\ z.length <= sizeLine /\ Q (.int z.length) H) [.str z] H Q = (z.length <= sizeLine /\ Q (.int z.length) H) := propext ⟨fun ⟨z', e, r⟩ => by cases e; exact r, fun r => ⟨z, rfl, r⟩⟩
end
end L2
namespace L2
open PySem PySem.W PySem.Spec PyProof.Rows
section
variable {α β : Type} {lt : Nat -> Nat -> Bool} {n : Nat}
def Kok (lt : Nat -> Nat -> Bool) (n : Nat) (R : α -> Prop) : KasT α -> Prop
 | .ret a => R a
 | .ask i j k => i < n /\ j < n /\ Kok lt n R (k (lt i j))
theorem Kok.bind {R : α -> Prop} {S : β -> Prop} {f : α -> KasT β} : ∀ {t : KasT α}, Kok lt n R t -> (∀ a, R a -> Kok lt n S (f a)) -> Kok lt n S (t.bind f)
 | .ret a, h, k => k a h
 | .ask i j q, h, k => ⟨h.1, h.2.1, Kok.bind (t := q (lt i j)) h.2.2 k⟩
theorem Kok.wp {R : α -> Prop} {cmp : Nat -> Nat -> (Bool -> Shared -> Prop) -> Shared -> Prop} {s : Shared} {Q : α -> Shared -> Prop} (hc : ∀ i j (C : Bool -> Shared -> Prop), i < n -> j < n -> C (lt i j) s -> cmp i j C s) :
  ∀ {t : KasT α}, Kok lt n R t -> (∀ a, R a -> Q a s) -> t.kasWp cmp Q s
 | .ret a, h, k => k a h
 | .ask i j q, h, k => hc i j _ h.1 h.2.1 (Kok.wp hc (t := q (lt i j)) h.2.2 k)
def Prm (n : Nat) (p : Array Nat) : Prop := p.toList.Perm (List.range n)
theorem Prm.ltn {p : Array Nat} (h : Prm n p) (hn : 0 < n) (i : Nat) : p.getD i 0 < n := by
 by_cases hi : i < p.size
 ·have hm : p.getD i 0 ∈ p.toList := by simp [Array.getD, hi]
  exact List.mem_range.mp (h.mem_iff.mp hm)
 ·simp [Array.getD, hi, hn]
theorem Prm.rev {p : Array Nat} (h : Prm n p) (i j : Nat) : Prm n (kas_rev p i j) := (Array.perm_iff_toList_perm.mp (mirror_perm p i j _)).trans h
theorem Prm.bub {p : Array Nat} (h : Prm n p) (k d : Nat) : Prm n (bubble p k d) := (Array.perm_iff_toList_perm.mp (bubble_perm p k d)).trans h
theorem kok_asc {p : Array Nat} (h : Prm n p) (hn : 0 < n) : ∀ f m, Kok lt n (fun _ => True) (kas_asc p f m)
 | 0, _ => trivial
 | f + 1, m => ⟨Prm.ltn h hn _, Prm.ltn h hn _, by
  dsimp only
  by_cases hc : lt (p.getD m 0) (p.getD (m - 1) 0) = true
  ·rw [if_pos hc]; trivial
  ·rw [if_neg hc]; exact kok_asc h hn f (m + 1)⟩
theorem kok_desc (hn : 0 < n) : ∀ f {p : Array Nat} m q, Prm n p -> Kok lt n (fun r : Array Nat × Nat × Nat => Prm n r.1) (kas_desc f p m q)
 | 0, _, _, _, h => h
 | f + 1, p, m, q, h => ⟨Prm.ltn h hn _, Prm.ltn h hn _, by
  dsimp only
  by_cases hc : lt (p.getD m 0) (p.getD (m - 1) 0) = true
  ·rw [if_pos hc]
   by_cases hq : q > 0
   ·rw [if_pos hq]; exact kok_desc hn f _ _ (h.rev _ _)
   ·rw [if_neg hq]; exact kok_desc hn f _ _ h
  ·rw [if_neg hc]
   refine ⟨Prm.ltn h hn _, Prm.ltn h hn _, ?_⟩
   dsimp only
   by_cases hd : lt (p.getD (m - 1) 0) (p.getD m 0) = true
   ·rw [if_pos hd]; exact h
   ·rw [if_neg hd]; exact kok_desc hn f _ _ h⟩
theorem kok_tail {p : Array Nat} (h : Prm n p) (hn : 0 < n) (m r : Nat) : Kok lt n (fun r : Nat × Array Nat => Prm n r.2) (kas_tail3 m r p) :=
 Kok.bind (kok_asc (h.rev _ _) hn _ _) fun _ _ => h.rev 0 m
theorem kok_part {p : Array Nat} (h : Prm n p) (hn : 0 < n) (m r : Nat) : Kok lt n (fun r : Nat × Array Nat => Prm n r.2) (kas_descPart m r p) :=
 Kok.bind (kok_desc hn _ _ _ h) fun a ha => by
  by_cases hq : a.2.2 > 0
  ·rw [if_pos hq]; exact kok_tail (ha.rev _ _) hn _ _
  ·rw [if_neg hq]; exact kok_tail ha hn _ _
theorem kok_count {p : Array Nat} (h : Prm n p) (hn : 0 < n) (r : Nat) : Kok lt n (fun r : Nat × Array Nat => Prm n r.2) (kas_count r p) :=
 Kok.bind (kok_asc h hn _ _) fun m _ => by
  by_cases h1 : (m == r) = true
  ·rw [if_pos h1]; exact h
  ·rw [if_neg h1]
   by_cases h2 : m > 1
   ·rw [if_pos h2]
    refine ⟨Prm.ltn h hn _, Prm.ltn h hn _, ?_⟩
    dsimp only
    by_cases h3 : lt (p.getD 0 0) (p.getD (m - 1) 0) = true
    ·rw [if_pos h3]; exact h
    ·rw [if_neg h3]; exact kok_part (h.rev _ _) hn _ _
   ·rw [if_neg h2]; exact kok_part h hn _ _
theorem kok_place {p : Array Nat} (h : Prm n p) (hn : 0 < n) (k : Nat) : ∀ f l r, Kok lt n (fun _ => True) (kas_place p k f l r)
 | 0, _, _ => trivial
 | f + 1, l, r => by
  show Kok lt n _ (if l >= r then _ else _)
  by_cases h1 : l >= r
  ·rw [if_pos h1]; trivial
  ·rw [if_neg h1]
   refine ⟨Prm.ltn h hn _, Prm.ltn h hn _, ?_⟩
   dsimp only
   by_cases h3 : lt (p.getD k 0) (p.getD ((l + r) / 2) 0) = true
   ·rw [if_pos h3]; exact kok_place h hn k f _ _
   ·rw [if_neg h3]; exact kok_place h hn k f _ _
theorem kok_bin (hn : 0 < n) : ∀ f {p : Array Nat} k, Prm n p -> Kok lt n (Prm n) (kas_bin f p k)
 | 0, _, _, h => h
 | f + 1, p, k, h => Kok.bind (kok_place h hn k k 0 k) fun l _ => kok_bin hn f _ (h.bub _ _)
theorem kok_sort (hn : 0 < n) : Kok lt n (Prm n) (kas_sort n) :=
 Kok.bind (kok_count (p := (List.range n).toArray) (by unfold Prm; simp) hn n) fun a ha => by
  by_cases h1 : a.1 < n
  ·rw [if_pos h1]; exact kok_bin hn _ _ ha
  ·rw [if_neg h1]; exact ha
end
section
variable {key : Nat -> Int} {n : Nat}
def Up (key : Nat -> Int) (p : Array Nat) (m : Nat) : Prop := ∀ a b, a < b -> b < m -> key (p.getD a 0) < key (p.getD b 0)
def Dn (key : Nat -> Int) (p : Array Nat) (m : Nat) : Prop := ∀ a b, a < b -> b < m -> key (p.getD b 0) < key (p.getD a 0)
theorem getD_opt (p : Array Nat) (k : Nat) : p.getD k 0 = (p[k]?).getD 0 := by
 by_cases h : k < p.size
 ·simp [Array.getD, h]
 ·simp [Array.getD, h]
theorem Prm.size {p : Array Nat} (h : Prm n p) : p.size = n := by
 have := h.length_eq
 simpa using this
theorem Prm.unlike {p : Array Nat} (h : Prm n p) (hk : ∀ i j, i < n -> j < n -> key i = key j -> i = j) {a b : Nat} (ha : a < n) (hb : b < n) (hne : a ≠ b) : key (p.getD a 0) ≠ key (p.getD b 0) := fun e => by
 have hs := h.size
 have hn : 0 < n := by omega
 have e1 := hk _ _ (h.ltn hn a) (h.ltn hn b) e
 have hnd : p.toList.Nodup := h.nodup_iff.mpr List.nodup_range
 have e2 : p.toList[a]'(by simpa [hs] using ha) = p.toList[b]'(by simpa [hs] using hb) := by
  have q1 : p.getD a 0 = p[a]'(by omega) := by simp [Array.getD, hs, ha]
  have q2 : p.getD b 0 = p[b]'(by omega) := by simp [Array.getD, hs, hb]
  rw [q1, q2] at e1
  simpa using e1
 exact hne ((List.getElem_inj hnd).mp e2)
theorem rev_get {p : Array Nat} {i j : Nat} (hj : j <= p.size) (k : Nat) : (kas_rev p i j).getD k 0 = if i <= k /\ k < j then p.getD (i + j - 1 - k) 0 else p.getD k 0 := by
 unfold kas_rev
 rw [getD_opt, getElem?_mirror_all hj]
 by_cases c : i <= k /\ k < j
 ·rw [if_pos c, if_pos c, getD_opt]
 ·rw [if_neg c, if_neg c, getD_opt]
theorem bub_get {p : Array Nat} {k l : Nat} (hk : k < p.size) (hl : l <= k) (a : Nat) : (bubble p k (k - l)).getD a 0 = if a = l then p.getD k 0 else if l < a /\ a <= k then p.getD (a - 1) 0 else p.getD a 0 := by
 rw [getD_opt, getElem?_bubble hk (k - l) (by omega), show k - (k - l) = l by omega]
 by_cases c1 : a = l
 ·rw [if_pos c1, if_pos c1, getD_opt]
 ·rw [if_neg c1, if_neg c1]
  by_cases c2 : l < a /\ a <= k
  ·rw [if_pos c2, if_pos c2, getD_opt]
  ·rw [if_neg c2, if_neg c2, getD_opt]
theorem Kok.mono {α : Type} {lt : Nat -> Nat -> Bool} {R S : α -> Prop} (h : ∀ a, R a -> S a) : ∀ {t : KasT α}, Kok lt n R t -> Kok lt n S t
 | .ret a, q => h a q
 | .ask i j k, q => ⟨q.1, q.2.1, Kok.mono h q.2.2⟩
theorem Up.snoc {p : Array Nat} {m : Nat} (h : Up key p m) (h1 : 1 <= m) (hl : key (p.getD (m - 1) 0) < key (p.getD m 0)) : Up key p (m + 1) := fun a b hab hb => by
 by_cases e : b = m
 ·subst e
  by_cases e2 : a = b - 1
  ·subst e2; exact hl
  ·exact Int.lt_trans (h a (b - 1) (by omega) (by omega)) hl
 ·exact h a b hab (by omega)
theorem Dn.snoc {p : Array Nat} {m : Nat} (h : Dn key p m) (h1 : 1 <= m) (hl : key (p.getD m 0) < key (p.getD (m - 1) 0)) : Dn key p (m + 1) := fun a b hab hb => by
 by_cases e : b = m
 ·subst e
  by_cases e2 : a = b - 1
  ·subst e2; exact hl
  ·exact Int.lt_trans hl (h a (b - 1) (by omega) (by omega))
 ·exact h a b hab (by omega)
theorem o_asc (hk : ∀ i j, i < n -> j < n -> key i = key j -> i = j) {p : Array Nat} (h : Prm n p) : ∀ f m, 1 <= m -> m + f <= n -> Up key p m ->
  Kok (fun i j => decide (key i < key j)) n (fun r => m <= r /\ r <= m + f /\ Up key p r /\ (r < m + f -> key (p.getD r 0) < key (p.getD (r - 1) 0))) (kas_asc p f m)
 | 0, m, h1, h2, hu => ⟨Nat.le_refl _, Nat.le_refl _, hu, fun z => absurd z (by omega)⟩
 | f + 1, m, h1, h2, hu => ⟨Prm.ltn h (by omega) _, Prm.ltn h (by omega) _, by
  dsimp only
  by_cases hc : key (p.getD m 0) < key (p.getD (m - 1) 0)
  ·rw [if_pos (by simpa using hc)]
   exact ⟨Nat.le_refl _, by omega, hu, fun _ => hc⟩
  ·rw [if_neg (by simpa using hc)]
   have hne := h.unlike hk (show m - 1 < n by omega) (show m < n by omega) (by omega)
   refine Kok.mono (fun r hr => ?_) (o_asc hk h f (m + 1) (by omega) (by omega) (hu.snoc h1 (by omega)))
   exact ⟨by omega, by omega, hr.2.2.1, fun z => hr.2.2.2 (by omega)⟩⟩
theorem o_desc (hk : ∀ i j, i < n -> j < n -> key i = key j -> i = j) {p : Array Nat} (h : Prm n p) : ∀ f m, 1 <= m -> m + f <= n -> Dn key p m ->
  Kok (fun i j => decide (key i < key j)) n (fun r : Array Nat × Nat × Nat => r.1 = p /\ r.2.2 = 0 /\ m <= r.2.1 /\ r.2.1 <= m + f /\ Dn key p r.2.1) (kas_desc f p m 0)
 | 0, m, h1, h2, hu => ⟨rfl, rfl, Nat.le_refl _, Nat.le_refl _, hu⟩
 | f + 1, m, h1, h2, hu => ⟨Prm.ltn h (by omega) _, Prm.ltn h (by omega) _, by
  dsimp only
  by_cases hc : key (p.getD m 0) < key (p.getD (m - 1) 0)
  ·rw [if_pos (by simpa using hc), if_neg (by omega)]
   refine Kok.mono (fun r hr => ?_) (o_desc hk h f (m + 1) (by omega) (by omega) (hu.snoc h1 hc))
   exact ⟨hr.1, hr.2.1, by omega, by omega, hr.2.2.2.2⟩
  ·rw [if_neg (by simpa using hc)]
   have hne := h.unlike hk (show m - 1 < n by omega) (show m < n by omega) (by omega)
   refine ⟨Prm.ltn h (by omega) _, Prm.ltn h (by omega) _, ?_⟩
   dsimp only
   rw [if_pos (decide_eq_true (by omega))]
   exact ⟨rfl, rfl, Nat.le_refl _, by show m <= _; omega, hu⟩⟩
theorem o_tail (hk : ∀ i j, i < n -> j < n -> key i = key j -> i = j) {p : Array Nat} (h : Prm n p) {m : Nat} (h1 : 1 <= m) (h2 : m <= n) (hd : Dn key p m) :
  Kok (fun i j => decide (key i < key j)) n (fun r : Nat × Array Nat => Prm n r.2 /\ 1 <= r.1 /\ r.1 <= n /\ Up key r.2 r.1) (kas_tail3 m n p) := by
 have hs := h.size
 have hu : Up key (kas_rev p 0 m) m := fun a b hab hb => by
  rw [rev_get (by omega), rev_get (by omega), if_pos (by omega), if_pos (by omega)]
  exact hd _ _ (by omega) (by omega)
 refine Kok.bind (o_asc hk (h.rev 0 m) (n - m) m h1 (by omega) hu) fun r hr => ?_
 exact ⟨h.rev 0 m, by show 1 <= r; omega, by show r <= n; omega, hr.2.2.1⟩
theorem o_part (hk : ∀ i j, i < n -> j < n -> key i = key j -> i = j) {p : Array Nat} (h : Prm n p) {m : Nat} (h2 : m + 1 <= n) (hd : Dn key p (m + 1)) :
  Kok (fun i j => decide (key i < key j)) n (fun r : Nat × Array Nat => Prm n r.2 /\ 1 <= r.1 /\ r.1 <= n /\ Up key r.2 r.1) (kas_descPart m n p) := by
 refine Kok.bind (o_desc hk h (n - (m + 1)) (m + 1) (by omega) (by omega) hd) fun r hr => ?_
 obtain ⟨r1, r2, r3⟩ := r
 obtain ⟨e1, e2, e3, e4, e5⟩ := hr
 dsimp only at e1 e2 e3 e4 e5 ⊢
 subst e1 e2
 rw [if_neg (by omega)]
 exact o_tail hk h (by omega) (by omega) e5
theorem o_count (hk : ∀ i j, i < n -> j < n -> key i = key j -> i = j) {p : Array Nat} (h : Prm n p) (hn : 1 <= n) :
  Kok (fun i j => decide (key i < key j)) n (fun r : Nat × Array Nat => Prm n r.2 /\ 1 <= r.1 /\ r.1 <= n /\ Up key r.2 r.1) (kas_count n p) := by
 refine Kok.bind (o_asc hk h (n - 1) 1 (by omega) (by omega) fun a b h1 h2 => absurd h1 (by omega)) fun m hm => ?_
 obtain ⟨m1, m2, m3, m4⟩ := hm
 by_cases h1 : (m == n) = true
 ·rw [if_pos h1]
  exact ⟨h, m1, by show m <= n; omega, m3⟩
 ·rw [if_neg h1]
  have h1 : m ≠ n := by simpa using h1
  by_cases h2 : m > 1
  ·rw [if_pos h2]
   refine ⟨Prm.ltn h (by omega) _, Prm.ltn h (by omega) _, ?_⟩
   dsimp only
   have := m3 0 (m - 1) (by omega) (by omega)
   rw [if_pos (by simpa using this)]
   exact ⟨h, m1, by show m <= n; omega, m3⟩
  ·rw [if_neg h2]
   have e : m = 1 := by omega
   subst e
   exact o_part hk h (by omega) fun a b hab hb => by
    have : a = 0 := by omega
    have : b = 1 := by omega
    subst a b
    exact m4 (by omega)
theorem o_place {p : Array Nat} (h : Prm n p) {k : Nat} (hkn : k < n) (hu : Up key p k) : ∀ f l r, l <= r -> r <= k -> r - l <= f -> (∀ a, a < l -> key (p.getD a 0) <= key (p.getD k 0)) -> (∀ a, r <= a -> a < k -> key (p.getD k 0) < key (p.getD a 0)) ->
  Kok (fun i j => decide (key i < key j)) n (fun l' => l' <= k /\ (∀ a, a < l' -> key (p.getD a 0) <= key (p.getD k 0)) /\ (∀ a, l' <= a -> a < k -> key (p.getD k 0) < key (p.getD a 0))) (kas_place p k f l r)
 | 0, l, r, h1, h2, h3, ha, hb => ⟨by omega, ha, fun a q1 q2 => hb a (by omega) q2⟩
 | f + 1, l, r, h1, h2, h3, ha, hb => by
  show Kok _ n _ (if l >= r then _ else _)
  by_cases hc : l >= r
  ·rw [if_pos hc]
   exact ⟨by omega, ha, fun a q1 q2 => hb a (by omega) q2⟩
  ·rw [if_neg hc]
   refine ⟨Prm.ltn h (by omega) _, Prm.ltn h (by omega) _, ?_⟩
   dsimp only
   by_cases hd : key (p.getD k 0) < key (p.getD ((l + r) / 2) 0)
   ·rw [if_pos (by simpa using hd)]
    refine o_place h hkn hu f _ _ (by omega) (by omega) (by omega) ha fun a q1 q2 => ?_
    by_cases e : a = (l + r) / 2
    ·rw [e]; exact hd
    ·exact Int.lt_trans hd (hu _ _ (by omega) q2)
   ·rw [if_neg (by simpa using hd)]
    refine o_place h hkn hu f _ _ (by omega) (by omega) (by omega) (fun a q1 => ?_) hb
    by_cases e : a = (l + r) / 2
    ·rw [e]; omega
    ·have := hu a ((l + r) / 2) (by omega) (by omega)
     omega
theorem o_bin (hk : ∀ i j, i < n -> j < n -> key i = key j -> i = j) : ∀ f {p : Array Nat} k, Prm n p -> k + f = n -> Up key p k -> Kok (fun i j => decide (key i < key j)) n (fun p' => Prm n p' /\ Up key p' n) (kas_bin f p k)
 | 0, p, k, h, e, hu => ⟨h, by rwa [<- e]⟩
 | f + 1, p, k, h, e, hu => by
  refine Kok.bind (o_place h (by omega) hu k 0 k (by omega) (by omega) (by omega) (fun a q => absurd q (by omega)) (fun a q1 q2 => absurd q2 (by omega))) fun l hl => ?_
  obtain ⟨l1, l2, l3⟩ := hl
  have hs := h.size
  refine o_bin hk f (k + 1) (h.bub _ _) (by omega) fun a b hab hb => ?_
  have hlt : ∀ x, x < l -> key (p.getD x 0) < key (p.getD k 0) := fun x hx => by
   have := l2 x hx
   have := h.unlike hk (show x < n by omega) (show k < n by omega) (by omega)
   omega
  rw [bub_get (by omega) l1, bub_get (by omega) l1]
  by_cases c1 : a = l
  ·rw [if_pos c1, if_neg (by omega), if_pos (by omega)]
   exact l3 _ (by omega) (by omega)
  ·rw [if_neg c1]
   by_cases c2 : b = l
   ·rw [if_neg (by omega), if_pos c2]
    exact hlt _ (by omega)
   ·rw [if_neg c2]
    by_cases c3 : l < a
    ·rw [if_pos (by omega), if_pos (by omega)]
     exact hu _ _ (by omega) (by omega)
    ·rw [if_neg (by omega)]
     by_cases c4 : l < b
     ·rw [if_pos (by omega)]
      by_cases c5 : b - 1 = a
      ·omega
      ·exact hu _ _ (by omega) (by omega)
     ·rw [if_neg (by omega)]
      exact hu _ _ hab (by omega)
theorem o_sort (hk : ∀ i j, i < n -> j < n -> key i = key j -> i = j) (hn : 1 <= n) : Kok (fun i j => decide (key i < key j)) n (fun p => Prm n p /\ Up key p n) (kas_sort n) :=
 Kok.bind (o_count hk (p := (List.range n).toArray) (by unfold Prm; simp) hn) fun a ha => by
  obtain ⟨a1, a2, a3, a4⟩ := ha
  by_cases h1 : a.1 < n
  ·rw [if_pos h1, show max a.1 1 = a.1 by omega]
   exact o_bin hk _ _ a1 (by omega) a4
  ·rw [if_neg h1]
   have e : a.1 = n := by omega
   exact ⟨a1, by rwa [e] at a4⟩
end
section
variable {n : Nat} {lt : Nat -> Nat -> Bool}
theorem count_lt {p q : Nat -> Bool} : ∀ {l : List Nat} {i : Nat}, i ∈ l -> (∀ x ∈ l, p x = true -> q x = true) -> p i = false -> q i = true -> l.countP p < l.countP q
 | [], _, h, _, _, _ => by cases h
 | a :: l, i, h, hpq, hp, hq => by
  rw [List.countP_cons, List.countP_cons]
  have hm : l.countP p <= l.countP q := List.countP_mono_left fun x hx => hpq x (List.mem_cons_of_mem _ hx)
  rcases List.mem_cons.mp h with rfl | h
  ·rw [hp, hq]
   simp
   omega
  ·have ih := count_lt h (fun x hx => hpq x (List.mem_cons_of_mem _ hx)) hp hq
   have := hpq a List.mem_cons_self
   cases hpa : p a with
   | true => rw [this hpa]; simp; exact ih
   | false => simp; split <;> omega
theorem Kok.congr {α : Type} {lt' : Nat -> Nat -> Bool} {R : α -> Prop} (h : ∀ i j, i < n -> j < n -> lt i j = lt' i j) : ∀ {t : KasT α}, Kok lt n R t -> Kok lt' n R t
 | .ret a, q => q
 | .ask i j k, q => ⟨q.1, q.2.1, h i j q.1 q.2.1 ▸ Kok.congr h q.2.2⟩
theorem o_sortL (irr : ∀ i, i < n -> lt i i = false) (tr : ∀ i j k, i < n -> j < n -> k < n -> lt i j = true -> lt j k = true -> lt i k = true) (tot : ∀ i j, i < n -> j < n -> i ≠ j -> lt i j = true \/ lt j i = true) (hn : 1 <= n) :
  Kok lt n (fun p => Prm n p /\ ∀ a b, a < b -> b < n -> lt (p.getD a 0) (p.getD b 0) = true) (kas_sort n) := by
 obtain ⟨key, hkey⟩ : ∃ key : Nat -> Int, ∀ i, key i = (((List.range n).countP fun x => lt x i : Nat) : Int) := ⟨_, fun _ => rfl⟩
 have up : ∀ i j, i < n -> j < n -> lt i j = true -> key i < key j := fun i j hi hj h => by
  rw [hkey, hkey]
  have := count_lt (p := fun x => lt x i) (q := fun x => lt x j) (l := List.range n) (i := i) (List.mem_range.mpr hi) (fun x hx hxi => tr x i j (List.mem_range.mp hx) hi hj hxi h) (irr i hi) h
  omega
 have eq : ∀ i j, i < n -> j < n -> lt i j = decide (key i < key j) := fun i j hi hj => by
  cases h : lt i j with
  | true => exact (decide_eq_true (up i j hi hj h)).symm
  | false =>
   refine (decide_eq_false fun z => ?_).symm
   by_cases e : i = j
   ·rw [e] at z; omega
   ·rcases tot i j hi hj e with t | t
    ·rw [h] at t; cases t
    ·have := up j i hj hi t
     omega
 have hk : ∀ i j, i < n -> j < n -> key i = key j -> i = j := fun i j hi hj e => by
  by_cases h : i = j
  ·exact h
  ·rcases tot i j hi hj h with t | t
   ·have := up i j hi hj t; omega
   ·have := up j i hj hi t; omega
 refine Kok.congr (lt := fun i j => decide (key i < key j)) (fun i j hi hj => (eq i j hi hj).symm) (Kok.mono (fun p hp => ⟨hp.1, fun a b hab hb => ?_⟩) (o_sort hk hn))
 rw [eq _ _ (hp.1.ltn (by omega) _) (hp.1.ltn (by omega) _)]
 exact decide_eq_true (hp.2 a b hab hb)
end
def lexB : List Int -> List Int -> Bool -> Bool
 | x :: xs, y :: ys, f => if x = y then lexB xs ys f else decide (x < y)
 | [], _, f => f
 | _ :: _, [], f => f
theorem lex_irr : ∀ a : List Int, lexB a a false = false
 | [] => rfl
 | x :: a => by rw [lexB, if_pos rfl, lex_irr a]
theorem lex_tr : ∀ {a b c : List Int}, a.length = b.length -> b.length = c.length -> lexB a b false = true -> lexB b c false = true -> lexB a c false = true
 | [], _, _, _, _, h, _ => by simp [lexB] at h
 | x :: a, [], _, h, _, _, _ => by simp at h
 | x :: a, y :: b, [], _, h, _, _ => by simp at h
 | x :: a, y :: b, z :: c, h1, h2, h, h' => by
  rw [lexB] at h h' ⊢
  by_cases e1 : x = y
  ·subst e1
   rw [if_pos rfl] at h
   by_cases e2 : x = z
   ·subst e2
    rw [if_pos rfl] at h' ⊢
    exact lex_tr (by simpa using h1) (by simpa using h2) h h'
   ·rw [if_neg e2] at h' ⊢
    exact h'
  ·rw [if_neg e1] at h
   have h := of_decide_eq_true h
   by_cases e2 : y = z
   ·subst e2
    rw [if_neg e1]
    exact decide_eq_true h
   ·rw [if_neg e2] at h'
    have h' := of_decide_eq_true h'
    rw [if_neg (by omega)]
    exact decide_eq_true (by omega)
theorem lex_tot : ∀ {a b : List Int}, a.length = b.length -> a ≠ b -> lexB a b false = true \/ lexB b a false = true
 | [], [], _, h => (h rfl).elim
 | [], y :: b, h, _ => by simp at h
 | x :: a, [], h, _ => by simp at h
 | x :: a, y :: b, h, hne => by
  rw [lexB, lexB]
  by_cases e : x = y
  ·subst e
   rw [if_pos rfl, if_pos rfl]
   exact lex_tot (by simpa using h) fun z => hne (by rw [z])
  ·rw [if_neg e, if_neg (Ne.symm e)]
   rcases Int.lt_or_gt_of_ne e with q | q
   ·exact .inl (decide_eq_true q)
   ·exact .inr (decide_eq_true q)
section
variable {P : Program} {w : World} {A : Around} {E : Value -> Shared -> Prop} {s : Shared}
theorem lex_ints {b f : Bool} {Q : Bool -> Shared -> Prop} : ∀ {ms ns : List Int} {xs ys : List Value}, Vals (ms.map V.int) xs -> Vals (ns.map V.int) ys -> ∀ i, Q (lexB ms ns f) s -> KatLex P w A b f Q (xs.zip ys) i s
 | [], _, _, _, r, _, i, h => by
  cases r
  exact h
 | m :: ms, [], _, _, r, r', i, h => by
  cases r'
  rw [List.zip_nil_right]
  exact h
 | m :: ms, n :: ns, _, _, r, r', i, h => by
  rw [List.map_cons] at r r'
  cases r with
  | cons a1 a2 =>
  cases r' with
  | cons b1 b2 =>
  obtain ⟨t, rfl⟩ := a1
  obtain ⟨t', rfl⟩ := b1
  rw [List.zip_cons_cons]
  refine kat_cons (wpAny_eqBool_int ?_)
  by_cases e : m = n
  ·rw [show (m == n) = true by simp [e]]
   refine kat_yes (lex_ints a2 b2 (i + 1) ?_)
   rwa [lexB, if_pos e] at h
  ·rw [show (m == n) = false by simp [e]]
   refine kat_no ?_
   rw [lexB, if_neg e] at h
   cases hf : (b && i == 0) with
   | true => exact oneLt_int h
   | false => exact kat_one _ _ (lt_int h)
theorem tups_of {h : Heap} : ∀ {us : List Value}, (∀ v ∈ us, ∃ b o xs m i t, v = .ref b /\ h.get? b = some o /\ o.cls = .type "tuple" /\ o.data = .seq xs m /\ xs[0]? = some (Value.int i t)) ->
  ∃ fs, KatTups h us fs /\ fs.length = us.length /\ ∀ f ∈ fs, ∃ i t, f = Value.int i t
 | [], _ => ⟨[], trivial, rfl, fun _ h => by cases h⟩
 | v :: us, hv => by
  obtain ⟨b, o, xs, m, i, t, rfl, h1, h2, h3, h4⟩ := hv v (.head _)
  obtain ⟨fs, k1, k2, k3⟩ := tups_of (us := us) fun v hm => hv v (.tail _ hm)
  exact ⟨_ :: fs, KatTups.cons h1 h2 h3 h4 k1, by rw [List.length_cons, List.length_cons, k2], fun f hf => (List.mem_cons.mp hf).elim (fun e => ⟨i, t, e⟩) (k3 f)⟩
end
section
variable {X : Cx}
theorem vals_getD : ∀ {ys : List V} {us : List Value} {i : Nat}, Vals ys us -> i < ys.length -> RelV (ys.getD i .non) (us.getD i Value.none)
 | _, _, _, .nil, h => by simp at h
 | _, _, 0, .cons r _, _ => r
 | _, _, i + 1, .cons _ t, h => by
  simp only [List.getD_cons_succ]
  exact vals_getD t (by simpa using h)
theorem vals_pick {ys : List V} {us : List Value} (r : Vals ys us) : ∀ {l : List Nat}, (∀ i ∈ l, i < ys.length) -> Vals (l.map fun i => ys.getD i .non) (l.map fun i => us.getD i Value.none)
 | [], _ => .nil
 | i :: l, h => .cons (vals_getD r (h i (.head _))) (vals_pick r fun j hj => h j (.tail _ hj))
theorem getD_rangeV (ys : List V) : ((List.range ys.length).map fun i => ys.getD i V.non) = ys := by
 refine List.ext_getElem (by simp) fun i h1 h2 => ?_
 simp [h2]
def SortOk (ys : List V) (ts : V -> List Int) (p : Array Nat) : Prop := ∀ m, (∀ y ∈ ys, (ts y).length = m) -> (ys.map ts).Nodup -> ∀ a b, a < b -> b < ys.length -> lexB (ts (ys.getD (p.getD a 0) .non)) (ts (ys.getD (p.getD b 0) .non)) false = true
theorem sort_ok {ys : List V} {ts : V -> List Int} (hn : 1 <= ys.length) : Kok (fun i j => lexB (ts (ys.getD i .non)) (ts (ys.getD j .non)) (decide ((ts (ys.getD i .non)).length < (ts (ys.getD j .non)).length))) ys.length (fun p => Prm ys.length p /\ SortOk ys ts p) (kas_sort ys.length) := by
 by_cases h : ∃ m, (∀ y ∈ ys, (ts y).length = m) /\ (ys.map ts).Nodup
 ·obtain ⟨m, h1, h2⟩ := h
  have hm : ∀ i, i < ys.length -> (ts (ys.getD i .non)).length = m := fun i hi => h1 _ (by simp [hi])
  have hf : ∀ i j, i < ys.length -> j < ys.length -> decide ((ts (ys.getD i .non)).length < (ts (ys.getD j .non)).length) = false := fun i j hi hj => by
   rw [hm i hi, hm j hj]; simp
  refine Kok.mono (fun p hp => ⟨hp.1, fun _ _ _ a b hab hb => ?_⟩) (o_sortL (n := ys.length) (lt := fun i j => lexB (ts (ys.getD i .non)) (ts (ys.getD j .non)) (decide ((ts (ys.getD i .non)).length < (ts (ys.getD j .non)).length))) (fun i hi => ?_) (fun i j k hi hj hk h h' => ?_) (fun i j hi hj hne => ?_) hn)
  ·rw [hf i i hi hi]; exact lex_irr _
  ·rw [hf i j hi hj] at h
   rw [hf j k hj hk] at h'
   rw [hf i k hi hk]
   exact lex_tr ((hm i hi).trans (hm j hj).symm) ((hm j hj).trans (hm k hk).symm) h h'
  ·rw [hf i j hi hj, hf j i hj hi]
   refine lex_tot ((hm i hi).trans (hm j hj).symm) fun e => hne ?_
   refine (List.getElem?_inj (by rw [List.length_map]; exact hi) h2).mp ?_
   rw [List.getElem?_map, List.getElem?_map, List.getElem?_eq_getElem hi, List.getElem?_eq_getElem hj]
   have q1 : ys.getD i .non = ys[i] := by simp [hi]
   have q2 : ys.getD j .non = ys[j] := by simp [hj]
   rw [q1, q2] at e
   exact congrArg some e
  ·have := hp.2 a b hab hb
   rwa [hf _ _ (hp.1.ltn (by omega) _) (hp.1.ltn (by omega) _)] at this
 ·exact Kok.mono (fun p hp => ⟨hp, fun m h1 h2 => absurd ⟨m, h1, h2⟩ h⟩) (kok_sort hn)
end
def But (D : Addr) (H H' : Hp) : Prop := ∀ b u, b ≠ D -> H b = some u -> H' b = some u
theorem Same.seqT {K : Fg_} {H H' : Hp} {a : Addr} {xs : List V} (e : Same H H') (h : SqT K H a xs) : SqT K H' a xs := h.elim (fun h => h.elim (fun h => .inl (.inl (e _ _ h))) fun ⟨o, h⟩ => .inl (.inr ⟨o, e _ _ h⟩)) .inr
section
variable {K : Fg_} {a : Addr} {xs : List V} {g : TG} {te : TE} {σ : St} {H : Hp} {Q : VK} {cap : List (Option Nat)}
theorem CompP.listE (Sσ : St -> Prop) (F : Nat -> V -> Hp -> Prop) (hS : SqL K H a xs) (h0 : Sσ (capSt σ cap)) (hz : xs.length <= sizeLine)
  (hs : ∀ D i x, xs[i]? = some x -> ∀ (σ : St) (H5 : Hp) (R : St -> VK), Sσ σ -> Same H H5 -> H D = Option.none -> (∃ acc, H5 D = some (.lst acc)) -> (∀ v σ4 H6, Sσ σ4 -> Same H5 H6 -> (∀ H', But D H6 H' -> F i v H') -> R σ4 v H6) ->
   g x σ H5 fun σ4 H4 => te σ4 H4 (R σ4))
  (k : ∀ D H' acc, H D = Option.none -> Same H H' -> H' D = some (.lst acc) -> acc.length = xs.length -> (∀ i v, acc[i]? = some v -> F i v H') -> Q (.ref D) H') : CompP cap (Itl K a) g tNoIf te σ H Q := by
 intro D hD
 refine ⟨fun i m acc σ H2 => m = xs.length - i /\ i <= xs.length /\ Sσ σ /\ Same H H2 /\ acc.length = i /\ ∀ j v, acc[j]? = some v -> ∀ H', But D H2 H' -> F j v H', ⟨xs.length, rfl, Nat.zero_le _, h0, Same.new hD, rfl, fun j v e => by simp at e⟩, ?_⟩
 rintro i m acc σ1 H2 ⟨rfl, hi, hσ, sm, hal, hF⟩ hA
 by_cases hlt : i < xs.length
 ·have hx : xs[i]? = some xs[i] := by simp [hlt]
  refine .inr ⟨⟨xs, xs[i], sm.seq hS, hx⟩, fun y H3 hy => ?_⟩
  obtain rfl : H3 = H2 := hy.1
  obtain rfl : y = xs[i] := Option.some.inj ((hy.2 xs (sm.seq hS)).symm.trans hx)
  simp only [ap_noIf, if_true]
  refine hs D i _ hx σ1 H3 _ hσ sm hD ⟨_, hA⟩ fun v σ4 H6 hσ4 s6 hF6 => ?_
  have hA6 := s6 _ _ hA
  refine ⟨acc, hA6, by omega, xs.length - (i + 1), by omega, rfl, hlt, hσ4, (sm.trans s6).upd hD, by rw [List.length_append, hal]; rfl, fun j u hj H' hb => ?_⟩
  have hb6 : But D H6 H' := fun b o hne e => hb b o hne ((upd_ne hne).trans e)
  by_cases hjl : j < acc.length
  ·rw [List.getElem?_append_left hjl] at hj
   exact hF j u hj H' fun b o hne e => hb6 b o hne (s6 _ _ e)
  ·rw [List.getElem?_append_right (by omega)] at hj
   have hj0 : j - acc.length = 0 := by
    have := (List.getElem?_eq_some_iff.mp hj).1
    simp at this
    omega
   rw [hj0] at hj
   cases hj
   obtain rfl : j = i := by omega
   exact hF6 H' hb6
 ·obtain rfl : i = xs.length := by omega
  exact .inl ⟨⟨xs, sm.seq hS, Nat.le_refl _⟩, k D H2 acc hD sm hA hal fun j v e => hF j v e H2 fun b o _ e => e⟩
theorem CompP.tupF (Sσ : St -> Prop) (F : V -> V) (hS : SqT K H a xs) (h0 : Sσ (capSt σ cap)) (hz : xs.length <= sizeLine)
  (hs : ∀ x ∈ xs, ∀ (σ : St) (H5 : Hp) (R : St -> VK), Sσ σ -> Same H H5 -> (∀ σ4 H6, Sσ σ4 -> Same H5 H6 -> R σ4 (F x) H6) -> g x σ H5 fun σ4 H4 => te σ4 H4 (R σ4))
  (k : ∀ D H', H D = Option.none -> Same H H' -> H' D = some (.lst (xs.map F)) -> Q (.ref D) H') : CompP cap (Itt K a) g tNoIf te σ H Q := by
 intro D hD
 have z := comp_step (te := te) (tt := tNoIf) (g := g) (σ0 := capSt σ cap) (Q := Q) (Itt K a) Sσ (fun _ => true) F hD h0 hz (fun i x H5 hx sm => ⟨⟨xs, x, sm.seqT hS, hx⟩, fun y H' hy => ⟨Option.some.inj ((hy.2 xs (sm.seqT hS)).symm.trans hx), hy.1⟩⟩) (fun H5 sm => ⟨xs, sm.seqT hS, Nat.le_refl _⟩)
  (fun x hx σ5 H5 R1 R2 hσ sm k1 k2 => by
   simp only [ap_noIf, if_true]
   exact hs x hx σ5 H5 R1 hσ sm (k1 rfl)) (fun H' sm e => k D H' hD sm (by rw [filt_true] at e; exact e))
 exact z
end
end L2
namespace L2
open PySem PySem.Spec PyProof.Rows
structure Mk0 (K : Fg_) (C : Addr) : Prop where
 makes : PySem.W.makesIn K C = true
 init : PySem.W.findIn K (.ref C) "__init__" = some (some (.builtin "object.__init__"))
 kp : PySem.W.keepIn K (.ref C) = true
end L2
namespace PySem
open PySem.Spec PyProof.Rows
end PySem
namespace L2
open PySem PySem.W PySem.Spec PyProof.Rows
section
variable {X : Cx} {pins : List (Addr × Obj)} {σ : St} {H : Hp} {s : Shared} {h' : Heap}
theorem Inv.adopt {t' c : Nat} {D : Addr} {zs : List V} {its : List Value} (I : Inv X pins σ H s) (hf : FpOk X pins H D) (k : ∀ b o, b ≠ D -> s.heap.get? b = some o -> h'.get? b = some o)
  (hD : h'.get? D = some { cls := .type "list", data := .seq its.toArray c }) (hv : Vals zs its) (hz : zs.length <= sizeLine) : Inv X pins σ (upd H D (.lst zs)) { s with heap := h', toks := t' } := by
 obtain ⟨hn, hL, hfs, h1, h2, h3⟩ := hf
 have nit : ∀ b u, H b = some u -> b ≠ D := fun b u e z => by rw [z, hn] at e; cases e
 refine I.step (g' := s.gens) (d' := s.drawn) (ch := [D]) (fun b hb => ?_) (fun b o _ _ hc e _ => k b o (fun z => hc (by simp [z])) e) (fun b o _ _ hc e _ => ⟨o.slots, k b o (fun z => hc (by simp [z])) e⟩) (fun b o hc e n => (upd_ne fun z => hc (by simp [z])).trans n)
  (fun b o hc e => ⟨o, k b o (fun z => hc (by simp [z])) e⟩) (fun b xs e => (upd_ne (nit b _ e)).trans e) (fun b o u e => (upd_ne (nit b _ e)).trans e) (fun b ps e => ⟨#[], by rw [upd_ne (nit b _ e), e]; simp⟩) (fun m hm => ?_) (fun b u e => ?_) I.bare
 ·have e : b = D := by simpa using hb
  subst e
  exact ⟨h1, hL, h2, h3⟩
 ·obtain ⟨o, es, ep, ho, r⟩ := hm
  exact ⟨o, es, ep, k _ o (Ne.symm hL) ho, r⟩
 ·by_cases z : b = D
  ·subst z
   rw [upd_same] at e
   cases e
   exact ⟨hz, its, c, hv, hD⟩
  ·rw [upd_ne z] at e
   refine (I.hok b u e).stay (fun c v hc q => k c v ?_ q) (fun c q => ?_) fun c v q => ?_
   ·rcases hc with y | y
    ·rw [y]; exact nit b u e
    ·exact nit c _ y
   ·exact (upd_ne (nit c _ q)).trans q
   ·exact (upd_ne (nit c _ q)).trans q
end
section
variable {X : Cx} {pins : List (Addr × Obj)} {σ : St} {H : Hp} {s : Shared} {k : Nat} {f : Addr} {fd : FuncData} {ps : List Str} {sp : Sp}
theorem run_key {Q : VK} {v : V} {u : Value} (F : FnOk X.prog X.w X.K X.mg X.base CX0 k f fd ps sp) (hr : Room (k + 2) X.A) (hb : Binds X.K fd ps []) (I : Inv X pins σ H s) (r : RelV v u) (h : sp [v] H Q E0) :
  wpAny (model X.prog X.w) X.A.in1.in1 (call (.ref f) [u]) (EP X pins σ Q) (fun _ _ => False) s := by
 have r2 : Vals [v] [u] := .cons r .nil
 have hl : ([u] ++ ([] : List Value)).length = ps.length := by
  have := F.len _ _ _ _ h
  rw [<- this]; rfl
 refine wpAny_call (codeAny_mono (F.run X.A.in1.in1 X.stack s H ⟨[u], []⟩ [u] [v] Q E0 hr.in1.in1 I.env0.in1.in1 (hb s [u] I.kIn hl) r2 h) fun r s' hq => ?_)
 cases r with
 | error e => exact hq.elim
 | ok fl =>
  cases fl with
  | ret u => exact I.after hq
  | next => exact False.elim hq
  | brk => exact False.elim hq
  | cont => exact False.elim hq
theorem Paired.imp {α β : Type} {P P' : α -> β -> Prop} (h : ∀ a b, P a b -> P' a b) : ∀ {xs : List α} {ys : List β}, Paired P xs ys -> Paired P' xs ys
 | _, _, .nil => .nil
 | _, _, .cons a t => .cons (h _ _ a) (Paired.imp h t)
def KeyAt (kf : V -> List Int) (H : Hp) (y v : V) : Prop := ∃ t, v = .ref t /\ H t = some (.tup ((kf y).map V.int))
theorem KeyAt.same {kf : V -> List Int} {H H' : Hp} {y v : V} (h : KeyAt kf H y v) (e : ∀ t xs, H t = some (.tup xs) -> H' t = some (.tup xs)) : KeyAt kf H' y v := let ⟨t, a, b⟩ := h; ⟨t, a, e _ _ b⟩
def KeyFn (sp : Sp) (kf : V -> List Int) (H : Hp) (y : V) : Prop := ∀ H1, Same H H1 -> ∀ R : VK, (∀ t H2, Same H1 H2 -> H2 t = some (.tup ((kf y).map V.int)) -> R (.ref t) H2) -> sp [y] H1 R E0
theorem key_loop {E : Value -> Shared -> Prop} {kf : V -> List Int} {H0 : Hp} {kS : Addr} {Q' : Shared -> Prop} {body : Value -> PUnit -> Sem (ForInStep PUnit)} (F : FnOk X.prog X.w X.K X.mg X.base CX0 k f fd ps sp) (hr : Room (k + 2) X.A) (hb : Binds X.K fd ps [])
  (hbody : ∀ x s (D' : Shared -> Prop), wpAny (model X.prog X.w) X.A.in1.in1 (call (.ref f) [x]) (fun k s' => ∃ its n, s'.heap.get? kS = some { cls := .type "list", data := .seq its n } /\ its.size < 64 /\ D' { s' with heap := s'.heap.update kS (Obj.mapSeq (·.push k)) }) (fun _ _ => False) s ->
   wpAny (model X.prog X.w) X.A.in1.in1 (body x ⟨⟩) (fun r s' => r = .yield ⟨⟩ /\ D' s') E s) (hS0 : H0 kS = none) :
  ∀ (ys : List V) (us : List Value) (ys0 kvs : List V) (H1 : Hp) (s1 : Shared), Vals ys us -> ys0.length + ys.length < 64 -> Inv X pins σ H1 s1 -> H1 kS = some (.lst kvs) -> Same H0 H1 -> (∀ y ∈ ys, KeyFn sp kf H0 y) -> Paired (KeyAt kf H1) ys0 kvs ->
   (∀ kvs2 H2 s2, Inv X pins σ H2 s2 -> H2 kS = some (.lst kvs2) -> Same H0 H2 -> Paired (KeyAt kf H2) (ys0 ++ ys) kvs2 -> Q' s2) -> wpAny (model X.prog X.w) X.A.in1.in1 (forIn us PUnit.unit body) (fun _ s2 => Q' s2) E s1
 | _, _, ys0, kvs, H1, s1, .nil, hl, I, hH, sm, hk, hp, fin => by
  rw [List.forIn_nil]
  rw [List.append_nil] at fin
  exact wpAny_pure (fin kvs H1 s1 I hH sm hp)
 | y :: ys, u :: us, ys0, kvs, H1, s1, .cons ru rus, hl, I, hH, sm, hk, hp, fin => by
  rw [List.forIn_cons]
  rw [List.length_cons] at hl
  have hkl : ys0.length = kvs.length := Paired.length hp
  have h1 := run_key F hr hb I ru (hk y List.mem_cons_self H1 sm (fun v H2 => ∃ t, v = .ref t /\ Same H1 H2 /\ H2 t = some (.tup ((kf y).map V.int))) fun t H2 s2 ht => ⟨t, rfl, s2, ht⟩)
  refine wpAny_bind (wpAny_mono (hbody u s1 (fun s2 => ∃ kvs' H3, Inv X pins σ H3 s2 /\ H3 kS = some (.lst kvs') /\ Same H0 H3 /\ Paired (KeyAt kf H3) (ys0 ++ [y]) kvs') (wpAny_mono h1 (fun kv s2 hq => ?_) fun _ _ x => x)) (fun r s2 hq => ?_) fun _ _ x => x)
  ·obtain ⟨v, H2, I2, rv, t, rfl, s12, ht⟩ := hq
   have hH2 := s12 _ _ hH
   obtain ⟨z, its, n, r, hl2, e⟩ := I2.lstM hH2
   refine ⟨its.toArray, n, e, by rw [List.size_toArray]; omega, kvs ++ [.ref t], _, I2.lset (t' := s2.toks) (its' := its ++ [kv]) hH2 e (by simp) (r.append (.cons rv .nil)) (by rw [List.length_append, List.length_singleton, sizeLine_eq]; omega), upd_same, ?_, ?_⟩
   ·exact (sm.trans s12).upd hS0
   ·have up : ∀ b xs, H2 b = some (.tup xs) -> (upd H2 kS (.lst (kvs ++ [V.ref t]))) b = some (.tup xs) := fun b xs q => (upd_ne fun z => by rw [z, hH2] at q; cases q).trans q
    exact Paired.snoc (Paired.imp (fun a b q => q.same fun t xs h => up _ _ (s12 _ _ h)) hp) ⟨t, rfl, up _ _ ht⟩
  ·obtain ⟨rfl, kvs', H3, I3, hH3, sm3, hp3⟩ := hq
   refine key_loop F hr hb hbody hS0 ys us (ys0 ++ [y]) kvs' H3 s2 rus (by rw [List.length_append, List.length_singleton]; omega) I3 hH3 sm3 (fun z hz => hk z (List.mem_cons_of_mem _ hz)) hp3 fun kvs2 H4 s4 I4 hH4 sm4 hp4 => fin kvs2 H4 s4 I4 hH4 sm4 ?_
   rwa [List.append_assoc] at hp4
end
section
variable {P : Program} {w : World} {A : Around} {E : Value -> Shared -> Prop} {s : Shared}
theorem end_keyed {G : Array Nat -> Prop} {ks us : List Value} {a kS : Addr} {e1 nk : Nat} {R : PySem.Fin -> Shared -> Prop} (fs : Nat -> List Int) (hkl : ks.length = us.length) (hlen : us.length < 64) (hk : s.heap.get? kS = some (seqObj "list" ks.toArray nk)) (ho : s.heap.get? a = some (seqObj "list" #[] e1)) (hak : a ≠ kS)
  (hT : ∀ i, i < us.length -> fs i ≠ [] /\ ∃ b o xs m, ks.getD i Value.none = .ref b /\ s.heap.get? b = some o /\ o.cls = .type "tuple" /\ o.data = .seq xs m /\ Vals ((fs i).map V.int) xs.toList)
  (hG : 0 < us.length -> Kok (fun i j => lexB (fs i) (fs j) (decide ((fs i).length < (fs j).length))) us.length G (kas_sort us.length)) (hG0 : us.length < 2 -> G (List.range us.length).toArray) (hGP : ∀ p, G p -> Prm us.length p)
  (fin : ∀ p : Array Nat, G p -> R (.done (.ret .none)) { s with heap := (s.heap.update kS (Obj.mapSeq fun _ => #[])).update a (Obj.mapSeq fun _ => List.toArray (p.toList.map fun i => us.getD i Value.none)) }) :
  wpAny (model P w) A (ksk_end a false us.toArray e1 (.ref kS) ks.toArray) R E s := by
 have hus : us.toArray.size = us.length := by simp
 have tail : ∀ st' (p : Array Nat), arrOf st' = p.map (kas_item (ks.toArray.zip us.toArray)) -> failedOf st' = none -> G p -> wpAny (model P w) A (ksk_tail a false e1 (.ref kS) st') R E s := fun st' p har hf hp => by
  have hpl : (p.toList.map fun i => us.getD i Value.none).length = us.length := by rw [List.length_map, (hGP p hp).length_eq]; simp
  have ho2 : (s.heap.update kS (Obj.mapSeq fun _ => #[])).get? a = some (seqObj "list" #[] e1) := (Heap.get?_update_ne _ _ _ _ hak).trans ho
  unfold ksk_tail
  try dsimp only
  rw [kat_snds hkl har]
  refine wpAny_bind (listUpdate_at hk rfl ?_ (by rw [List.size_toArray, sizeLine_eq]; omega) (Nat.zero_le _))
  refine wpAny_bind (wpAny_letGo ?_)
  refine wpAny_bind (seqEpoch_at ho2 rfl ?_)
  refine wpAny_bind (listUpdate_at ho2 rfl ?_ (Nat.zero_le _) (by simp only [Bool.false_eq_true, if_false]; rw [List.size_toArray, hpl, sizeLine_eq]; omega))
  rw [hf]
  simp only [bne_self_eq_false, Bool.false_eq_true, if_false]
  exact wpAny_pure (fin p hp)
 unfold ksk_end
 try dsimp only
 rw [if_neg (by decide)]
 by_cases h2 : us.toArray.size < 2
 ·rw [if_pos h2, if_pos h2]
  refine wpAny_bind (wpAny_pure ?_); rw [StateT.run_pure]; refine wpAny_bind (wpAny_pure ?_); dsimp only
  refine tail _ (List.range us.length).toArray ?_ rfl (hG0 (by rw [<- hus]; exact h2))
  have e := kas_range (ks.toArray.zip us.toArray)
  rw [show (ks.toArray.zip us.toArray).size = us.length by simp [hkl]] at e
  exact e.symm
 ·rw [if_neg h2, if_neg h2]
  have hn : 0 < us.length := by omega
  obtain ⟨ff, k1, k2, k3⟩ := tups_of (h := s.heap) (us := ks) (by
   intro v hv
   obtain ⟨i, hi, e⟩ := List.getElem_of_mem hv
   obtain ⟨g0, b, o, xs, m, g1, g3, g4, g5, g6⟩ := hT i (by omega)
   have e2 : ks.getD i Value.none = v := by rw [<- e]; simp [hi]
   cases hq : fs i with
   | nil => exact (g0 hq).elim
   | cons z zs =>
    rw [hq, List.map_cons] at g6
    cases hx : xs.toList with
    | nil => rw [hx] at g6; cases g6
    | cons u ur =>
     rw [hx] at g6
     cases g6 with
     | cons r1 r2 =>
     obtain ⟨t, rfl⟩ := r1
     refine ⟨b, o, xs, m, z, t, e2.symm.trans g1, g3, g4, g5, ?_⟩
     rw [<- Array.getElem?_toList, hx]; rfl)
  refine wpAny_bind (kat_kind k1 (by omega) (fun v hv => ?_) (T := .type "int") rfl ?_)
  ·obtain ⟨i, t, rfl⟩ := k3 v hv
   exact Looks.of_pure rfl
  refine wpAny_bind (wpAny_mono (kat_run (ks := ks) (vs := us) (Q := fun st' s' => ∃ p : Array Nat, arrOf st' = p.map (kas_item (ks.toArray.zip us.toArray)) /\ failedOf st' = none /\ G p /\ s' = s)
   (G := fun p s' => G p /\ s' = s) hkl (by omega) hlen (fun p st' s' a1 a2 a3 a4 => ⟨p, a2, a3, a4.1, a4.2⟩)
   (Kok.wp (lt := fun i j => lexB (fs i) (fs j) (decide ((fs i).length < (fs j).length))) (fun i j C hi hj hC => ?_) (hG hn) fun p hp => ⟨hp, rfl⟩)) ?_ fun _ _ e => e)
  ·obtain ⟨_, b, o, xs, m, g1, g3, g4, g5, g6⟩ := hT i hi
   obtain ⟨_, b', o', xs', m', g1', g3', g4', g5', g6'⟩ := hT j hj
   show wpAny _ _ (keyLt' _ (ks.getD i Value.none) (ks.getD j Value.none)) _ _ _
   rw [g1, g1']
   refine kat_lt g3 g5 g3' g5' (lex_ints g6 g6' 0 ?_)
   have z1 : (fs i).length = xs.size := by simpa using g6.length
   have z2 : (fs j).length = xs'.size := by simpa using g6'.length
   rw [<- z1, <- z2]
   exact hC
  ·rintro ⟨⟨⟩, st'⟩ s' ⟨p, har, hf, hp, rfl⟩
   dsimp only
   exact tail st' p har hf hp
end
theorem ksk_s1' (a v : Value) : argsOk "list.sort" ⟨[a], [(Str.ofString "key", v)]⟩ := by unfold argsOk; kernel_rfl
section
variable {X : Cx} {pins : List (Addr × Obj)} {σ : St} {H : Hp} {s : Shared} {k : Nat} {f : Addr} {fd : FuncData} {ps : List Str} {sp : Sp}
def rSortK (K : Fg_) (sp : Sp) : V -> Hp -> VK -> Prop := fun x H Q => ∃ (a : Addr) (ys : List V) (kf : V -> List Int), x = .ref a /\ SqL K H a ys /\ ys.length < 64 /\ (∀ y ∈ ys, kf y ≠ [] /\ KeyFn sp kf H y) /\
 ∀ p zs H', Same H H' -> H p = none -> H' p = some (.lst zs) -> zs.Perm ys -> (∀ m, (∀ y ∈ ys, (kf y).length = m) -> (ys.map kf).Nodup -> zs.Pairwise fun y z => lexB (kf y) (kf z) false = true) -> Q (.ref p) H'
theorem paired_getD {α β : Type} {Pr : α -> β -> Prop} {d1 : α} {d2 : β} : ∀ {xs : List α} {ys : List β} {i : Nat}, Paired Pr xs ys -> i < xs.length -> Pr (xs.getD i d1) (ys.getD i d2)
 | _, _, _, .nil, h => by simp at h
 | _, _, 0, .cons r _, _ => r
 | _, _, i + 1, .cons _ t, h => by
  simp only [List.getD_cons_succ]
  exact paired_getD t (by simpa using h)
theorem sorted_key {Q : VK} {x : V} {u : Value} (F : FnOk X.prog X.w X.K X.mg X.base CX0 k f fd ps sp) (hr : Room (k + 2) X.A) (hb : Binds X.K fd ps []) (I : Inv X pins σ H s) (rx : RelV x u) (h : rSortK X.K sp x H Q) :
  wpAny (model X.prog X.w) X.A (call (.builtin "sorted") [u] [(Str.ofString "key", .ref f)]) (EP X pins σ Q) X.xe s := by
 obtain ⟨a, ys, kf, rfl, hq, hlen, hK, q⟩ := h
 cases rx
 obtain ⟨its, rv, pl, hz⟩ := I.list hq
 have hil : ys.length = its.length := rv.length
 have hl := pl.isList
 refine call_function_entry_kw kind_sorted plain_sorted entry_sorted (ksk_s1 _ _) ?_
 unfold Builtin.«sorted»; refine wpAny_bind (m := checkCount "sorted" 1 1 _) (wpAny_pure ?_); refine wpAny_bind (collect_list hl ?_ (by omega)); refine wpAny_bind (wpAny_newList ?_ (by omega))
 have hsz : ((s.heap.push (seqObj "list" #[] 0)).update s.heap.objs.size (Obj.mapSeq (· ++ its.toArray))).objs.size = s.heap.objs.size + 1 := by rw [Heap.size_update, size_push']
 have hob : (((s.heap.push (seqObj "list" #[] 0)).update s.heap.objs.size (Obj.mapSeq (· ++ its.toArray))).push (seqObj "list" its.toArray 0)).get? (s.heap.objs.size + 1) = some (seqObj "list" its.toArray 0) := by rw [<- hsz]; exact Heap.get?_push_size _ rfl
 have keep : ∀ b o, s.heap.get? b = some o -> (((s.heap.push (seqObj "list" #[] 0)).update s.heap.objs.size (Obj.mapSeq (· ++ its.toArray))).push (seqObj "list" its.toArray 0)).get? b = some o := fun b o e =>
  Heap.get?_push_of_some _ ((Heap.get?_update_ne _ _ _ _ (Nat.ne_of_lt (Heap.lt_size e))).trans (Heap.get?_push_of_some _ e))
 have hsz2 : (((s.heap.push (seqObj "list" #[] 0)).update s.heap.objs.size (Obj.mapSeq (· ++ its.toArray))).push (seqObj "list" its.toArray 0)).objs.size = s.heap.objs.size + 2 := by rw [size_push', hsz]
 show wpAny _ _ _ _ _ { s with heap := ((s.heap.push (seqObj "list" #[] 0)).update s.heap.objs.size (Obj.mapSeq (· ++ its.toArray))).push (seqObj "list" its.toArray 0) }
 rw [hsz]
 generalize ((s.heap.push (seqObj "list" #[] 0)).update s.heap.objs.size (Obj.mapSeq (· ++ its.toArray))).push (seqObj "list" its.toArray 0) = h2 at hob keep hsz2
 obtain ⟨D, hDe⟩ : ∃ D : Nat, s.heap.objs.size + 1 = D := ⟨_, rfl⟩
 rw [hDe] at hob ⊢
 refine wpAny_bind (wpAny_holding (wpAny_call_entry_kw slot_list_sort ⟨_, hob, rfl⟩ entry_list_sort ?body (ksk_s1' _ _)))
 case body =>
  show wpAny (model X.prog X.w) X.A.in1.in1 (Builtin.«list.sort» ⟨[.ref D], [(Str.ofString "key", .ref f)]⟩) _ _ _
  rw [ksk_t1]
  unfold ksk_tree
  refine wpAny_bind (listItems_at hob rfl ?_)
  refine wpAny_bind (listUpdate_at hob rfl ?_ (by rw [List.size_toArray, sizeLine_eq]; omega) (Nat.zero_le _))
  obtain ⟨e1, hob1⟩ : ∃ e1, (h2.update D (Obj.mapSeq fun _ => #[])).get? D = some (seqObj "list" #[] e1) := ⟨_, get?_update_seq hob (fun _ => #[])⟩
  refine wpAny_bind (seqEpoch_at hob1 rfl ?_); refine wpAny_bind (wpAny_newTuple ?_ (by show its.length <= _; rw [sizeLine_eq]; omega)); refine wpAny_bind (wpAny_newList ?_ (Nat.zero_le _)); refine wpAny_holding ?_
  have hkS : ((h2.update D (Obj.mapSeq fun _ => #[])).push (seqObj "tuple" its.toArray 0)).objs.size = s.heap.objs.size + 3 := by rw [size_push', Heap.size_update, hsz2]
  have keep4 : ∀ b o, s.heap.get? b = some o -> (((h2.update D (Obj.mapSeq fun _ => #[])).push (seqObj "tuple" its.toArray 0)).push (seqObj "list" #[] 0)).get? b = some o := fun b o e => by
   have h9 : b < s.heap.objs.size := Heap.lt_size e
   have hb : b ≠ D := Nat.ne_of_lt (Nat.lt_trans h9 (by omega))
   exact Heap.get?_push_of_some _ (Heap.get?_push_of_some _ ((Heap.get?_update_ne _ _ _ _ hb).trans (keep b o e)))
  have hD4 : (((h2.update D (Obj.mapSeq fun _ => #[])).push (seqObj "tuple" its.toArray 0)).push (seqObj "list" #[] 0)).get? D = some (seqObj "list" #[] e1) := Heap.get?_push_of_some _ (Heap.get?_push_of_some _ hob1)
  have hk4 : (((h2.update D (Obj.mapSeq fun _ => #[])).push (seqObj "tuple" its.toArray 0)).push (seqObj "list" #[] 0)).get? (s.heap.objs.size + 3) = some (seqObj "list" #[] 0) := by rw [<- hkS]; exact Heap.get?_push_size _ rfl
  show wpAny _ _ _ _ _ { s with heap := ((h2.update D (Obj.mapSeq fun _ => #[])).push (seqObj "tuple" its.toArray 0)).push (seqObj "list" #[] 0) }
  dsimp only
  rw [hkS]
  generalize ((h2.update D (Obj.mapSeq fun _ => #[])).push (seqObj "tuple" its.toArray 0)).push (seqObj "list" #[] 0) = h4 at keep4 hD4 hk4
  obtain ⟨kS, hkSe⟩ : ∃ kS : Nat, s.heap.objs.size + 3 = kS := ⟨_, rfl⟩
  rw [hkSe] at hk4 ⊢
  have hDk : D ≠ kS := Nat.ne_of_lt (by omega)
  have hDn : H D = none := I.hok.fresh (by omega)
  have hkn : H kS = none := I.hok.fresh (by omega)
  have I4 : Inv X pins σ (upd H kS (.lst [])) { s with heap := h4, toks := s.toks } := I.laid (t' := s.toks) keep4 (by omega) ⟨Nat.zero_le _, [], 0, .nil, hk4⟩
  have hFp : FpOk X pins (upd H kS (.lst [])) D := I.fpOk (by omega) ((upd_ne hDk).trans hDn)
  have I5 : Inv X (pins ++ [(D, seqObj "list" #[] e1)]) σ (upd H kS (.lst [])) { s with heap := h4, toks := s.toks } := I4.pins_of fun p hp => by
   rcases List.mem_append.mp hp with hp | hp
   ·exact I4.pin p (List.mem_append_right _ hp)
   ·obtain rfl := List.mem_singleton.mp hp
    exact ⟨hD4, hFp.1, hFp.2.1, hFp.2.2.1, fun v z => by cases z⟩
  unfold ksk_rest
  refine wpAny_bind (wpAny_rule ?_)
  first | rw [List.forIn_toArray] | rw [<- Array.forIn_toList]
  refine wpAny_bind (key_loop (kf := kf) (H0 := H) (kS := kS) F hr hb (fun x s' D' hx => ?_) hkn ys its [] [] _ _ rv (by rw [List.length_nil]; omega) I5 upd_same (Same.new hkn) (fun y hy => (hK y hy).2) .nil fun kvs H2 s2 I2 hH2 sm2 hp2 => ?_)
  ·refine wpAny_bind (wpAny_attempt (wpAny_mono hx (fun kv s'' hk => ?_) fun _ _ hF => hF.elim))
   obtain ⟨its', n', e', hs', hD'⟩ := hk
   try dsimp only
   refine wpAny_bind (listUpdate_at e' rfl ?_ (by rw [sizeLine_eq]; omega) (Nat.le_trans (Nat.le_of_eq (Array.size_push ..)) (by rw [sizeLine_eq]; omega)))
   exact wpAny_pure ⟨rfl, hD'⟩
  ·obtain ⟨z, ks, n, rk, hkl0, e⟩ := I2.lstM hH2
   have hkl : ys.length = kvs.length := Paired.length hp2
   try dsimp only
   refine wpAny_bind (listItems_at e rfl ?_)
   have hpD := I2.pin (D, seqObj "list" #[] e1) (List.mem_append_right _ (List.mem_append_right _ (List.mem_singleton.mpr rfl)))
   refine end_keyed (G := fun p => Prm its.length p /\ SortOk ys kf p) (fun i => kf (ys.getD i .non)) (by omega) (by omega) e hpD.1 hDk (fun i hi => ?_) (fun hn => hil ▸ sort_ok (by omega)) (fun h2 => ⟨List.Perm.refl _, fun m _ _ a b hab hb => absurd hab (by omega)⟩) (fun p hp => hp.1) fun p hp3 => ⟨_, rfl, wpAny_pure ⟨_, rfl, ?_⟩⟩
   ·have hm : ys.getD i .non ∈ ys := by
     have : i < ys.length := by omega
     simp [this]
    obtain ⟨t, e2, e3⟩ := paired_getD (d1 := V.non) (d2 := V.non) hp2 (i := i) (by rw [List.nil_append]; omega)
    rw [List.nil_append] at e3
    obtain ⟨tv, rt, it, hz'⟩ := I2.tuple (SqT.of e3)
    obtain ⟨o, ho, hc, m, hd⟩ := it
    refine ⟨(hK _ hm).1, t, o, tv.toArray, m, ?_, ho, hc, hd, rt⟩
    have := vals_getD rk (i := i) (by omega)
    rw [e2] at this
    exact this
   ·obtain ⟨hp, hord⟩ := hp3
    have hin : ∀ i ∈ p.toList, i < ys.length := fun i hi => by
     have := List.mem_range.mp (hp.mem_iff.mp hi)
     omega
    have hpl : p.toList.length = its.length := by rw [hp.length_eq]; simp
    have hzs : (p.toList.map fun i => ys.getD i V.non).Perm ys := by
     have := hp.map fun i => ys.getD i V.non
     rw [<- hil, getD_rangeV] at this
     exact this
    have I3 := (I2.lset (t' := s2.toks) (its' := []) (f := fun _ => #[]) hH2 e rfl .nil (Nat.zero_le _)).unpinned
    have hFp3 : FpOk X pins (upd H2 kS (.lst [])) D := ⟨(upd_ne hDk).trans hpD.2.1, hFp.2⟩
    have hD3 : (s2.heap.update kS (Obj.mapSeq fun _ => #[])).get? D = some (seqObj "list" #[] e1) := (Heap.get?_update_ne _ _ _ _ hDk).trans hpD.1
    obtain ⟨c, hc⟩ : ∃ c, ((s2.heap.update kS (Obj.mapSeq fun _ => #[])).update D (Obj.mapSeq fun _ => List.toArray (p.toList.map fun i => its.getD i Value.none))).get? D = some (seqObj "list" (List.toArray (p.toList.map fun i => its.getD i Value.none)) c) := ⟨_, get?_update_seq hD3 _⟩
    refine ⟨.ref D, _, I3.adopt (t' := s2.toks) (zs := p.toList.map fun i => ys.getD i V.non) hFp3 (fun b o hb e => (Heap.get?_update_ne _ _ _ _ hb).trans e) hc (vals_pick rv hin) (by rw [List.length_map, hpl, sizeLine_eq]; omega), rfl, q _ _ _ ?_ hDn upd_same hzs fun m h1 h2 => ?_⟩
    ·exact ((sm2.upd hkn).upd hDn)
    ·refine List.pairwise_iff_getElem.mpr fun i j hi hj hij => ?_
     rw [List.length_map, hpl, <- hil] at hj
     have h3 := hord m h1 h2 i j hij hj
     have hs : p.size = ys.length := by rw [<- Array.length_toList, hpl, hil]
     have e1 : p.getD i 0 = p.toList[i]'(by rw [Array.length_toList]; omega) := by simp [Array.getD, show i < p.size by omega]
     have e2 : p.getD j 0 = p.toList[j]'(by rw [Array.length_toList]; omega) := by simp [Array.getD, show j < p.size by omega]
     rw [e1, e2] at h3
     rw [List.getElem_map, List.getElem_map]
     exact h3
def tSortK (K : Fg_) (sp : Sp) (t : TA) : TE := fun σ H Q => t σ H fun vs H1 => ∃ x, vs = [x] /\ rSortK K sp x H1 Q
theorem pe_sortKey {e : Expr} {t : TA} {g : Str} {p kp kpos pos : Pos} (F : FnOk X.prog X.w X.K X.mg X.base CX0 k f fd ps sp) (hr : Room (k + 2) X.A) (hb : Binds X.K fd ps []) (hgs : Gl X "sorted") (hms : X.mg "sorted" = none) (hvs : bootBuiltins "sorted" = some (.builtin "sorted"))
  (hg : Gl X g) (hm : X.mg g = some (.ref f)) (ha : PA X [e] t) (hdb : (g == ("__debug__" : Str)) = false := by decide)
  (he : backTo pos (starEach [e] X.env) = (false, eval e X.env) :: backTo pos (starEach [] X.env) := by rfl) (hpl : (backTo pos (starEach [e] X.env)).any (·.1) = false := by rfl) :
  PE X (.Call (.Name "sorted" p) [e] [⟨some "key", .Name g kp, kpos⟩] pos) (tSortK X.K sp t) := by
 intro pins s σ H Q I h
 refine wpAny_Call_Name_kw (ld_blt I hgs hms hvs ?_)
 refine callWith_kw (thn (ha pos pins s σ H _ I h) fun us s1 ⟨vs, H1, I1, r, x, ex, q⟩ => ?_) he hpl
 subst ex
 obtain ⟨u, rfl, rx⟩ := vals1 r
 have hk : PK X [⟨some "key", .Name g kp, kpos⟩] (tCons (tC (.ref f)) tNil) := pk_cons (pe_glob hg hm rfl hdb) pk_nil
 refine thn (hk pos pins s1 σ H1 (fun zs H2 => zs = [.ref f] /\ H2 = H1) I1 ⟨rfl, rfl⟩) fun ws s2 ⟨zs, H2, I2, rz, e1, e2⟩ => ?_
 subst e1 e2
 obtain ⟨w1, rfl, rw1⟩ := vals1 rz
 cases rw1
 exact sorted_key F hr hb I2 rx q
theorem pe_sortKeyK {K : Fg_} {e : Expr} {t : TA} {g : Str} {p kp kpos pos : Pos} (hK : X.K = K) (h : PE X (.Call (.Name "sorted" p) [e] [⟨some "key", .Name g kp, kpos⟩] pos) (tSortK X.K sp t)) : PE X (.Call (.Name "sorted" p) [e] [⟨some "key", .Name g kp, kpos⟩] pos) (tSortK K sp t) := hK ▸ h
theorem ap_tSortK {K : Fg_} {sp : Sp} {t : TA} {σ : St} {H : Hp} {Q : VK} : tSortK K sp t σ H Q = t σ H fun vs H1 => ∃ x, vs = [x] /\ rSortK K sp x H1 Q := rfl
theorem ap_rSortK {K : Fg_} {sp : Sp} {a : Addr} {H : Hp} {Q : VK} : rSortK K sp (.ref a) H Q = ∃ (ys : List V) (kf : V -> List Int), SqL K H a ys /\ ys.length < 64 /\ (∀ y ∈ ys, kf y ≠ [] /\ KeyFn sp kf H y) /\
  ∀ p zs H', Same H H' -> H p = none -> H' p = some (.lst zs) -> zs.Perm ys -> (∀ m, (∀ y ∈ ys, (kf y).length = m) -> (ys.map kf).Nodup -> zs.Pairwise fun y z => lexB (kf y) (kf z) false = true) -> Q (.ref p) H' := by simp [rSortK]
end
section
variable {X : Cx}
def rInsert : V -> List V -> Hp -> VK -> Prop := fun x vs H Q => ∃ (l : Addr) (xs : List V) (i : Int) (y : V), x = .ref l /\ vs = [.int i, y] /\ H l = some (.lst xs) /\ 0 <= i /\ i <= xs.length /\ i < 1000000 /\ xs.length + 1 <= sizeLine /\ Q .non (upd H l (.lst (xs.take i.toNat ++ y :: xs.drop i.toNat)))
theorem mt_insert : MtM X "list.insert" rInsert := by
 intro pins s σ H x vs v us Q I rx rv h
 obtain ⟨l, xs, i, y, rfl, rfl, hH, hk0, hk, hk2, hz, q⟩ := h
 cases rx
 obtain ⟨iv, u, rfl, r1, ru⟩ := rv.two
 obtain ⟨t, rfl⟩ := r1
 obtain ⟨z, its, n, r, hl, e⟩ := I.lstM hH
 have hfit : ¬ (!Builtin.List.listFitsIndex i) = true := by
  rw [fitsIndex_both (Int.le_trans (by decide) hk0) (Int.lt_trans hk2 (by decide))]
  exact Bool.false_ne_true
 have hsz : its.toArray.size <= sizeLine := by rw [List.size_toArray, <- hl]; exact z
 refine call_meets F.slot_list_insert ⟨_, e, rfl⟩ F.entry_list_insert (F.args_list_insert_3 _ _ _) (PySem.AutoSeq1.list_insert_list_int_val_1 l its.toArray n i t u hfit hsz) ⟨e, ?_⟩
 refine ⟨.non, _, I.lset (its' := its.take i.toNat ++ u :: its.drop i.toNat) hH e ?_ ((r.take i.toNat).append (.cons ru (r.drop i.toNat))) ?_, rfl, q⟩
 ·have hm : (if i < 0 then (i + (its.toArray.size : Int)).toNat else min i.toNat its.toArray.size) = i.toNat := by
   rw [if_neg (by omega), List.size_toArray]
   omega
  show (its.toArray.extract 0 (if i < 0 then (i + (its.toArray.size : Int)).toNat else min i.toNat its.toArray.size)).push u ++ its.toArray.extract (if i < 0 then (i + (its.toArray.size : Int)).toNat else min i.toNat its.toArray.size) = _
  rw [hm]
  apply Array.toList_inj.mp
  simp
  exact List.take_of_length_le (by rw [List.length_drop]; omega)
 ·rw [List.length_append, List.length_cons, List.length_take, List.length_drop]
  omega
end
end L2
namespace L2
open PySem PySem.W PySem.Spec PyProof.Rows
section
variable {X : Cx}
def rEqR (K : Fg_) : R2 := fun x y H Q => ∃ (a b : Addr) (xs ys : List V), x = .ref a /\ y = .ref b /\ SqL K H a xs /\ SqL K H b ys /\ ((xs.length ≠ ys.length /\ Q (.bl false) H) \/ (xs = ys /\ (∀ v ∈ xs, ∃ c, v = .ref c) /\ Q (.bl true) H))
def rNeR (K : Fg_) : R2 := fun x y H Q => ∃ (a b : Addr) (xs ys : List V), x = .ref a /\ y = .ref b /\ SqL K H a xs /\ SqL K H b ys /\ ((xs.length ≠ ys.length /\ Q (.bl true) H) \/ (xs = ys /\ (∀ v ∈ xs, ∃ c, v = .ref c) /\ Q (.bl false) H))
theorem mn_rEqR {K : Fg_} : MonoR (rEqR K) := fun _ _ _ _ _ k ⟨a, b, c, d, e, f, g, h, q⟩ => ⟨a, b, c, d, e, f, g, h, q.elim (fun ⟨z, q⟩ => .inl ⟨z, k _ _ q⟩) fun ⟨z, z', q⟩ => .inr ⟨z, z', k _ _ q⟩⟩
theorem mn_rNeR {K : Fg_} : MonoR (rNeR K) := fun _ _ _ _ _ k ⟨a, b, c, d, e, f, g, h, q⟩ => ⟨a, b, c, d, e, f, g, h, q.elim (fun ⟨z, q⟩ => .inl ⟨z, k _ _ q⟩) fun ⟨z, z', q⟩ => .inr ⟨z, z', k _ _ q⟩⟩
end
section
variable {K : Fg_} {wi : TI} {cap : List (Option Nat)} {g : TG} {tt : TT} {te tl td tk : TE}
theorem mn_iList (h : MonoE tl) : MonoI (iList K tl) := fun σ H _ _ f q => h σ H _ _ (fun _ _ ⟨a, e, x, r⟩ => ⟨a, e, x, f _ _ r⟩) q
theorem mn_comp (hi : MonoI wi) : MonoE (tComp cap wi g tt te) := fun σ H Q Q' f h => by
 rw [ap_comp] at h ⊢
 exact hi σ H _ _ (fun J H1 hc D hD => by
  obtain ⟨W, w0, hW⟩ := hc D hD
  exact ⟨W, w0, fun i m acc σ1 H2 hw hD2 => (hW i m acc σ1 H2 hw hD2).imp (fun ⟨a, b⟩ => ⟨a, f _ _ b⟩) id⟩) h
theorem mn_dput (h1 : MonoE td) (h2 : MonoE tk) (h3 : MonoE te) : MonoS (sDPut td tk te) := fun D D' σ H f q => h3 σ H _ _ (fun v H1 q1 => h1 σ H1 _ _ (fun x H2 q2 => h2 σ H2 _ _ (fun y H3 ⟨a, H4, e1, e2, e3⟩ => ⟨a, H4, e1, e2, f.nx _ _ e3⟩) q2) q1) q
end
end L2
namespace L2
open PySem PySem.W PySem.Spec PySem.Calls PyProof.Rows
def LamO (f : Addr) (o : Obj) : HO := .ext fun h => h.get? f = some o
def RecO (c : Addr) (q : Str) : HO := .ext fun h => h.CodeRec (.ref c) q
def SameX (Pt : Addr) (H H' : Hp) : Prop := ∀ b o, b ≠ Pt -> H b = some o -> H' b = some o
theorem SameX.of {Pt : Addr} {H H' : Hp} (h : Same H H') : SameX Pt H H' := fun b o _ e => h b o e
theorem SameX.trans {Pt : Addr} {H H1 H2 : Hp} (h : SameX Pt H H1) (k : SameX Pt H1 H2) : SameX Pt H H2 := fun b o n e => k b o n (h b o n e)
def lamH (H : Hp) (Pt : Addr) (ps : Array Value) (c : Addr) (q : Str) (f : Addr) (o : Obj) : Hp := upd (upd (upd H Pt (.tbl ps)) c (RecO c q)) f (LamO f o)
section
variable {H : Hp} {Pt c f : Addr} {ps : Array Value} {q : Str} {o : Obj}
theorem lamH_f : lamH H Pt ps c q f o f = some (LamO f o) := upd_same
theorem lamH_c (h : c ≠ f) : lamH H Pt ps c q f o c = some (RecO c q) := (upd_ne h).trans upd_same
theorem lamH_ne {b : Addr} (h1 : b ≠ Pt) (h2 : b ≠ c) (h3 : b ≠ f) : lamH H Pt ps c q f o b = H b := (upd_ne h3).trans ((upd_ne h2).trans (upd_ne h1))
theorem lamH_old (hc : H c = none) (hf : H f = none) : SameX Pt H (lamH H Pt ps c q f o) := fun _ _ n e => (lamH_ne n (ne_of_none e hc) (ne_of_none e hf)).trans e
end
section
variable {X : Cx} {pins : List (Addr × Obj)} {σ : St} {H : Hp} {s : Shared}
theorem Inv.lam {h' : Heap} {tk : Nat} {Pt c f : Addr} {ps more : Array Value} {q : Str} {o : Obj} (I : Inv X pins σ H s) (hP : H Pt = some (.tbl ps)) (hx : ∀ b u, b ≠ Pt -> s.heap.get? b = some u -> h'.get? b = some u)
  (hp : h'.get? Pt = some { cls := .none, data := .fields (ps ++ more) }) (hc : s.heap.objs.size <= c) (hf : s.heap.objs.size <= f) (hcf : c ≠ f) (hrec : h'.CodeRec (.ref c) q) (hfo : h'.get? f = some o) :
  Inv X pins σ (lamH H Pt (ps ++ more) c q f o) { s with heap := h', toks := tk } := by
 have hPl : Pt < s.heap.objs.size := I.hok.lt hP
 have hPc : Pt ≠ c := Nat.ne_of_lt (Nat.lt_of_lt_of_le hPl hc)
 have hPf : Pt ≠ f := Nat.ne_of_lt (Nat.lt_of_lt_of_le hPl hf)
 have hcn := I.hok.fresh hc
 have hfn := I.hok.fresh hf
 have eP : lamH H Pt (ps ++ more) c q f o Pt = some (.tbl (ps ++ more)) := (upd_ne hPf).trans ((upd_ne hPc).trans upd_same)
 have old : SameX Pt H (lamH H Pt (ps ++ more) c q f o) := lamH_old hcn hfn
 have nP : ∀ {b : Addr}, H b = none -> b ≠ Pt := fun n z => by rw [z, hP] at n; cases n
 refine I.un (h' := h') (t' := tk) ⟨fun b u e n _ _ => hx b u (nP n) e, fun b u e n _ _ => ⟨u.slots, hx b u (nP n) e⟩, fun b u e n _ => ?_, fun b u e _ => ?_, fun b xs e => old b _ (fun z => by rw [z, hP] at e; cases e) e, fun b u v e => old b _ (fun z => by rw [z, hP] at e; cases e) e, fun b ps' e => ?_⟩ fun b u e => ?_
 ·have hb : b < s.heap.objs.size := Heap.lt_size e
  rw [lamH_ne (nP n) (Nat.ne_of_lt (Nat.lt_of_lt_of_le hb hc)) (Nat.ne_of_lt (Nat.lt_of_lt_of_le hb hf))]
  exact n
 ·by_cases z : b = Pt
  ·exact ⟨_, z ▸ hp⟩
  ·exact ⟨u, hx b u z e⟩
 ·by_cases z : b = Pt
  ·subst z
   rw [hP] at e
   cases e
   exact ⟨more, eP⟩
  ·exact ⟨#[], by rw [old b _ z e]; simp⟩
 ·by_cases z : b = Pt
  ·subst z
   rw [eP] at e
   obtain rfl := Option.some.inj e
   exact hp
  ·by_cases zc : b = c
   ·subst zc
    rw [lamH_c hcf] at e
    obtain rfl := Option.some.inj e
    obtain ⟨c2, oc, vs, t, e1, e2, e3, e4⟩ := id hrec
    cases e1
    refine ⟨hrec, ⟨oc, e2⟩, fun h1 h2 a k => ?_⟩
    obtain ⟨c3, o3, v3, t3, g1, g2, g3, g4⟩ := a
    cases g1
    exact ⟨_, o3, v3, t3, rfl, k _ g2, g3, g4⟩
   ·by_cases zf : b = f
    ·subst zf
     rw [lamH_f] at e
     obtain rfl := Option.some.inj e
     exact ⟨hfo, ⟨o, hfo⟩, fun h1 h2 a k => k _ a⟩
    ·rw [lamH_ne z zc zf] at e
     refine (I.hok b u e).stay (fun d v hd r => hx d v ?_ r) (fun d r => old d _ (fun y => by rw [y, hP] at r; cases r) r) fun d v r => old d _ (fun y => by rw [y, hP] at r; cases r) r
     rcases hd with y | y
     ·rw [y]; exact z
     ·intro y2; rw [y2, hP] at y; cases y
end
section
variable {P : Program} {w : World} {K : Fg_} {mg : Str -> Option Value} {base : Heap}
def spLam (f c : Addr) (q : Str) (o : Obj) (x : Str) (tb : TE) : Sp := fun vs H Q _ => ∃ v, vs = [v] /\ H f = some (LamO f o) /\ H c = some (RecO c q) /\ tb (start [x] [v]) H Q
theorem lam_ok {k : Nat} {f c : Addr} {q : Str} {params : Arguments} {body : Expr} {scope : Scope} {pm ctv : Value} {x : Str} {tb : TE} (S : FnScope [x] [x] scope)
  (hbody : ∀ (A : Around) (outer : List Env) (s : Shared) (H : Hp) (E : XK), Room k (A.deeper (envOfC q scope s.heap.objs.size f (.ref c))) -> PE (cxOf CX0 P w K mg base [x] q scope f (.ref c) A outer s H E).nox body tb) :
  FnOk P w K mg base CX0 (k + 1) f (kla_fn "<lambda>" q params body scope [] pm (.ref c) ctv) [x] (spLam f c q (kla_obj "<lambda>" q params body scope [] pm c ctv) x tb) := by
 refine ⟨fun vs H Q E h => by obtain ⟨v, rfl, _⟩ := h; rfl, fun A outer s H args us vs Q E hr e0 hb r hsp => ?_⟩
 obtain ⟨v, rfl, hf, hc, ht⟩ := hsp
 have lim : s.heap.NoLimit := e0.mod.nolimit.keeps fun b o e => (e0.bs b o e).1
 have hof : s.heap.get? f = some (kla_obj "<lambda>" q params body scope [] pm c ctv) := (e0.hok f _ hf).1
 have hoc : s.heap.CodeRec (.ref c) q := (e0.hok c _ hc).1
 have hkind : ∀ y ∈ [x].zip us, scope.names.lookup y.1 = some .local \/ (scope.names.lookup y.1 = some .cell /\ ((cellsFrom (s.heap.objs.size + 1) scope.names []).lookup y.1).isSome = true) := fun ⟨n, v⟩ hy => by
  rcases S.par n (List.of_mem_zip hy).1 with q | q
  ·exact .inl q
  ·exact .inr ⟨q, PySem.W.cellsFrom_some _ _ _ (.inl q)⟩
 refine kla_callFunE hr.depth hof rfl S.co S.gen rfl hoc (hb _ _ _ _ ?_)
 refine wpAny_newFunctionEnv_cells S.kind hkind fun env he s1 y => ?_
 subst he
 refine ⟨lim.keeps y.toInCall.keep, kla_codeExpr ?_⟩
 have I : Inv (cxOf CX0 P w K mg base [x] q scope f (.ref c) A outer s H E) [] (start [x] [v]) H s1 := inv_start S hr.hd e0 rfl r y
 refine wpAny_mono ((PE.nox (hbody A outer s H E (hr.deeper _))) [] s1 (start [x] [v]) H Q I ht) (fun u s' hs => ?_) fun e s' hs => hs
 obtain ⟨v', H', J, rv, hq⟩ := hs
 exact ⟨v', H', J.os, J.bare, J.base, J.hok, rv, hq⟩
theorem Fun.okC {x qual : Str} {st : Stmt} {f : Addr} {fd : FuncData} {N ps : List Str} {k : Nat} {sp : Sp} (F : Fun K x qual st f fd) (S : FnScope N ps (defScope st)) (len : ∀ vs H Q E, sp vs H Q E -> vs.length = ps.length)
  (hbody : ∀ (A : Around) (outer : List Env) (s : Shared) (H : Hp) (vs : List V) (Q : VK) (E : XK), Room k (A.deeper (envOfC qual (defScope st) s.heap.objs.size f fd.code)) -> sp vs H Q E ->
   ∃ t, PSs (cxOf CX0 P w K mg base N qual (defScope st) f fd.code A outer s H E).nox (defBody st) t /\ t { nx := fun _ H' => Q .non H', rt := Q } (start N vs) H) : FnOk P w K mg base CX0 (k + 1) f fd ps sp := by
 obtain ⟨oc, od, kV, doc, pm, an, cdv, ct, osl, rfl, lk, hcd⟩ := F.ex
 refine fn_of lk hcd S len fun A outer s H vs Q E hr hsp => ?_
 obtain ⟨t, h, q⟩ := hbody A outer s H vs Q E hr hsp
 exact ⟨t, h.nox, q⟩
end
section
variable {X : Cx}
def tLam (Pt : Addr) (q : Str) (params : Arguments) (body : Expr) (scope : Scope) (pos : Pos) : TE := fun _ H Q => H Pt = some (.tbl #[]) /\ ∀ f c pm ctv, H f = none -> H c = none -> c ≠ f ->
 Q (.ref f) (lamH H Pt #[rawInt pos.line, rawInt pos.col, .ref c] c q f (kla_obj "<lambda>" q params body scope [] pm c ctv))
theorem pe_lam {Pt c0 : Addr} {q : Str} {params : Arguments} {body : Expr} {scope : Scope} {pos : Pos} (hcode : X.env.code = .ref c0) (hC : codeHdIn X.K c0 Pt = true) (hB : X.base.BuiltinsAt X.mg Pt)
  (hcl : closureFor scope X.env = pure []) (hdef : defaultsOf params X.env = ([], [])) (hq : X.env.qual ++ "<lambda>" = q) : PE X (.Lambda params body scope pos) (tLam Pt q params body scope pos) := by
 intro pins s σ H Q I h
 obtain ⟨hP, k⟩ := h
 subst hq
 have hPt : s.heap.get? Pt = some (tabObj #[]) := I.hok Pt _ hP
 have hgs : s.heap.Ns mainGlobals X.mg := I.ok.mod.glob.keeps I.bk
 have hgP : mainGlobals ≠ Pt := fun z => by
  obtain ⟨o, es, ep, e, hd, _⟩ := hgs
  rw [z, hPt] at e; cases e; cases hd
 obtain ⟨bm, ob, b1, b2, b3, b4, b5, b6⟩ := hB
 refine kla_eval hdef (kla_makeFunction (mg := X.mg) (ps := #[]) hcl I.ok.glob hgs hcode (codeHd_of_K I.kIn hC) hPt trivial rfl hgP ⟨bm, ob, b1, b2, b3, b4, I.bk _ _ b5, b6⟩ fun c' ctv h' tk hx hge hlt hrec htb => ?_)
 have hne : c' ≠ h'.objs.size := Nat.ne_of_lt hlt
 have hsz : s.heap.objs.size <= h'.objs.size := Nat.le_trans hge (Nat.le_of_lt hlt)
 refine ⟨.ref h'.objs.size, _, Inv.lam (tk := tk) (ps := #[]) (more := #[rawInt pos.line, rawInt pos.col, .ref c']) (c := c') (q := X.env.qual ++ "<lambda>") (f := h'.objs.size) I hP (fun b u n e => Heap.get?_push_of_some _ (hx b u n e)) (Heap.get?_push_of_some _ htb) hge hsz hne ?_ (Heap.get?_push_size _ rfl), rfl, ?_⟩
 ·obtain ⟨c2, oc, vs, t, e1, e2, e3, e4⟩ := hrec
  exact ⟨c2, oc, vs, t, e1, Heap.get?_push_of_some _ e2, e3, e4⟩
 ·exact k _ _ _ _ (I.hok.fresh hsz) (I.hok.fresh hge) hne
def tSortL (K : Fg_) (Pt : Addr) (x : Str) (tb : TE) (t : TA) : TE := fun σ H Q => t σ H fun vs H1 => ∃ (a : Addr) (ys : List V) (kf : V -> List Int), vs = [.ref a] /\ SqL K H1 a ys /\ ys.length < 64 /\ H1 Pt = some (.tbl #[]) /\
 (∀ y ∈ ys, kf y ≠ [] /\ ∀ H2, SameX Pt H1 H2 -> ∀ R : VK, (∀ t H3, Same H2 H3 -> H3 t = some (.tup ((kf y).map V.int)) -> R (.ref t) H3) -> tb (start [x] [y]) H2 R) /\
 ∀ p zs H', SameX Pt H1 H' -> H1 p = none -> H' p = some (.lst zs) -> zs.Perm ys -> (∀ m, (∀ y ∈ ys, (kf y).length = m) -> (ys.map kf).Nodup -> zs.Pairwise fun y z => lexB (kf y) (kf z) false = true) -> Q (.ref p) H'
theorem pe_sortLam {k : Nat} {Pt c0 : Addr} {e : Expr} {t : TA} {tb : TE} {x q : Str} {params : Arguments} {body : Expr} {scope : Scope} {p lpos kpos pos : Pos} (hr : Room (k + 3) X.A)
  (hcode : X.env.code = .ref c0) (hC : codeHdIn X.K c0 Pt = true) (hB : X.base.BuiltinsAt X.mg Pt)
  (hgs : Gl X "sorted") (hms : X.mg "sorted" = none) (hvs : bootBuiltins "sorted" = some (.builtin "sorted")) (ha : PA X [e] t)
  (S : FnScope [x] [x] scope) (hq : X.env.qual ++ "<lambda>" = q)
  (hbody : ∀ (f c : Addr) (A : Around) (outer : List Env) (s : Shared) (H : Hp) (E : XK), Room k (A.deeper (envOfC q scope s.heap.objs.size f (.ref c))) -> PE (cxOf CX0 X.prog X.w X.K X.mg X.base [x] q scope f (.ref c) A outer s H E).nox body tb)
  (hcl : closureFor scope X.env = pure [] := by rfl) (hdef : defaultsOf params X.env = ([], []) := by rfl)
  (hb : ∀ (pm : Value) (c : Addr) (ctv u : Value), bindArgs (kla_fn "<lambda>" q params body scope [] pm (.ref c) ctv) ⟨[u], []⟩ = pure [(x, u)] := by intros; rfl)
  (he : backTo pos (starEach [e] X.env) = (false, eval e X.env) :: backTo pos (starEach [] X.env) := by rfl) (hpl : (backTo pos (starEach [e] X.env)).any (·.1) = false := by rfl) :
  PE X (.Call (.Name "sorted" p) [e] [⟨some "key", .Lambda params body scope lpos, kpos⟩] pos) (tSortL X.K Pt x tb t) := by
 intro pins s σ H Q I h
 refine wpAny_Call_Name_kw (ld_blt I hgs hms hvs ?_)
 refine callWith_kw (thn (ha pos pins s σ H _ I h) fun us s1 ⟨vs, H1, I1, r, a, ys, kf, ex, hS, hlen, hP, hK, q⟩ => ?_) he hpl
 subst ex
 obtain ⟨u, rfl, rx⟩ := vals1 r
 have hk : PK X [⟨some "key", .Lambda params body scope lpos, kpos⟩] (tCons (tLam Pt _ params body scope lpos) tNil) := pk_cons (pe_lam hcode hC hB hcl hdef hq) pk_nil
 refine thn (hk pos pins s1 σ H1 (fun zs H2 => ∃ f c pm ctv, zs = [.ref f] /\ H1 f = none /\ H1 c = none /\ c ≠ f /\ H2 = lamH H1 Pt #[rawInt lpos.line, rawInt lpos.col, .ref c] c _ f (kla_obj "<lambda>" _ params body scope [] pm c ctv)) I1
  ⟨hP, fun f c pm ctv h1 h2 h3 => ⟨f, c, pm, ctv, rfl, h1, h2, h3, rfl⟩⟩) fun ws s2 ⟨zs, H2, I2, rz, f, c, pm, ctv, e1, h1, h2, h3, e2⟩ => ?_
 subst e1
 obtain ⟨w1, rfl, rw1⟩ := vals1 rz
 cases rw1
 have F := lam_ok (P := X.prog) (w := X.w) (K := X.K) (mg := X.mg) (base := X.base) (params := params) (pm := pm) (ctv := ctv) (f := f) (c := c) S (hbody f c)
 have sx : SameX Pt H1 H2 := e2 ▸ lamH_old h2 h1
 have ef := e2 ▸ lamH_f (H := H1) (Pt := Pt) (ps := #[rawInt lpos.line, rawInt lpos.col, .ref c]) (c := c) (f := f)
 have ec := e2 ▸ lamH_c (H := H1) (Pt := Pt) (ps := #[rawInt lpos.line, rawInt lpos.col, .ref c]) h3
 have hnP : a ≠ Pt \/ H1 a = none := by
  rcases Classical.em (a = Pt) with z | z
  ·right
   rcases hS with (y | ⟨o, y⟩) | y
   ·rw [z, hP] at y; cases y
   ·rw [z, hP] at y; cases y
   ·obtain ⟨o, its, n, hk, _⟩ := y
    exact (I1.bs a o (I1.ok.mod.kin _ _ hk)).2
  ·exact .inl z
 have hS2 : SqL X.K H2 a ys := by
  rcases hS with (y | ⟨o, y⟩) | y
  ·exact .inl (.inl (sx _ _ (fun z => by rw [z, hP] at y; cases y) y))
  ·exact .inl (.inr ⟨o, sx _ _ (fun z => by rw [z, hP] at y; cases y) y⟩)
  ·exact .inr y
 refine sorted_key (k := k + 1) F hr (.all fun us hl => ?_) I2 rx ⟨a, ys, kf, rfl, hS2, hlen, fun y hy => ⟨(hK y hy).1, fun H3 s3 R hR => ⟨y, rfl, s3 _ _ ef, s3 _ _ ec, (hK y hy).2 H3 (sx.trans (.of s3)) R hR⟩⟩, fun p zs H' s' hp hz => q p zs H' (sx.trans (.of s')) ?_ hz⟩
 ·match us, hl with
  | [u], _ => exact hb pm c ctv u
 ·cases z : H1 p with
  | none => rfl
  | some o =>
   by_cases zp : p = Pt
   ·have : H2 Pt ≠ none := by
     rw [e2]
     unfold lamH
     unfold upd
     split
     ·simp
     ·split
      ·simp
      ·simp
    rw [zp] at hp
    exact absurd hp this
   ·rw [sx p o zp z] at hp
    cases hp
theorem pe_sortLamK {K : Fg_} {Pt : Addr} {x : Str} {tb : TE} {t : TA} {e : Expr} (hK : X.K = K) (h : PE X e (tSortL X.K Pt x tb t)) : PE X e (tSortL K Pt x tb t) := hK ▸ h
theorem ap_tSortL {K : Fg_} {Pt : Addr} {x : Str} {tb : TE} {t : TA} {σ : St} {H : Hp} {Q : VK} : tSortL K Pt x tb t σ H Q = t σ H fun vs H1 => ∃ (a : Addr) (ys : List V) (kf : V -> List Int), vs = [.ref a] /\ SqL K H1 a ys /\ ys.length < 64 /\ H1 Pt = some (.tbl #[]) /\
 (∀ y ∈ ys, kf y ≠ [] /\ ∀ H2, SameX Pt H1 H2 -> ∀ R : VK, (∀ t H3, Same H2 H3 -> H3 t = some (.tup ((kf y).map V.int)) -> R (.ref t) H3) -> tb (start [x] [y]) H2 R) /\
 ∀ p zs H', SameX Pt H1 H' -> H1 p = none -> H' p = some (.lst zs) -> zs.Perm ys -> (∀ m, (∀ y ∈ ys, (kf y).length = m) -> (ys.map kf).Nodup -> zs.Pairwise fun y z => lexB (kf y) (kf z) false = true) -> Q (.ref p) H' := rfl
end
theorem law_callT {P : Program} {w : World} {K : Fg_} {mg mb : Str -> Option Value} {CX : CXT} {k : Nat} {fa a c Pt : Addr} {fd : FuncData} {x : Str} {sp : Sp} {s₁ : Shared} {vs : List Value} {ns : List Int}
  (KX : K.In s₁.heap) (hT : s₁.heap.get? Pt = some (tabObj #[])) (hC : codeHdIn K c Pt = true) (hKT : K.lookup Pt = none) (hns : s₁.heap.Ns mainGlobals mg) (hb : s₁.heap.Ns builtinsNs mb) (hbb : ∀ x : Str, x ≠ "__name__" -> mb x = bootBuiltins x) (hlim : s₁.heap.NoLimit)
  (hbm : ∃ bm ob, mg "__builtins__" = some (.ref bm) /\ bm ≠ builtinsNs /\ s₁.heap.get? bm = some ob /\ ob.cls = .type "module" /\ ob.dict = some builtinsNs /\ ob.data = .plain) (hg : s₁.gens = #[])
  (ha : s₁.heap.get? a = some { cls := .type "list", data := .seq vs.toArray }) (hi : IntsAre vs ns) (hl : ns.length <= sizeLine) (hr : Room k callerA)
  (F : ∀ base : Heap, K.In base -> base.Ns mainGlobals mg -> base.BuiltinsAt mg Pt -> FnOk P w K mg base CX k fa fd [x] sp) (hbind : ∀ (s : Shared) (u : Value), BindsTo s fd ⟨[u], []⟩ [(x, u)])
  (hsp : ∀ H : Hp, H Pt = some (.tbl #[]) -> SqL K H a (ns.map V.int) -> sp [.ref a] H (fun v _ => v = .bl true) fun _ _ _ => False)
  (hCX : ∀ H e s', CX [] H s₁ (fun _ _ _ => False) e s' -> False) :
  codeAny (model P w) callerA (.call (.ref fa) ⟨[.ref a], []⟩) (fun r s' => r = .ok (.ret (.bool true)) /\ OldK s₁.heap s'.heap /\ s'.os = s₁.os /\ AllBare s'.gens) s₁ := by
 have rv := vals_ints hi
 have lenV := hi.length
 have hPa : a ≠ Pt := fun z => by rw [z, hT] at ha; cases ha
 have hKP : ∀ o, K.lookup Pt = some o -> False := fun o e => by rw [hKT] at e; cases e
 have tab : s₁.heap.TableAt c Pt #[] := (codeHd_of_K KX hC).tab hT
 have core : ∀ H : Hp, H Pt = some (.tbl #[]) -> SqL K H a (ns.map V.int) -> HOk P w H s₁.heap -> (∀ b, b ≠ Pt -> H b = none \/ (b = a /\ K.lookup a = none /\ ∃ o xs, H b = some (.frz o (.lst xs)))) ->
   codeAny (model P w) callerA (.call (.ref fa) ⟨[.ref a], []⟩) (fun r s' => r = .ok (.ret (.bool true)) /\ OldK s₁.heap s'.heap /\ s'.os = s₁.os /\ AllBare s'.gens) s₁ := by
  intro H hP hS hok hA
  have noA : ∀ {b : Addr} {o : Obj}, s₁.heap.get? b = some o -> o ≠ tabObj #[] -> (∀ its n, o.data ≠ .seq its n) -> H b = none := fun {b o} e h1 h2 => by
   by_cases z : b = Pt
   ·subst z
    rw [hT] at e
    exact absurd (Option.some.inj e).symm h1
   ·rcases hA b z with y | ⟨y, _⟩
    ·exact y
    ·subst y
     rw [ha] at e
     cases e
     exact absurd rfl (h2 _ _)
  have nsK : ∀ {b : Addr} {m : Str -> Option Value}, s₁.heap.Ns b m -> (hidT s₁.heap H).Ns b m := fun {b m} ⟨o, es, ep, e, d, r⟩ => ⟨o, es, ep, hidT_get e (noA e (fun z => by rw [z] at d; cases d) fun its n z => by rw [z] at d; cases d), d, r⟩
  have hKb : K.In (hidT s₁.heap H) := fun b o e => hidT_get (KX b o e) (by
   by_cases z : b = Pt
   ·subst z
    exact (hKP o e).elim
   ·rcases hA b z with y | ⟨y, hk, _⟩
    ·exact y
    ·subst y
     rw [hk] at e; cases e)
  have hM : Mod K mg (hidT s₁.heap H) := ⟨hKb, nsK hns, ⟨mb, nsK hb, hbb⟩, let ⟨mc, h1, h2⟩ := hlim; ⟨mc, nsK h1, h2⟩⟩
  have e0 : Env0 P w K mg (hidT s₁.heap H) callerA [] s₁ H := ⟨rfl, hM, fun b o e => of_hidT e, Nat.le_of_eq (hidT_size _ _), trivial, fun b hb => absurd (show b ∈ ([] : List Addr) from hb) (by simp), hok, .of_eq hg⟩
  have hBm : (hidT s₁.heap H).BuiltinsAt mg Pt := by
   obtain ⟨bm, ob, b1, b2, b3, b4, b5, b6⟩ := hbm
   have hn : H bm = none := noA b3 (fun z => by rw [z] at b4; cases b4) fun its n z => by rw [z] at b6; cases b6
   refine ⟨bm, ob, b1, b2, fun z => ?_, fun z => ?_, hidT_get b3 hn, b4, b5, b6⟩
   ·obtain ⟨o, es, ep, e, d, _⟩ := hns
    rw [<- z, b3] at e
    cases e
    rw [b6] at d
    cases d
   ·rw [z, hP] at hn; cases hn
  refine codeAny_mono ((F _ hKb (nsK hns) hBm).run callerA [] s₁ H ⟨[.ref a], []⟩ [.ref a] [.ref a] _ _ hr e0 (hbind s₁ (.ref a)) (.cons rfl .nil) (hsp H hP hS)) fun r s' h => ?_
  cases r with
  | error e => exact (hCX H e s' h).elim
  | ok fl =>
   cases fl with
   | next => exact False.elim h
   | brk => exact False.elim h
   | cont => exact False.elim h
   | ret u =>
    obtain ⟨v, H', os, bare, un, hok', r', q⟩ := h
    have q' : v = .bl true := q
    subst q'
    obtain rfl : u = Value.bool true := r'
    refine ⟨rfl, ⟨fun b o e => ?_, fun b o e => un.there b o e (by simp)⟩, os, bare⟩
    by_cases z : b = Pt
    ·subst z
     obtain ⟨more, e1⟩ := un.tbls b _ hP
     have e2 : s'.heap.get? b = some { cls := .none, data := .fields (#[] ++ more) } := hok' b _ e1
     rw [hT] at e
     cases e
     exact .inr (.inl ⟨tab.isCodeTable, rfl, #[], more, rfl, e2⟩)
    ·rcases hA b z with y | ⟨_, _, ob, xs, y⟩
     ·exact .inl (un.keep b o e y (by intro z; exact absurd (show b ∈ ([] : List Addr) from z) (by simp)) (by simp))
     ·have z2 := un.frzs b ob _ y
      obtain ⟨e1, _⟩ := hok b _ y
      obtain ⟨e2, _⟩ := hok' b _ z2
      rw [e] at e1; cases e1
      exact .inl e2
 cases hk : K.lookup a with
 | some o =>
  have e := KX a o hk
  rw [ha] at e
  cases e
  refine core (fun b => if b = Pt then some (.tbl #[]) else none) (if_pos rfl) (.inr ⟨_, vs.toArray, _, hk, rfl, rfl, rfl, by rw [List.size_toArray, lenV]; exact hl, by simpa using rv⟩) (fun b u z => ?_) fun b n => .inl (if_neg n)
  by_cases hb : b = Pt
  ·have z' := (if_pos hb).symm.trans z
   cases z'
   subst hb
   exact hT
  ·have z' := (if_neg hb).symm.trans z
   cases z'
 | none =>
  refine core (fun b => if b = Pt then some (.tbl #[]) else if b = a then some (.frz { cls := .type "list", data := .seq vs.toArray } (.lst (ns.map V.int))) else none) (if_pos rfl) (.inl (.inr ⟨{ cls := .type "list", data := .seq vs.toArray }, (if_neg hPa).trans (if_pos rfl)⟩)) (fun b u z => ?_) fun b n => ?_
  ·by_cases hb : b = Pt
   ·have z' := (if_pos hb).symm.trans z
    cases z'
    subst hb
    exact hT
   ·have z1 := (if_neg hb).symm.trans z
    by_cases hba : b = a
    ·have z' := (if_pos hba).symm.trans z1
     cases z'
     subst hba
     exact ⟨ha, by rw [List.length_map]; exact hl, vs, _, rv, ha⟩
    ·have z' := (if_neg hba).symm.trans z1
     cases z'
  ·by_cases hba : b = a
   ·exact .inr ⟨hba, hk, _, _, (if_neg n).trans (if_pos hba)⟩
   ·exact .inl ((if_neg n).trans (if_neg hba))
theorem walk_ofT {l : PySem.W.OpenLaw} {n k : Nat} {q : Program} {loose : List Str} {XP : (Str -> Option Value) -> Heap -> Prop} {YP : World -> Heap -> Prop} {d : DefRec} {K : Params -> Fg_} {CX : World -> CXT} {sp : World -> Sp} {x : Str} {Pt : Addr}
  (hn : l.most = some n) (hn2 : n <= sizeLine) (hdf : d.params.defaults = []) (hr : Room k callerA)
  (hY : ∀ (w : World) (h : Heap), YP w h -> (K w.params).In h /\ h.get? Pt = some (tabObj #[])) (hKT : ∀ w : World, (K w.params).lookup Pt = none)
  (F : ∀ (w : World) (mg : Str -> Option Value) (fa : Addr) (h : Heap), (K w.params).In h -> h.Ns mainGlobals mg -> mg d.name = some (.ref fa) ->
   ∃ fd : FuncData, (∀ (s : Shared) (u : Value), BindsTo s fd ⟨[u], []⟩ [(x, u)]) /\ (∃ c, codeHdIn (K w.params) c Pt = true) /\
    ∀ base : Heap, (K w.params).In base -> base.Ns mainGlobals mg -> base.BuiltinsAt mg Pt -> FnOk l.prog w (K w.params) mg base (CX w) k fa fd [x] (sp w))
  (hsp : ∀ (w : World) (H : Hp) (a : Addr) (ns : List Int), ns.length <= n -> H Pt = some (.tbl #[]) -> SqL (K w.params) H a (ns.map V.int) -> sp w [.ref a] H (fun v _ => v = .bl true) fun _ _ _ => False)
  (hCX : ∀ (w : World) (H : Hp) (s : Shared) (e : Value) (s' : Shared), CX w [] H s (fun _ _ _ => False) e s' -> False) :
  PySem.W.WalkO q loose XP YP l.row.toRowW d [] (fun f vs => PySem.call f vs) := by
 refine Att.attach_call hn hdf fun w s₀ s₁ mg mb fa o pm cd doc a vs ns G Y ho hd hcd hmg hobj hints hlen hg => ?_
 obtain ⟨KX, hT⟩ := hY w _ Y
 obtain ⟨fd, hb, ⟨c, hC⟩, hF⟩ := F w mg fa _ KX G.T.g hmg
 exact law_callT KX hT hC (hKT w) G.T.g G.T.b G.T.builtins G.T.nolimit G.T.bmain hg hobj hints (Nat.le_trans hlen hn2) hr hF hb (fun H hP hS => hsp w H a ns hlen hP hS) fun H e s' => hCX w H s₁ e s'
end L2
namespace L2
open PySem PySem.W PySem.Spec PySem.Calls PyProof.Rows
structure Apart3 (z TI TO i1 i2 i3 l1 l2 l3 : Addr) : Prop where
 zz : TI ≠ z /\ TO ≠ z /\ i1 ≠ z /\ i2 ≠ z /\ i3 ≠ z /\ l1 ≠ z /\ l2 ≠ z /\ l3 ≠ z
 to : TI ≠ TO /\ i1 ≠ TO /\ i2 ≠ TO /\ i3 ≠ TO /\ l1 ≠ TO /\ l2 ≠ TO /\ l3 ≠ TO
 ii : i1 ≠ i2 /\ i1 ≠ i3 /\ i2 ≠ i3
 j1 : TI ≠ i1 /\ l1 ≠ i1 /\ l2 ≠ i1 /\ l3 ≠ i1
 j2 : TI ≠ i2 /\ l1 ≠ i2 /\ l2 ≠ i2 /\ l3 ≠ i2
 j3 : TI ≠ i3 /\ l1 ≠ i3 /\ l2 ≠ i3 /\ l3 ≠ i3
end L2
namespace L2
open PySem PySem.W PySem.Spec PySem.Calls PyProof.Rows
section
variable {X : Cx}
def rSortI (K : Fg_) : List V -> Hp -> VK -> Prop := fun xs H Q => ∃ (a : Addr) (ns : List Int), xs = [.ref a] /\ SqL K H a (ns.map V.int) /\ ns.length < 64 /\
 ∀ p (ms : List Int), H p = none -> ms.Perm ns -> (ms.Pairwise fun x y => x <= y) -> Q (.ref p) (upd H p (.lst (ms.map V.int)))
theorem call_sortI : CallR X (.builtin "sorted") (rSortI X.K) := by
 intro pins s σ H xs us Q I r h
 obtain ⟨a, ns, rfl, hq, hlen, q⟩ := h
 obtain ⟨u, rfl, rx⟩ := vals1 r
 cases rx
 obtain ⟨its, rv, pl, hz⟩ := I.list hq
 have hi : IntsAre its ns := intsAre_of rv
 have hil : its.length = ns.length := by rw [<- rv.length, List.length_map]
 refine sorted_ints pl.isList hi (by omega) fun out ms h1 h2 h3 => ?_
 obtain ⟨c, hc⟩ := sortedAll_at s.heap its out
 refine ⟨.ref (s.heap.objs.size + 1), _, I.laid (t' := s.toks) (o := .lst (ms.map V.int)) (fun b o e => sortedAll_old e) (Nat.le_succ _) ?_, rfl, q _ _ (I.hok.fresh (Nat.le_succ _)) h2 h3⟩
 refine ⟨by rw [List.length_map, h2.length_eq, sizeLine_eq]; omega, out.toList, c, vals_ints h1, ?_⟩
 rw [hc, Array.toArray_toList]
theorem call_sortIK {K : Fg_} (hK : X.K = K := by rfl) : CallR X (.builtin "sorted") (rSortI K) := hK ▸ call_sortI
theorem ap_rSortI {K : Fg_} {a : Addr} {H : Hp} {Q : VK} : rSortI K [.ref a] H Q = ∃ (ns : List Int), SqL K H a (ns.map V.int) /\ ns.length < 64 /\
 ∀ p (ms : List Int), H p = none -> ms.Perm ns -> (ms.Pairwise fun x y => x <= y) -> Q (.ref p) (upd H p (.lst (ms.map V.int))) := by simp [rSortI]
end
end L2
namespace L2
open PySem PySem.Spec PyProof.Rows
section
variable {prog : Program} {w : World} {A : Around} {E : Value -> Shared -> Prop} {h : Heap} {g : Array GenState} {d : Drawn} {t : Nat} {os : OsState} {a : Addr} {o : Obj}
 {nm q : Str} {C N : Addr} {bs bm bmB : List Value} {hdct : Bool} {sn : List Str} {sub : List Value} {ab : Bool} {col : Option Bool} {dd : Option Addr} {k0 k1 k2 k3 k5 : Option Value} {B newId initId : String} {K : Fg_}
end
end L2
namespace L2
open PySem PySem.Spec PyProof.Rows
structure XClsI (K : Fg_) (C fI : Addr) : Prop where
 ex : ∃ (nm qn : Str) (N : Addr) (bs bm : List Value) (sn : List Str) (sub : List Value) (ab : Bool) (col : Option Bool) (dd : Option Addr) (k0 k1 k2 k3 k5 : Option Value), K.lookup C = some (excClassObj nm qn C N bs bm true sn sub ab col dd k0 k1 k2 k3 k5 "ValueError.__new__") /\ PySem.W.tailIn K [.type "ValueError", .type "Exception", .type "BaseException", .type "object"] bm = true
 ini : PySem.W.findIn K (.ref C) "__init__" = some (some (.ref fI))
 fn : PySem.W.isFn K (.ref fI) = true
 sa : PySem.W.findIn K (.ref C) "__setattr__" = some (some (.builtin "object.__setattr__"))
 kp : PySem.W.keepIn K (.ref C) = true
section
variable {X : Cx} {CX : CXT} {k : Nat} {f C : Addr} {fd : FuncData} {ps ks : List Str} {sp : Sp} {dvs : List V} {ds : List Value} {E : XK} {x m fn : Str} {p np cpos pos apos : Pos} {e o : Expr} {es : List Expr} {ta tv : TE} {t tk : TA}
structure XIni (K : Fg_) (B : Addr) : Prop where
 ga : PySem.W.specialIn K (.ref B) "__getattribute__" = some (some (.builtin "type.__getattribute__"))
 rd : PySem.W.readsIn K B (.type "type") = true
 fi : PySem.W.findCls K (.ref B) (.type "type") "__init__" = some (.val (.builtin "ValueError.__init__"))
theorem int_text_len {i : Int} (h : i.natAbs < 2 ^ 300) : (Str.ofString (toString i)).length <= 400 := by
 have hn : i.natAbs.repr.length <= 300 := nat_repr_length_le (by decide) h
 have hl : ∀ s : String, (Str.ofString s).length = s.length := fun s => PySem.ofString_length s
 rw [hl]
 cases i with
 | ofNat n =>
  have : (toString (Int.ofNat n)) = n.repr := rfl
  rw [this]
  have hn : n.repr.length <= 300 := hn
  omega
 | negSucc n =>
  have : (toString (Int.negSucc n)) = "-" ++ (n + 1).repr := rfl
  rw [this, String.length_append]
  have hn : (n + 1).repr.length <= 300 := hn
  have : "-".length = 1 := rfl
  omega
end
end L2
namespace L2
open PySem PySem.W PySem.Spec PySem.Calls PyProof.Rows
section
variable {X : Cx} {pos : Pos} {e f : Expr}
def strI (i : Int) : Str := Str.ofString (toString i)
theorem strI_len {i : Int} (h : i.natAbs < 2 ^ 300) : (strI i).length <= 400 := int_text_len h
theorem log_of {i : Int} (hi : i.natAbs < 2 ^ 300) : i.natAbs.log2 < 1920 := by
 by_cases h0 : i.natAbs = 0
 ·rw [h0]; decide
 ·have := (Nat.log2_lt h0 (k := 300)).mpr hi
  omega
def rStr : List V -> Hp -> VK -> Prop := fun xs H Q => (∃ i : Int, xs = [.int i] /\ i.natAbs < 2 ^ 300 /\ Q (.str (strI i)) H) \/ (∃ z, xs = [.str z] /\ Q (.str z) H)
theorem call_strV : CallR X (.type "str") rStr := by
 intro pins s σ H xs us Q I r h
 rcases h with ⟨i, rfl, hi, q⟩ | ⟨z, rfl, q⟩
 ·exact call_str_int pins s σ H _ us Q I r ⟨i, rfl, log_of hi, q⟩
 ·obtain ⟨u, rfl, rx⟩ := vals1 r
  obtain ⟨t, rfl⟩ := rx
  exact P.str_of_str ⟨.str z, H, I, ⟨_, rfl⟩, q⟩
theorem strs_of : ∀ {xs : List Str} {its : List Value}, Vals (xs.map V.str) its -> ∃ l : List (Str × Tok), strValues l = its /\ l.map (·.1) = xs
 | [], _, .nil => ⟨[], rfl, rfl⟩
 | x :: xs, _, .cons r rs => by
  obtain ⟨t, rfl⟩ := r
  obtain ⟨l, e1, e2⟩ := strs_of rs
  exact ⟨(x, t) :: l, by rw [<- e1]; rfl, by rw [List.map_cons, e2]⟩
theorem fold_join (z : Str) : ∀ (xs : List Str) (n : Nat), xs.foldl (fun a x => a + x.length + z.length) n = n + (xs.map (·.length)).sum + xs.length * z.length
 | [], n => by simp
 | x :: xs, n => by
  rw [List.foldl_cons, fold_join z xs, List.map_cons, List.sum_cons, List.length_cons, Nat.succ_mul]
  omega
def rJoin : V -> List V -> Hp -> VK -> Prop := fun v vs H Q => ∃ (z : Str) (a : Addr) (xs : List Str), v = .str z /\ vs = [.ref a] /\ H a = some (.lst (xs.map V.str)) /\ (xs.map (·.length)).sum + xs.length * z.length <= 1000000 /\ Q (.str (Txt.join z xs)) H
theorem mt_join : MtM X "str.join" rJoin := by
 intro pins s σ H x vs v us Q I rx rv h
 obtain ⟨z, a, xs, rfl, rfl, hH, hb, q⟩ := h
 obtain ⟨t, rfl⟩ := rx
 obtain ⟨u, rfl, ru⟩ := rv.one
 cases ru
 obtain ⟨hz, its, n, r, hl, e⟩ := I.lstM hH
 obtain ⟨l, e1, e2⟩ := strs_of r
 refine SC.join (D := a) (l := l) (texts := xs) ⟨_, e, rfl, n, by rw [e1]⟩ e2 ?_ fun t' k => ⟨.str _, H, I.tok _, ⟨_, rfl⟩, q⟩
 unfold JoinOk
 rw [List.foldl_toArray, fold_join]
 have : Builtin.Str.tooLong (0 + (xs.map (·.length)).sum + xs.length * z.length) = false := decide_eq_false (by rw [sizeLine_eq]; omega)
 rw [this]
 rfl
def tFII (y : Str) (te tf : TE) : TE := fun σ H Q => te σ H fun v H1 => ∃ i : Int, v = .int i /\ i.natAbs < 2 ^ 300 /\ tf σ H1 fun u H2 => ∃ j : Int, u = .int j /\ j.natAbs < 2 ^ 300 /\ Q (.str (strI i ++ y ++ strI j)) H2
theorem pe_fstrII {y : Str} {j1 : Nat} {p1 p2 p3 : Pos} {te tf : TE} (he : PE X e te) (hf : PE X f tf) (h1 : y.length <= 1000 := by decide +kernel) : PE X (.JoinedStr [.FormattedValue e (-1) none p1, .Constant (.str y) j1 p2, .FormattedValue f (-1) none p3] pos) (tFII y te tf) := by
 intro pins s σ H Q I h
 have e0 : ∀ z : Str, (Str.empty ++ z) = z := fun z => by
  show Str.mk (#[] ++ z.cps) = z
  rw [Array.empty_append]
 have la : ∀ y z : Str, (y ++ z).length = y.length + z.length := fun y z => by
  show (y.cps ++ z.cps).size = _
  rw [Array.size_append]; rfl
 refine wpAny_JoinedStr (Joins_cons (wpAny_FormattedValue_plain ?_))
 refine thn (he pins _ σ H _ I h) fun v s1 ⟨w, H1, I1, r1, i, ei, hi, q⟩ => ?_
 subst ei
 obtain ⟨t1, rfl⟩ := r1
 have hl := strI_len hi
 refine wpAny_formatField_int (log_of hi) ⟨_, _, rfl, by rw [e0, sizeLine_eq]; show (strI i).length <= _; omega, Joins_cons (Calls.Constant_str ⟨y, _, rfl, by rw [la, e0, sizeLine_eq]; show (strI i).length + _ <= _; omega, Joins_cons (wpAny_FormattedValue_plain ?_)⟩)⟩
 rw [e0]
 refine thn (hf pins _ σ H1 _ ((I1.tok _).tok _) q) fun v s2 ⟨w, H2, I2, r2, j, ej, hj, q⟩ => ?_
 subst ej
 obtain ⟨t2, rfl⟩ := r2
 have hl2 := strI_len hj
 exact wpAny_formatField_int (log_of hj) ⟨_, _, rfl, by rw [la, la, sizeLine_eq]; show (strI i).length + y.length + (strI j).length <= _; omega, Joins_nil ⟨by rw [la, la, sizeLine_eq]; show (strI i).length + y.length + (strI j).length <= _; omega, .str _, H2, I2.tok _, ⟨_, rfl⟩, q⟩⟩
theorem ap_rStr {x : V} {H : Hp} {Q : VK} : rStr [x] H Q = ((∃ i : Int, x = .int i /\ i.natAbs < 2 ^ 300 /\ Q (.str (strI i)) H) \/ (∃ z, x = .str z /\ Q (.str z) H)) := by simp [rStr]
theorem ap_rJoin {z : Str} {a : Addr} {H : Hp} {Q : VK} : rJoin (.str z) [.ref a] H Q = ∃ (xs : List Str), H a = some (.lst (xs.map V.str)) /\ (xs.map (·.length)).sum + xs.length * z.length <= 1000000 /\ Q (.str (Txt.join z xs)) H := by simp [rJoin]
theorem ap_FII {y : Str} {te tf : TE} {σ : St} {H : Hp} {Q : VK} : tFII y te tf σ H Q = te σ H fun v H1 => ∃ i : Int, v = .int i /\ i.natAbs < 2 ^ 300 /\ tf σ H1 fun u H2 => ∃ j : Int, u = .int j /\ j.natAbs < 2 ^ 300 /\ Q (.str (strI i ++ y ++ strI j)) H2 := rfl
end
end L2
namespace L2
open PySem PySem.W PySem.Spec PySem.Calls PyProof.Rows
section
theorem cut_two {c : Nat} : ∀ {a b r s : List Nat}, c ∉ a -> c ∉ b -> a ++ c :: r = b ++ c :: s -> a = b /\ r = s
 | [], [], r, s, _, _, h => ⟨rfl, (List.cons.inj h).2⟩
 | [], y :: b, r, s, _, hb, h => (hb (by rw [(List.cons.inj h).1]; exact List.mem_cons_self)).elim
 | x :: a, [], r, s, ha, _, h => (ha (by rw [<- (List.cons.inj h).1]; exact List.mem_cons_self)).elim
 | x :: a, y :: b, r, s, ha, hb, h => by
  obtain ⟨e1, e2⟩ := List.cons.inj h
  obtain ⟨e3, e4⟩ := cut_two (a := a) (b := b) (fun m => ha (List.mem_cons_of_mem _ m)) (fun m => hb (List.mem_cons_of_mem _ m)) e2
  exact ⟨by rw [e1, e3], e4⟩
theorem join_two (c : Nat) (p q : Str) (r : List Str) : (Str.join ⟨#[c]⟩ (p :: q :: r)).cps.toList = p.cps.toList ++ c :: (Str.join ⟨#[c]⟩ (q :: r)).cps.toList := by
 show (p ++ ⟨#[c]⟩ ++ Str.join ⟨#[c]⟩ (q :: r)).cps.toList = _
 simp only [Array.toList_append, Str.cps_append]
 simp
theorem str_ext {a b : Str} (h : a.cps.toList = b.cps.toList) : a = b := Str.ext' (Array.toList_inj.mp h)
theorem join_inj (c : Nat) : ∀ {ps qs : List Str}, ps ≠ [] -> qs ≠ [] -> (∀ p ∈ ps, c ∉ p.cps.toList) -> (∀ q ∈ qs, c ∉ q.cps.toList) -> (Str.join ⟨#[c]⟩ ps).cps.toList = (Str.join ⟨#[c]⟩ qs).cps.toList -> ps = qs
 | [], _, h, _, _, _, _ => (h rfl).elim
 | _, [], _, h, _, _, _ => (h rfl).elim
 | [p], [q], _, _, _, _, h => by rw [str_ext (a := p) (b := q) h]
 | [p], q :: q2 :: qs, _, _, hp, _, h => by
  rw [join_two] at h
  have h : p.cps.toList = _ := h
  exact (hp p List.mem_cons_self (by rw [h]; exact List.mem_append_right _ List.mem_cons_self)).elim
 | p :: p2 :: ps, [q], _, _, _, hq, h => by
  rw [join_two] at h
  have h : _ = q.cps.toList := h
  exact (hq q List.mem_cons_self (by rw [<- h]; exact List.mem_append_right _ List.mem_cons_self)).elim
 | p :: p2 :: ps, q :: q2 :: qs, _, _, hp, hq, h => by
  rw [join_two, join_two] at h
  obtain ⟨e1, e2⟩ := cut_two (hp p List.mem_cons_self) (hq q List.mem_cons_self) h
  have e3 := join_inj c (ps := p2 :: ps) (qs := q2 :: qs) (List.cons_ne_nil _ _) (List.cons_ne_nil _ _) (fun x hx => hp x (List.mem_cons_of_mem _ hx)) (fun x hx => hq x (List.mem_cons_of_mem _ hx)) e2
  rw [str_ext (a := p) (b := q) e1, e3]
theorem split_join {c : Nat} {ps : List Str} (h : ps ≠ []) (hf : ∀ p ∈ ps, c ∉ p.cps.toList) : Txt.split (Txt.join ⟨#[c]⟩ ps) ⟨#[c]⟩ = ps := by
 have e : Txt.join ⟨#[c]⟩ ps = Str.join ⟨#[c]⟩ ps := StrLaws.glued_eq_join _ _
 refine join_inj c (fun z => ?_) h (StrLaws.split_free _ c) hf ?_
 ·have := split_pos (Txt.join ⟨#[c]⟩ ps) ⟨#[c]⟩
  rw [z] at this
  exact absurd this (by decide)
 ·rw [StrLaws.join_split, e]
end
section
variable {X : Cx}
theorem vals_sv : ∀ (l : List (Str × Tok)), Vals ((l.map (·.1)).map V.str) (strValues l)
 | [] => .nil
 | (z, t) :: l => .cons ⟨t, rfl⟩ (vals_sv l)
theorem split_made {prog : Program} {w : World} {A : Around} {E : Value -> Shared -> Prop} {s : Shared} {x y : Str} {t u : Tok} {Q : Value -> Shared -> Prop} (hy : (y.length == 0) = false)
  (hsz : x.length <= sizeLine) (hsz2 : (Builtin.Str.partsBetween x (Builtin.Str.occurrences x y 0 x.length (x.length + 1)) y.length).length <= sizeLine)
  (hq : ∀ (l : List (Str × Tok)) tk, l.map (·.1) = Txt.split x y -> Q (.ref s.heap.objs.size) { s with toks := tk, heap := s.heap.push { cls := .type "list", data := .seq (strValues l).toArray } }) :
  (wpAny (model prog w) A (call (.builtin "str.split") [.str x t, .str y u]) Q E s) := by
 cases h1 : (decide (x.length < y.length) || decide (Builtin.Str.strKind x < Builtin.Str.strKind y))
 ·cases hf : (Builtin.Str.occurrences x y 0 x.length (x.length + 1)).isEmpty
  ·refine call_meets (s := s) F.slot_str_split (typeIs_str _ _ _) F.entry_str_split (F.args_str_split_2 _ _) (meets_str_split_sep x y t u h1 hy hf hsz hsz2) ?_
   show wants Q E _ { s with toks := _, heap := s.heap.push { cls := .type "list", data := .seq (strsFrom s.toks (Builtin.Str.partsBetween x (Builtin.Str.occurrences x y 0 x.length (x.length + 1)) y.length)).toArray } }
   rw [strsFrom_eq]
   exact hq (numbered s.toks _) _ ((numbered_texts _ _).trans ((if_neg (ne_true_of_eq_false h1)).trans (if_neg (ne_true_of_eq_false hf))).symm)
  ·exact call_meets (s := s) F.slot_str_split (typeIs_str _ _ _) F.entry_str_split (F.args_str_split_2 _ _) (meets_str_split_not_found x y t u h1 hy hf)
    (hq [(x, t)] _ ((if_neg (ne_true_of_eq_false h1)).trans (if_pos hf)).symm)
 ·exact call_meets (s := s) F.slot_str_split (typeIs_str _ _ _) F.entry_str_split (F.args_str_split_2 _ _) (meets_str_split_cannot_occur x y t u h1)
   (hq [(x, t)] _ (if_pos h1).symm)
def rSplit : V -> List V -> Hp -> VK -> Prop := fun v vs H Q => ∃ (z y : Str), v = .str z /\ vs = [.str y] /\ y.length = 1 /\ z.length <= 1000000 /\ ∀ p, H p = none -> Q (.ref p) (upd H p (.lst ((Txt.split z y).map V.str)))
theorem mt_split : MtM X "str.split" rSplit := by
 intro pins s σ H x vs v us Q I rx rv h
 obtain ⟨z, y, rfl, rfl, hy, hz, q⟩ := h
 obtain ⟨t, rfl⟩ := rx
 obtain ⟨u, rfl, ru⟩ := rv.one
 obtain ⟨t2, rfl⟩ := ru
 have hsp := split_le z y
 have hl : (Txt.split z y).length <= sizeLine := by rw [sizeLine_eq]; omega
 refine split_made (by rw [hy]; rfl) (by rw [sizeLine_eq]; omega) ?_ fun l tk hlt => ?_
 ·rw [len_partsBetween, sizeLine_eq]
  have := StrLaws.occ_length_le z y 0 z.length (z.length + 1)
  omega
 ·refine ⟨.ref s.heap.objs.size, _, I.laid (t' := tk) (o := .lst ((Txt.split z y).map V.str)) (fun b o' e => Heap.get?_push_of_some _ e) (Nat.le_refl _) ?_, rfl, q _ (I.hok.fresh (Nat.le_refl _))⟩
  refine ⟨by rw [List.length_map]; exact hl, strValues l, 0, ?_, Heap.get?_push_size _ rfl⟩
  rw [<- hlt]
  exact vals_sv l
theorem num_text {n : Int} (h0 : 0 <= n) (h1 : n.natAbs < 2 ^ 300) : PySem.intText? (strI n) = some n := by
 have hl : (strI n).length <= 400 := strI_len h1
 obtain ⟨m, em⟩ := Int.eq_ofNat_of_zero_le h0
 subst em
 have hd : NumText.AllDigits (strI ((m : Nat) : Int)).cps.toList := by
  intro c hc
  unfold strI at hc
  rw [KIN.signs_num] at hc
  obtain ⟨ch, g2, e⟩ := List.mem_map.mp hc
  have r := digit_range (Nat.isDigit_of_mem_toDigits (by decide) (by decide) g2)
  rw [<- e]
  exact r
 have hne : (strI ((m : Nat) : Int)).cps.toList ≠ [] := by
  unfold strI
  rw [KIN.signs_num]
  intro e
  have h3 := toDigits_len_ge 10 m
  rw [List.map_eq_nil_iff.mp e] at h3
  exact absurd h3 (by decide)
 have e := PySem.intText_digits hd hne (Nat.le_trans hl (by decide))
 unfold strI at e ⊢
 rw [KIN.signs_num, KIN.val_back] at e
 exact e
def rIntT : List V -> Hp -> VK -> Prop := fun xs H Q => ∃ n : Int, xs = [.str (strI n)] /\ 0 <= n /\ n.natAbs < 2 ^ 300 /\ Q (.int n) H
theorem call_intT : CallR X (.type "int") rIntT := by
 intro pins s σ H xs us Q I r h
 obtain ⟨n, rfl, h0, h1, q⟩ := h
 obtain ⟨u, rfl, ru⟩ := vals1 r
 obtain ⟨t, rfl⟩ := ru
 exact KIN.call_text (num_text h0 h1) (Nat.le_trans (strI_len h1) (by decide)) ⟨.int n, H, I.tok _, ⟨_, rfl⟩, q⟩
def rStarts : V -> List V -> Hp -> VK -> Prop := fun v vs H Q => ∃ (z y : Str), v = .str z /\ vs = [.str y] /\ Q (.bl (Txt.startswith z y)) H
theorem mt_startswith : MtM X "str.startswith" rStarts := by
 intro pins s σ H x vs v us Q I rx rv h
 obtain ⟨z, y, rfl, rfl, q⟩ := h
 obtain ⟨t, rfl⟩ := rx
 obtain ⟨u, rfl, ru⟩ := rv.one
 obtain ⟨t2, rfl⟩ := ru
 exact SC.startswith ⟨.bl _, H, I, rfl, q⟩
def rPart : V -> List V -> Hp -> VK -> Prop := fun v vs H Q => ∃ (z y : Str), v = .str z /\ vs = [.str y] /\ y.length = 1 /\ z.length <= 1000000 /\ ∀ p, H p = none -> Q (.ref p) (upd H p (.tup [.str (Txt.partition z y).1, .str (Txt.partition z y).2.1, .str (Txt.partition z y).2.2]))
theorem part_made {prog : Program} {w : World} {A : Around} {E : Value -> Shared -> Prop} {s : Shared} {x y : Str} {t u : Tok} {Q : Value -> Shared -> Prop} (hy : (y.length == 0) = false) (hsz : x.length <= sizeLine)
  (h : ∀ ta tb tc k, Q (.ref s.heap.objs.size) { s with toks := k, heap := s.heap.push { cls := .type "tuple", data := .seq [.str (Txt.partition x y).1 ta, .str (Txt.partition x y).2.1 tb, .str (Txt.partition x y).2.2 tc].toArray } }) :
  (wpAny (model prog w) A (call (.builtin "str.partition") [.str x t, .str y u]) Q E s) := by
 refine call_meets (s := s) F.slot_str_partition (typeIs_str _ _ _) F.entry_str_partition (F.args_str_partition_2 _ _) (meets_str_partition x y t u hy hsz) ?_
 have h' := h
 unfold Txt.partition at h'
 revert h'
 cases Builtin.Str.occurrences x y 0 x.length 1 with
 | nil => intro h'; exact h' _ _ _ _
 | cons i r => intro h'; exact h' _ _ _ _
theorem mt_partition : MtM X "str.partition" rPart := by
 intro pins s σ H x vs v us Q I rx rv h
 obtain ⟨z, y, rfl, rfl, hy, hz, q⟩ := h
 obtain ⟨t, rfl⟩ := rx
 obtain ⟨u, rfl, ru⟩ := rv.one
 obtain ⟨t2, rfl⟩ := ru
 refine part_made (by rw [hy]; rfl) (by rw [sizeLine_eq]; omega) fun ta tb tc k => ?_
 refine ⟨.ref s.heap.objs.size, _, I.laid (t' := k) (o := .tup [.str (Txt.partition z y).1, .str (Txt.partition z y).2.1, .str (Txt.partition z y).2.2]) (fun b o' e => Heap.get?_push_of_some _ e) (Nat.le_refl _) ?_, rfl, q _ (I.hok.fresh (Nat.le_refl _))⟩
 exact ⟨by rw [sizeLine_eq]; simp, [.str (Txt.partition z y).1 ta, .str (Txt.partition z y).2.1 tb, .str (Txt.partition z y).2.2 tc], .cons ⟨_, rfl⟩ (.cons ⟨_, rfl⟩ (.cons ⟨_, rfl⟩ .nil)), _, Heap.get?_push_size _ rfl, rfl, _, rfl⟩
theorem part_at {c : Nat} {a b : Str} (ha : c ∉ a.cps.toList) : Txt.partition (a ++ ⟨#[c]⟩ ++ b) ⟨#[c]⟩ = (a, ⟨#[c]⟩, b) := by
 have hx : (a ++ ⟨#[c]⟩ ++ b).cps.toList = a.cps.toList ++ c :: b.cps.toList := by
  simp only [Array.toList_append, Str.cps_append]
  simp
 have hsum := PySem.StrLaws.partition_sum (a ++ ⟨#[c]⟩ ++ b) ⟨#[c]⟩
 rcases partition_whole (a ++ ⟨#[c]⟩ ++ b) ⟨#[c]⟩ with ⟨_, hn⟩ | ⟨i, e, _, hno⟩
 ·obtain ⟨i, hi⟩ := (mem_iff_at (a ++ ⟨#[c]⟩ ++ b) c).mp (by rw [hx]; exact List.mem_append_right _ List.mem_cons_self)
  exact (hn i hi).elim
 ·rw [e] at hsum ⊢
  have hf : c ∉ (Builtin.Str.strSub (a ++ ⟨#[c]⟩ ++ b) 0 i).cps.toList := by
   rw [StrLaws.strSub_toList, Nat.sub_zero, List.drop_zero]
   intro hm
   obtain ⟨j, hj⟩ := List.mem_iff_getElem?.mp hm
   have hjl : j < i := by
    have := (List.getElem?_eq_some_iff.mp hj).1
    rw [List.length_take] at this
    omega
   rw [List.getElem?_take_of_lt hjl] at hj
   exact hno j hjl ((StrLaws.subAt_one _ c j).mpr hj)
  have h2 := congrArg (fun z : Str => z.cps.toList) hsum
  simp only [Str.cps_append, Array.toList_append] at h2
  have h3 : (Builtin.Str.strSub (a ++ ⟨#[c]⟩ ++ b) 0 i).cps.toList ++ c :: (Builtin.Str.strSub (a ++ ⟨#[c]⟩ ++ b) (i + (⟨#[c]⟩ : Str).length) (a ++ ⟨#[c]⟩ ++ b).length).cps.toList = a.cps.toList ++ c :: b.cps.toList := by simpa using h2
  obtain ⟨e1, e2⟩ := cut_two hf ha h3
  rw [str_ext e1, str_ext e2]
theorem ap_rSplit {z y : Str} {H : Hp} {Q : VK} : rSplit (.str z) [.str y] H Q = (y.length = 1 /\ z.length <= 1000000 /\ ∀ p, H p = none -> Q (.ref p) (upd H p (.lst ((Txt.split z y).map V.str)))) := by simp [rSplit]
theorem ap_rStarts {z y : Str} {H : Hp} {Q : VK} : rStarts (.str z) [.str y] H Q = Q (.bl (Txt.startswith z y)) H := by simp [rStarts]
theorem ap_rPart {z y : Str} {H : Hp} {Q : VK} : rPart (.str z) [.str y] H Q = (y.length = 1 /\ z.length <= 1000000 /\ ∀ p, H p = none -> Q (.ref p) (upd H p (.tup [.str (Txt.partition z y).1, .str (Txt.partition z y).2.1, .str (Txt.partition z y).2.2]))) := by simp [rPart]
end
end L2
namespace L2
open PySem PySem.W PySem.Spec PySem.Calls PyProof.Rows
section
variable {prog : Program} {w : World} {A : Around} {E : Value -> Shared -> Prop} {s : Shared}
theorem tc_enum1 (a b : Value) : checkTypeCall "enumerate" ⟨[a], [("start", b)]⟩ = pure () := by kernel_rfl
theorem nc_enum1 (a b : Value) : checkBuiltinCall "enumerate.__new__" ⟨[.type "enumerate", a], [("start", b)]⟩ = pure () := by kernel_rfl
theorem ok_enum1 (obj a b : Value) : argsOk "object.__init__" ⟨[obj, a], [("start", b)]⟩ := F.args_object_init_2 obj a
theorem ty_kw {T newId initId : String} {Bn Bi : Builtin} {args : List Value} {kw : List (Str × Value)} {S : PySem.Spec} {Q Q1 : Value -> Shared -> Prop} (ft : TypeCalled T newId initId) (hct : checkTypeCall T ⟨args, kw⟩ = pure ()) (hcn : checkBuiltinCall newId ⟨.type T :: args, kw⟩ = pure ())
  (eN : entryFor table newId = some Bn) (eI : entryFor table initId = some Bi) (g : Meets (Bn ⟨.type T :: args, kw⟩) S) (h : S A.in1 (wants Q1 E) s)
  (hnext : ∀ obj s1, Q1 obj s1 -> s1.TypeIs obj T /\ argsOk initId ⟨obj :: args, kw⟩ /\ ∃ Si, Meets (Bi ⟨obj :: args, kw⟩) Si /\ Si A.in1 (wants (fun r s2 => r = .none /\ Q obj s2) E) s1) : wpAny (model prog w) A (call (.type T) args kw) Q E s := by
 obtain ⟨cc, tl, hmro⟩ := ft.mro
 have hma := ft.made
 have hsu := ft.sub
 refine wpAny_call (codeAny_of_tree (?_ : wpAny _ _ (callAny (.type T) _) _ _ _))
 refine wpAny_pure ⟨Code.quiet_builtin _ (by decide +kernel), codeAny_builtin (F.entry_type_call) ?_⟩
 rw [Around.under_plain (weight_type_call_type T args kw) (units_type_call_type T args kw)]
 have g1 := ft.notType
 have g2 := ft.canCreate
 repeat (any_goals (first | wp_step | assumption))
 refine codeAny_mono (codeAny_call_builtin ft.plain eN (wpAny_of_eq hcn (g prog w A.in1 _ s h))) fun r s1 hr => ?_
 cases r with
 | error e => exact hr
 | ok fl =>
  cases fl with
  | ret obj =>
   obtain ⟨hT, hok, Si, gi, hsi⟩ := hnext obj s1 hr
   have hli := ft.init.lookup
   have hbi := ft.init.bind obj
   repeat (any_goals (first | wp_step | assumption))
   refine codeAny_mono (codeAny_call_builtin ft.init.plain eI (ft.init.check _ _ _ _ _ _ _ _ hT hok (gi prog w A.in1 _ s1 hsi))) fun r2 s2 hr2 => ?_
   cases r2 with
   | error e => exact hr2
   | ok fl2 =>
    cases fl2 with
    | ret r =>
     obtain ⟨rfl, hq⟩ := hr2
     repeat (any_goals (first | wp_step | assumption))
    | _ => exact hr2.elim
  | _ => exact hr.elim
theorem init_kw {T newId : String} {self a : Value} {kw : List (Str × Value)} (hl : typeLookup (.type T) "__init__" = pure (some (.builtin "object.__init__"))) (hm : Bind.madeBy (.type T) = pure (some newId)) (hne : (some newId != some "object.__new__") = true) :
  Meets (Builtin.«object.__init__» ⟨[self, a], kw⟩) (fun _ R s => s.TypeIs self T /\ R (.ok (.ret .none)) s) := by
 refine Meets.of_wp fun p0 w A R s hs => ?_
 obtain ⟨hT, hq⟩ := hs
 repeat (any_goals (first | wp_step | assumption))
 exact ⟨_, rfl, hq⟩
end
section
variable {prog : Program} {w : World} {A : Around}
theorem draws1 {it l : Addr} {items : Array Value} (hne : l ≠ it) (hh : A.handled = none) : Draws prog w A it [it, l] (items.size + 1) (fun j x => items[j - 1]? = some x) (fun j h => 1 <= j /\ h.IsListIter it l (j - 1) /\ h.IsList l items) where
 live := fun j h ⟨_, ⟨o, ho, _⟩, _⟩ => ⟨o, ho⟩
 frame := fun j h h' ⟨h1, ⟨o, ho, r⟩, ⟨ol, hol, r2⟩⟩ k => ⟨h1, ⟨o, k it (by simp) o ho, r⟩, ⟨ol, k l (by simp) ol hol, r2⟩⟩
 item := fun j s Q E hj ⟨h1, hit, hl⟩ hQ => by
  have hlt : j - 1 < items.size := by omega
  refine wpAny_nextOf_list_item hit hl (x := items[j - 1]) (by simp) fun h' hit' hs => hQ _ h' s.toks (by simp) ⟨by omega, ?_, ?_⟩ hs
  ·rw [show j + 1 - 1 = j - 1 + 1 by omega]
   exact hit'
  ·obtain ⟨ol, hol, r⟩ := hl
   exact ⟨ol, (hs.2 l hne).trans hol, r⟩
 done := fun s Q E ⟨h1, hit, hl⟩ hE => wpAny_nextOf_list_end hh hit hl (by simp) hE
theorem draws_end {it l : Addr} {items : Array Value} {n : Nat} (hx : items[n - 1]? = none) (hh : A.handled = none) : Draws prog w A it [it, l] n (fun _ _ => False) (fun j h => j = n /\ h.IsListIter it l (n - 1) /\ h.IsList l items) where
 live := fun j h ⟨_, ⟨o, ho, _⟩, _⟩ => ⟨o, ho⟩
 frame := fun j h h' ⟨h1, ⟨o, ho, r⟩, ⟨ol, hol, r2⟩⟩ k => ⟨h1, ⟨o, k it (by simp) o ho, r⟩, ⟨ol, k l (by simp) ol hol, r2⟩⟩
 item := fun j s Q E hj ⟨h1, _⟩ _ => absurd hj (by omega)
 done := fun s Q E ⟨h1, hit, hl⟩ hE => wpAny_nextOf_list_end hh hit hl hx hE
theorem withT_kw {M : Model} {E : Value -> Shared -> Prop} {s : Shared} {env : Env} {pos : Pos} {T : String} {e : Expr} {rest : List Expr} {kws : List Keyword} {Q : Value -> Shared -> Prop}
  (h : wpAny M A (spliced (backTo pos (starEach (e :: rest) env))) (fun vs s1 => wpAny M A (evalAll ((backToKw pos (keywordEach kws env)).map (·.2))) (fun kvs s2 => wpAny M A (call (.type T) vs (((backToKw pos (keywordEach kws env)).filterMap (·.1)).zip kvs)) Q E s2) E s1) E s)
  (he : backTo pos (starEach (e :: rest) env) = (false, eval e env) :: backTo pos (starEach rest env)) (hpl : (backTo pos (starEach (e :: rest) env)).any (·.1) = false)
  (hall : (backToKw pos (keywordEach kws env)).all (·.1.isSome) = true) (hkw : (backToKw pos (keywordEach kws env)).any (·.1.isNone) = false) :
  wpAny M A (callWith pos (.type T) [] (backTo pos (starEach (e :: rest) env)) (backToKw pos (keywordEach kws env))) Q E s := by
 have h2 : wpAny M A (evalArgs (.type T) true (backTo pos (starEach (e :: rest) env)) (backToKw pos (keywordEach kws env))) (fun a s1 => wpAny M A (call (.type T) ([] ++ a.pos) a.kw) Q E s1) E s := by
  rw [he] at h ⊢
  exact evalArgs_kwB hall h
 unfold callWith
 refine wpAny_bind (wpAny_holding (wpAny_mono h2 (fun a s1 h1 => wpAny_bind (wpAny_standAt ?_)) fun _ _ z => z))
 simp only [hkw, hpl, Bool.or_false]
 exact wpAny_bind (wpAny_pure (wpAny_bind (wpAny_mono h1 (fun r s2 hr => wpAny_bind (wpAny_holding (wpAny_point (wpAny_pure hr)))) fun _ _ z => z)))
theorem new_enum1 (l : Addr) (items : Array Value) (n : Nat) (dct : Option Addr) (sl : Array (Option Value)) (t : Tok) :
  Meets (Builtin.«enumerate.__new__» ⟨[.type "enumerate", .ref l], [("start", .int 1 t)]⟩) (fun _ R s => s.heap.get? l = some { cls := .type "list", dict := dct, data := .seq items n, slots := sl } /\
   R (.ok (.ret (.ref (s.heap.push { cls := .type "list_iterator", data := .fields #[.ref l, .int 0 0] }).objs.size))) { s with heap := (s.heap.push { cls := .type "list_iterator", data := .fields #[.ref l, .int 0 0] }).push { cls := .type "enumerate", data := .fields #[.none, .bool false, .ref s.heap.objs.size, rawInt 1, .none, .none] } }) :=
 .of_wp fun p0 w A R s h => by
  obtain ⟨hp, gg, d, tk, os⟩ := s
  obtain ⟨hl, h⟩ := h
  have hsub := sub_enumerate
  have hL : Heap.IsList (Shared.heap ⟨hp, gg, d, tk, os⟩) l items := ⟨_, hl, rfl, n, rfl⟩
  wp_walk using AutoSeq1.wpAny_loadPart' hl
  refine wpAny_stack_any fun _ => wpAny_pure ?_
  split
  ·rename_i c0 _ _ _ _ _
   cases (c0 == Value.type "enumerate")
   ·wp_walk using AutoSeq1.wpAny_loadPart' hl, wpAny_pyIter_list hL
    exact ⟨_, rfl, h⟩
   ·wp_walk using AutoSeq1.wpAny_loadPart' hl, wpAny_pyIter_list hL
    exact ⟨_, rfl, h⟩
  ·wp_walk using AutoSeq1.wpAny_loadPart' hl, wpAny_pyIter_list hL
   exact ⟨_, rfl, h⟩
theorem call_enum1 {E : Value -> Shared -> Prop} {s : Shared} {l : Addr} {items : Array Value} {t : Tok} {Q : Value -> Shared -> Prop} (hL : s.heap.IsList l items)
  (h : ∀ h', IsEnum h' (s.heap.objs.size + 1) s.heap.objs.size 1 .none -> h'.IsListIter s.heap.objs.size l 0 -> h'.objs.size = s.heap.objs.size + 2 -> (∀ b o, s.heap.get? b = some o -> h'.get? b = some o) -> Q (.ref (s.heap.objs.size + 1)) { s with heap := h' }) :
  wpAny (model prog w) A (call (.type "enumerate") [.ref l] [("start", .int 1 t)]) Q E s := by
 obtain ⟨⟨cc, dct, dt, sl⟩, hl, hc, n, hd⟩ := hL
 have hc : cc = .type "list" := hc
 have hd : dt = .seq items n := hd
 subst hc hd
 refine ty_kw (Q1 := fun obj s1 => s1.TypeIs obj "enumerate" /\ Q obj s1) F.called_enumerate (tc_enum1 _ _) (nc_enum1 _ _) F.entry_enumerate_new F.entry_object_init (new_enum1 l items n dct sl t) ⟨hl, ?_⟩ fun obj s1 hq => ⟨hq.1, ok_enum1 obj _ _, _, init_kw F.called_enumerate.init.lookup F.called_enumerate.made (by decide), hq.1, rfl, hq.2⟩
 have hz : (s.heap.push { cls := .type "list_iterator", data := .fields #[.ref l, .int 0 0] }).objs.size = s.heap.objs.size + 1 := by rw [Heap.size_push]
 have he : IsEnum ((s.heap.push { cls := .type "list_iterator", data := .fields #[.ref l, .int 0 0] }).push { cls := .type "enumerate", data := .fields #[.none, .bool false, .ref s.heap.objs.size, rawInt 1, .none, .none] }) (s.heap.objs.size + 1) s.heap.objs.size 1 .none := by
  have := Heap.get?_push_size (s.heap.push { cls := .type "list_iterator", data := .fields #[.ref l, .int 0 0] }) (o := { cls := .type "enumerate", data := .fields #[.none, .bool false, .ref s.heap.objs.size, rawInt 1, .none, .none] }) rfl
  rw [hz] at this
  exact this
 show _ /\ _
 rw [hz]
 exact ⟨⟨_, he, rfl⟩, h _ he ⟨_, Heap.get?_push_of_some _ (Heap.get?_push_size _ rfl), rfl, rfl⟩ (by rw [Heap.size_push, hz]) fun b o x => Heap.get?_push_of_some _ (Heap.get?_push_of_some _ x)⟩
end
def Ite1 (K : Fg_) (a : Addr) : It :=
 ⟨fun i H => ∃ xs x, SqL K H a xs /\ xs[i]? = some x,
   fun i H v H' => ∃ p x, H p = none /\ v = .ref p /\ H' = upd H p (.tup [.int ((i + 1 : Nat) : Int), x]) /\ ∀ xs, SqL K H a xs -> xs[i]? = some x,
   fun i H => ∃ xs, SqL K H a xs /\ xs.length <= i⟩
theorem turn_enum1 {P : Program} {w : World} {K : Fg_} {elts : List Expr} {x1 : Nat} {pos : Pos} (a e it : Addr) (hei : e ≠ it) :
  Turn P w K (.Tuple elts x1 pos) (Ite1 K a) [e, it] e (fun i h => (∃ old, IsEnum h e it ((i + 1 : Nat) : Int) old) /\ h.IsListIter it a i) where
 mem := by simp
 obj := fun i h st c hb => by
  obtain ⟨⟨old, he⟩, ⟨o1, e1, c1, d1⟩⟩ := st
  simp only [List.mem_cons, List.not_mem_nil, or_false] at hb
  rcases hb with rfl | rfl
  ·exact ⟨_, he, fun v z => by cases z⟩
  ·exact ⟨_, e1, fun v z => by rw [d1] at z; cases z⟩
 keep := fun i h h' st k => by
  obtain ⟨⟨old, he⟩, h1⟩ := st
  exact ⟨⟨old, k _ (by simp) _ he⟩, h1.at fun o e => k _ (by simp) o e⟩
 item := by
  intro X hP hw hK hc i pins s σ H E I hf st hg
  subst hP hw hK
  obtain ⟨xs, x, hq1, hx⟩ := hg
  obtain ⟨its1, rv1, p1, _⟩ := I.list hq1
  obtain ⟨u1, hu1, ru1⟩ := rv1.get hx
  obtain ⟨⟨old, he⟩, h1⟩ := st
  have hL := p1.isList
  have nia : a ≠ it := fun z => by
   obtain ⟨o1, g1, c1, _⟩ := h1
   obtain ⟨o2, g2, c2, _⟩ := hL
   rw [z, g1] at g2
   cases g2
   rw [c1] at c2
   exact absurd c2 (by decide)
  have nea : e ≠ a := fun z => by
   obtain ⟨o2, g2, c2, _⟩ := hL
   rw [<- z, he] at g2
   cases g2
   exact absurd (show Value.type "enumerate" = Value.type "list" from c2) (by decide)
  have hsz : i + 1 < its1.toArray.size + 1 := by
   have := (List.getElem?_eq_some_iff.mp hu1).1
   simp
   omega
  refine wpAny_pyNext_enum_itemD (draws1 nia (A := X.A.in1) (show X.A.in1.handled = none from I.ok.hd hc)) he ⟨by omega, h1, hL⟩ hsz hei (by simp; exact ⟨hei, nea⟩) fun x' h' tk hPx a1 a2 a3 a4 a5 => ?_
  have ex : x' = u1 := by
   have hPx : its1.toArray[i]? = some x' := hPx
   rw [show its1.toArray[i]? = some u1 by simpa using hu1] at hPx
   exact (Option.some.inj hPx).symm
  rw [ex] at a1 a3
  obtain ⟨_, a2, _⟩ := a2
  have a2 : h'.IsListIter it a (i + 1) := a2
  refine ⟨_, rfl, wpAny_letOwnedTupleGo_enum (s := { s with heap := h', toks := tk + 1 }) a1 fun h'' b1 b2 => ?_⟩
  have ne : s.heap.objs.size ≠ e := Nat.ne_of_gt (Heap.lt_size he)
  have k : ∀ c o, c ∉ [e, it] -> s.heap.get? c = some o -> h''.get? c = some o := fun c o hc q => by
   simp only [List.mem_cons, List.not_mem_nil, or_false, not_or] at hc
   exact (b2.2 c hc.1).trans (a5 c o hc.1 hc.2 q)
  have hTup : h''.get? s.heap.objs.size = some { cls := .type "tuple", data := .seq #[.int ((i + 1 : Nat) : Int) tk, u1] } := (b2.2 _ ne).trans a3
  refine ⟨.ref s.heap.objs.size, upd H s.heap.objs.size (.tup [.int ((i + 1 : Nat) : Int), x]), I.turnedT (t' := tk + 1) hf (Nat.le_refl _) k ⟨by rw [sizeLine_eq]; simp, [.int ((i + 1 : Nat) : Int) tk, u1], .cons ⟨_, rfl⟩ (.cons ru1 .nil), _, hTup, rfl, _, rfl⟩, rfl,
   ⟨_, x, I.hok.fresh (Nat.le_refl _), rfl, rfl, fun xs' q => by rw [I.list_inj q hq1]; exact hx⟩, ⟨⟨u1, by simpa using b1⟩, a2.at fun o q => (b2.2 _ (Ne.symm hei)).trans q⟩, fun c hb => ?_⟩
  obtain ⟨o, q⟩ : ∃ o, s.heap.get? c = some o := by
   simp only [List.mem_cons, List.not_mem_nil, or_false] at hb
   rcases hb with rfl | rfl
   ·exact ⟨_, he⟩
   ·obtain ⟨o, q, _⟩ := h1; exact ⟨o, q⟩
  rw [upd_ne (Nat.ne_of_lt (Heap.lt_size q))]
  exact (hf c hb).1
 done := by
  intro X hP hw hK hc i pins s σ H E I hf st hg
  subst hP hw hK
  obtain ⟨xs, hq1, hx⟩ := hg
  obtain ⟨its1, rv1, p1, _⟩ := I.list hq1
  obtain ⟨⟨old, he⟩, h1⟩ := st
  have l1 := rv1.length
  have hL := p1.isList
  refine wpAny_pyNext_enum_endD (draws_end (n := i + 1) (A := X.A.in1) (items := its1.toArray) (by simp; omega) (show X.A.in1.handled = none from I.ok.hd hc)) he ⟨rfl, h1, hL⟩ fun h' k => ⟨rfl, I.turnedN (t' := s.toks) hf fun c o hc q => ?_⟩
  simp only [List.mem_cons, List.not_mem_nil, or_false, not_or] at hc
  exact k c o hc.2 q
 self := fun _ _ _ _ _ st h => by
  obtain ⟨⟨old, he⟩, _⟩ := st
  exact wpAny_pyIter_enum he h
section
variable {X : Cx} {K : Fg_} {ta : TA} {elts : List Expr} {x1 : Nat} {tpos : Pos}
def iEnum1 (K : Fg_) (ta : TA) : TI := fun σ H R => ta σ H fun vs H1 => ∃ a, vs = [.ref a] /\ (∃ xs, SqL K H1 a xs) /\ R (Ite1 K a) H1
theorem pi_enum1 {a : Expr} {p pos kpos cpos : Pos} {j : Nat} (hg : Gl X "enumerate") (hm : X.mg "enumerate" = none) (ha : PA X [a] ta) (he : backTo pos (starEach [a] X.env) = (false, eval a X.env) :: backTo pos (starEach [] X.env) := by rfl) (hpl : (backTo pos (starEach [a] X.env)).any (·.1) = false := by rfl) (hK : X.K = K := by rfl) :
  PI X (.Tuple elts x1 tpos) (.Call (.Name "enumerate" p) [a] [⟨some "start", .Constant (.int 1) j cpos, kpos⟩] pos) (iEnum1 K ta) := by
 subst hK
 intro pins s σ H R I h
 refine wpAny_Call_Name_kw (ld_blt I hg hm (show bootBuiltins "enumerate" = some (.type "enumerate") from by decide +kernel) ?_)
 refine withT_kw (thn (ha pos pins s σ H _ I h) fun us s1 ⟨vs, H1, I1, r1, l1, e, ⟨xs, hx⟩, q⟩ => ?_) he hpl rfl rfl
 have hk : PK X [⟨some "start", .Constant (.int 1) j cpos, kpos⟩] (tCons (tC (.int 1)) tNil) := pk_cons pe_int pk_nil
 refine thn (hk pos pins s1 σ H1 (fun zs H2 => zs = [.int 1] /\ H2 = H1) I1 ⟨rfl, rfl⟩) fun ws s2 ⟨zs, H2, I2, rz, ez, eH⟩ => ?_
 subst ez eH e
 obtain ⟨u, rfl, ru⟩ := vals1 r1
 cases ru
 obtain ⟨v1, rfl, rv1⟩ := vals1 rz
 obtain ⟨tk0, rfl⟩ := rv1
 obtain ⟨its1, _, p1, _⟩ := I2.list hx
 refine call_enum1 p1.isList fun h' g1 g2 g3 k => ?_
 have I3 : Inv X pins σ H2 { s2 with heap := h' } := I2.kept (t' := s2.toks) k
 refine wpAny_pyIter_enum (s := { s2 with heap := h' }) g1 ⟨_, [s2.heap.objs.size + 1, s2.heap.objs.size], _, _, H2, rfl, I3, turn_enum1 l1 _ _ (show ((s2.heap.objs.size : Nat) + 1 ≠ s2.heap.objs.size) by omega), ⟨⟨_, g1⟩, g2⟩, fun c hc => ?_, q⟩
 have hc' : s2.heap.objs.size <= c := by
  simp only [List.mem_cons, List.not_mem_nil, or_false] at hc
  have hc2 : ∃ k : Nat, c = s2.heap.objs.size + k := by
   rcases hc with rfl | rfl
   ·exact ⟨1, rfl⟩
   ·exact ⟨0, rfl⟩
  obtain ⟨k, rfl⟩ := hc2
  exact Nat.le_add_right _ k
 exact I2.fpOk hc' (I2.hok.fresh hc')
theorem ap_iEnum1 {σ : St} {H : Hp} {R : It -> Hp -> Prop} : iEnum1 K ta σ H R = ta σ H fun vs H1 => ∃ a, vs = [.ref a] /\ (∃ xs, SqL K H1 a xs) /\ R (Ite1 K a) H1 := rfl
variable {σ : St} {H : Hp} {g : TG} {tb : TS} {D : Ends} {a : Addr} {xs : List V}
theorem ForP.enum1 (Pv : Nat -> St -> Hp -> Prop) (h0 : Pv 0 σ H) (hl : ∀ i σ H, i <= xs.length -> Pv i σ H -> SqL K H a xs)
  (hs : ∀ i x σ H p, xs[i]? = some x -> Pv i σ H -> H p = none -> g (.ref p) σ (upd H p (.tup [.int ((i + 1 : Nat) : Int), x])) fun σ2 H2 => tb { D with nx := Pv (i + 1), ct := Pv (i + 1), bk := D.nx } σ2 H2) (hd : ∀ σ H, Pv xs.length σ H -> D.nx σ H) : ForP (Ite1 K a) g tb D σ H := by
 refine ⟨fun i m σ H => m = xs.length - i /\ i <= xs.length /\ Pv i σ H, ⟨xs.length, by simp, Nat.zero_le _, h0⟩, ?_⟩
 rintro i m σ H ⟨rfl, hi, p⟩
 have q1 := hl i σ H hi p
 by_cases hlt : i < xs.length
 ·refine .inr ⟨⟨xs, xs[i], q1, by simp [hlt]⟩, Pv (i + 1), fun σ' H' p' => ⟨xs.length - (i + 1), by omega, rfl, hlt, p'⟩, fun v H' y => ?_⟩
  obtain ⟨pp, x, hp, rfl, rfl, e1⟩ := y
  exact hs i x σ _ pp (e1 xs q1) p hp
 ·have e : i = xs.length := by omega
  subst e
  exact .inl ⟨⟨xs, q1, Nat.le_refl _⟩, hd σ H p⟩
end
end L2
namespace L2
open PySem PySem.W PySem.Spec PyProof.Rows
section
def GDict (K : Fg_) (w : World) (a : Addr) (kvs : List (Key × V)) : Prop :=
 (a == sysModules) = false /\ ∃ (es : List DictEntry) (ep : Nat) (vs : List (Key × Value)), K.lookup a = some ⟨.type "dict", none, .dict es.toArray ep, #[]⟩ /\ KV kvs vs /\
  (∀ P, Pairs (mixKind P w) es vs) /\ (∀ e ∈ es, ∃ k, keyIs k e.key = true /\ e.hash = keyH w k) /\ (vs.map (·.1)).Nodup
variable {X : Cx} {K : Fg_} {a : Addr} {kvs : List (Key × V)} {pins : List (Addr × Obj)} {σ : St} {H : Hp} {s : Shared}
theorem GDict.at (g : GDict X.K X.w a kvs) (I : Inv X pins σ H s) : ∃ vs, KV kvs vs /\ s.heap.DictOf (mixKind X.prog X.w) a vs := by
 obtain ⟨_, es, ep, vs, hl, hv, hp, hk, hn⟩ := g
 exact ⟨vs, hv, _, es.toArray, ep, I.kIn a _ hl, ⟨rfl, rfl, rfl⟩, rfl, fun e he => hk e (by simpa using he), by simpa using hp X.prog, hn⟩
def tGGet (K : Fg_) (w : World) (td ty : TE) : TE := fun σ H Q => td σ H fun x H1 => ty σ H1 fun y H2 => ∃ a kvs k v, x = .ref a /\ GDict K w a kvs /\ y = kV k /\ valV kvs k = some v /\ Q v H2
theorem pe_gget {w : World} {o i : Expr} {pos : Pos} {td ty : TE} (ho : PE X o td) (hi : PE X i ty) (hs : NoSl i) (hK : X.K = K := by rfl) (hw : X.w = w := by rfl) : PE X (.Subscript o i pos) (tGGet K w td ty) := by
 subst hK hw
 intro pins s σ H Q I h
 refine subD_of PySem.F.slot_dict_getitem.lookup hs (thn (ho pins s σ H _ I h) fun u s1 ⟨x, H1, I1, rx, q1⟩ => thn (hi pins s1 σ H1 _ I1 q1) fun iv s2 ⟨y, H2, I2, ry, a, kvs, k, v, ex, g, ey, l, q2⟩ => ?_)
 subst ex ey
 obtain rfl : u = Value.ref a := rx
 obtain ⟨vs, rel, dd⟩ := g.at I2
 obtain ⟨w', hw, rw'⟩ := RelO.some_of (v := v) (o := valueAt vs k) (by rw [<- l]; exact rel.val k)
 exact ⟨dd.typeIs, wpAny_getItem_of (kV_is ry) dd.mapOf hw ⟨v, H2, I2.tok _, rw', q2⟩⟩
def rInG (K : Fg_) (w : World) (neg : Bool) : R2 := fun y x H Q => ∃ a kvs k, x = .ref a /\ GDict K w a kvs /\ y = kV k /\ Q (.bl (if neg then !(valV kvs k).isSome else (valV kvs k).isSome)) H
theorem op_notInG {w : World} (hK : X.K = K := by rfl) (hw : X.w = w := by rfl) : OpR X (compareOp .NotIn) (rInG K w true) := by
 subst hK hw
 intro pins s σ H y x v u Q I ry rx h
 obtain ⟨a, kvs, k, rfl, g, rfl, q⟩ := h
 cases rx
 obtain ⟨vs, rel, dd⟩ := g.at I
 refine wpAny_notIn_of (kV_is ry) g.1 dd.mapOf ?_
 rw [<- (rel.val k).isSome_eq]
 exact ⟨.bl _, H, I.tok _, rfl, q⟩
theorem ps_tryCalm {t : TS} {body suite : List Stmt} {x : Option Expr} {n : Option Str} {hpos pos : Pos} (h : PSs X.nox body t) : PS X.nox (.Try body [.ExceptHandler x n suite hpos] [] [] pos) t := by
 intro pins s σ H D I hw
 refine wpAny_Try_except (wpAny_mono (h pins s σ H D I hw) (fun f s1 q => ?_) fun ev s' hx => hx.elim)
 cases f with
 | next => exact wpAny_execs_nil q
 | brk => exact q
 | cont => exact q
 | ret u => exact q
variable {td ty : TE} {Q : VK} {w : World}
theorem ap_gget : tGGet K w td ty σ H Q = td σ H fun x H1 => ty σ H1 fun y H2 => ∃ a kvs k v, x = .ref a /\ GDict K w a kvs /\ y = kV k /\ valV kvs k = some v /\ Q v H2 := rfl
theorem ap_inG {neg : Bool} {x y : V} : rInG K w neg y x H Q = ∃ a kvs k, x = .ref a /\ GDict K w a kvs /\ y = kV k /\ Q (.bl (if neg then !(valV kvs k).isSome else (valV kvs k).isSome)) H := rfl
end
end L2
local macro_rules | `(tactic| walk_at "capok") => `(tactic| first | exact L2.CapOk.nil | (refine L2.CapOk.own ?_; walk_at "capok") | (refine L2.CapOk.take (by with_unfolding_all rfl) (by first | exact Or.inl (by with_unfolding_all rfl) | exact Or.inr (by with_unfolding_all rfl)) (by first | exact Or.inl (by with_unfolding_all rfl) | exact Or.inr (by with_unfolding_all rfl)) (by with_unfolding_all rfl) ?_; walk_at "capok"))
local macro_rules | `(tactic| walk_at "compok") => `(tactic| (refine ⟨?c1, ?c3, ?c0, ?c4, ?c5, ?c6, ?c7⟩; (case c1 => with_unfolding_all rfl); (case c3 => walk_at "capok"); (case c0 => rfl); (case c4 => decide +kernel); (case c5 => decide +kernel); (case c6 => with_unfolding_all rfl); (case c7 => (intro _; rfl))))
local macro_rules | `(tactic| walk_at "rd") => `(tactic| simp only [L2.ap_iStr, L2.ap_fldK, L2.ap_sFld, L2.ap_methD, L2.ap_make, L2.ap_dget2, L2.ap_dput, L2.ap_dnewK, L2.ap_inD, L2.ap_leS, L2.ap_rIsC, L2.ap_ixT, L2.ap_ixS, L2.ap_slT, L2.ap_rTupOf, L2.ap_rIn, L2.ap_lenS, L2.ap_tSortK, L2.ap_rSortK, L2.ap_tSortL, L2.ap_rSortI, L2.ap_rStr, L2.ap_rJoin, L2.ap_FII, L2.ap_rSplit, L2.ap_rStarts, L2.ap_rPart, L2.ap_iEnum1, L2.ap_gget, L2.ap_inG, L2.ap_iZip, L2.ap_iEnum, L2.ap_seq, L2.ap_next, L2.ap_asg, L2.ap_name, L2.ap_var, L2.ap_c, L2.ap_op, L2.ap_un, L2.ap_rI, L2.ap_rI0, L2.ap_rU, L2.ap_rEq, L2.ap_rNe, L2.ap_ret, L2.ap_retN, L2.ap_drop, L2.ap_test, L2.ap_tB, L2.ap_and, L2.ap_or, L2.ap_not, L2.ap_andV, L2.ap_notV, L2.ap_ifE, L2.ap_call, L2.ap_nil, L2.ap_cons, L2.ap_cb, L2.ap_lst, L2.ap_tup, L2.ap_chain, L2.ap_sl, L2.ap_noPart, L2.ap_part, L2.ap_gNil, L2.ap_gCons, L2.ap_gLst, L2.ap_gTup, L2.ap_bm, L2.ap_bm0, L2.ap_ixL, L2.ap_slL, L2.ap_rLen, L2.ap_rSum, L2.ap_rAll, L2.ap_rListOf, L2.ap_rIsT, L2.ap_append, L2.ap_rCat, L2.ap_for, L2.ap_iList, L2.ap_iTup, L2.ap_iRng1, L2.ap_comp, L2.ap_noIf, L2.ap_rMax, L2.ap_rMin, L2.scal_int, L2.scal_str, L2.scal_bl, L2.start_eq, List.map_cons, List.map_nil, List.length_cons, List.length_nil, List.cons_append, List.nil_append, List.append_nil, List.replicate_succ, List.replicate_zero, Nat.reduceAdd, Nat.reduceSub, Nat.sub_self, List.set_cons_zero, List.set_cons_succ, List.getElem?_cons_zero, List.getElem?_cons_succ, Option.some.injEq, L2.V.int.injEq, L2.V.bl.injEq, L2.V.str.injEq, L2.V.ref.injEq, L2.V.ty.injEq, List.cons.injEq, exists_eq_left', exists_eq_left, exists_and_left, exists_eq', exists_eq, true_and, and_true, and_assoc, exists_const, Bool.not_true, Bool.not_false, if_true, if_false, Bool.false_eq_true, decide_true, decide_false, reduceCtorEq, Bool.not_eq_true', decide_eq_true_eq, decide_eq_false_iff_not])
local macro_rules | `(tactic| walk_at "rdi") => `(tactic| simp only [L2.ap_iStr, L2.ap_fldK, L2.ap_sFld, L2.ap_methD, L2.ap_make, L2.ap_dget2, L2.ap_dput, L2.ap_dnewK, L2.ap_inD, L2.ap_leS, L2.ap_rIsC, L2.ap_ixT, L2.ap_ixS, L2.ap_slT, L2.ap_rTupOf, L2.ap_rIn, L2.ap_lenS, L2.ap_tSortK, L2.ap_rSortK, L2.ap_tSortL, L2.ap_rSortI, L2.ap_rStr, L2.ap_rJoin, L2.ap_FII, L2.ap_rSplit, L2.ap_rStarts, L2.ap_rPart, L2.ap_iEnum1, L2.ap_gget, L2.ap_inG, L2.ap_iZip, L2.ap_iEnum, L2.ap_next, L2.ap_asg, L2.ap_name, L2.ap_var, L2.ap_c, L2.ap_op, L2.ap_un, L2.ap_rI, L2.ap_rI0, L2.ap_rU, L2.ap_rEq, L2.ap_rNe, L2.ap_ret, L2.ap_retN, L2.ap_drop, L2.ap_if, L2.ap_test, L2.ap_tB, L2.ap_and, L2.ap_or, L2.ap_not, L2.ap_andV, L2.ap_notV, L2.ap_ifE, L2.ap_call, L2.ap_nil, L2.ap_cons, L2.ap_cb, L2.ap_lst, L2.ap_tup, L2.ap_chain, L2.ap_sl, L2.ap_noPart, L2.ap_part, L2.ap_gNil, L2.ap_gCons, L2.ap_gLst, L2.ap_gTup, L2.ap_bm, L2.ap_bm0, L2.ap_ixL, L2.ap_slL, L2.ap_rLen, L2.ap_rSum, L2.ap_rAll, L2.ap_rListOf, L2.ap_rIsT, L2.ap_append, L2.ap_rCat, L2.ap_comp, L2.ap_iList, L2.ap_iTup, L2.ap_iRng1, L2.ap_noIf, L2.ap_rMax, L2.ap_rMin, L2.scal_int, L2.scal_str, L2.scal_bl, L2.start_eq, List.map_cons, List.map_nil, List.length_cons, List.length_nil, List.cons_append, List.nil_append, List.append_nil, List.replicate_succ, List.replicate_zero, Nat.reduceAdd, Nat.reduceSub, Nat.sub_self, List.set_cons_zero, List.set_cons_succ, List.getElem?_cons_zero, List.getElem?_cons_succ, Option.some.injEq, L2.V.int.injEq, L2.V.bl.injEq, L2.V.str.injEq, L2.V.ref.injEq, L2.V.ty.injEq, List.cons.injEq, exists_eq_left', exists_eq_left, exists_and_left, exists_eq', exists_eq, true_and, and_true, and_assoc, exists_const, Bool.not_true, Bool.not_false, if_true, if_false, Bool.false_eq_true, decide_true, decide_false, reduceCtorEq, Bool.not_eq_true', decide_eq_true_eq, decide_eq_false_iff_not])
local macro_rules | `(tactic| walk_at "rda") => `(tactic| simp only [L2.ap_iStr, L2.ap_fldK, L2.ap_sFld, L2.ap_methD, L2.ap_make, L2.ap_dget2, L2.ap_dput, L2.ap_dnewK, L2.ap_inD, L2.ap_leS, L2.ap_rIsC, L2.ap_ixT, L2.ap_ixS, L2.ap_slT, L2.ap_rTupOf, L2.ap_rIn, L2.ap_lenS, L2.ap_tSortK, L2.ap_rSortK, L2.ap_tSortL, L2.ap_rSortI, L2.ap_rStr, L2.ap_rJoin, L2.ap_FII, L2.ap_rSplit, L2.ap_rStarts, L2.ap_rPart, L2.ap_iEnum1, L2.ap_gget, L2.ap_inG, L2.ap_iZip, L2.ap_iEnum, L2.ap_seq, L2.ap_next, L2.ap_asg, L2.ap_name, L2.ap_var, L2.ap_c, L2.ap_op, L2.ap_un, L2.ap_rI, L2.ap_rI0, L2.ap_rU, L2.ap_rEq, L2.ap_rNe, L2.ap_ret, L2.ap_retN, L2.ap_drop, L2.ap_if, L2.ap_test, L2.ap_tB, L2.ap_and, L2.ap_or, L2.ap_not, L2.ap_andV, L2.ap_notV, L2.ap_ifE, L2.ap_call, L2.ap_nil, L2.ap_cons, L2.ap_cb, L2.ap_lst, L2.ap_tup, L2.ap_chain, L2.ap_sl, L2.ap_noPart, L2.ap_part, L2.ap_gNil, L2.ap_gCons, L2.ap_gLst, L2.ap_gTup, L2.ap_bm, L2.ap_bm0, L2.ap_ixL, L2.ap_slL, L2.ap_rLen, L2.ap_rSum, L2.ap_rAll, L2.ap_rListOf, L2.ap_rIsT, L2.ap_append, L2.ap_rCat, L2.ap_for, L2.ap_iList, L2.ap_iTup, L2.ap_iRng1, L2.ap_comp, L2.ap_noIf, L2.ap_rMax, L2.ap_rMin, L2.scal_int, L2.scal_str, L2.scal_bl, L2.start_eq, List.map_cons, List.map_nil, List.length_cons, List.length_nil, List.cons_append, List.nil_append, List.append_nil, List.replicate_succ, List.replicate_zero, Nat.reduceAdd, Nat.reduceSub, Nat.sub_self, List.set_cons_zero, List.set_cons_succ, List.getElem?_cons_zero, List.getElem?_cons_succ, Option.some.injEq, L2.V.int.injEq, L2.V.bl.injEq, L2.V.str.injEq, L2.V.ref.injEq, L2.V.ty.injEq, List.cons.injEq, exists_eq_left', exists_eq_left, exists_and_left, exists_eq', exists_eq, true_and, and_true, and_assoc, exists_const, Bool.not_true, Bool.not_false, if_true, if_false, Bool.false_eq_true, decide_true, decide_false, reduceCtorEq, Bool.not_eq_true', decide_eq_true_eq, decide_eq_false_iff_not])
local macro_rules | `(tactic| walk_at "mono") => `(tactic| first | (with_reducible exact L2.mn_var) | (with_reducible exact L2.mn_c) | ((with_reducible refine L2.mn_op ?_ ?_ ?_) <;> walk_at "mono") | ((with_reducible refine L2.mn_un ?_ ?_) <;> walk_at "mono") | (with_reducible exact L2.mn_rI) | (with_reducible exact L2.mn_rI0) | (with_reducible exact L2.mn_rU) | (with_reducible exact L2.mn_rEq) | (with_reducible exact L2.mn_rNe) | (with_reducible exact L2.mn_rEqD) | (with_reducible exact L2.mn_rNeD) | (with_reducible exact L2.mn_ixL) | (with_reducible exact L2.mn_ixT) | (with_reducible exact L2.mn_in) | (with_reducible exact L2.mn_isN) | (with_reducible exact L2.mn_notN) | (with_reducible exact L2.mn_cat) | ((with_reducible refine L2.mn_test ?_) <;> walk_at "mono") | ((with_reducible refine L2.mn_tB ?_) <;> walk_at "mono") | ((with_reducible refine L2.mn_not ?_) <;> walk_at "mono") | ((with_reducible refine L2.mn_and ?_ ?_) <;> walk_at "mono") | ((with_reducible refine L2.mn_or ?_ ?_) <;> walk_at "mono") | (with_reducible exact L2.mn_nil) | ((with_reducible refine L2.mn_cons ?_ ?_) <;> walk_at "mono") | ((with_reducible refine L2.mn_cb ?_ ?_) <;> walk_at "mono") | ((with_reducible refine L2.mn_call ?_ ?_) <;> walk_at "mono") | ((with_reducible refine L2.mn_lst ?_) <;> walk_at "mono") | ((with_reducible refine L2.mn_tup ?_) <;> walk_at "mono") | (with_reducible exact L2.mn_len) | (with_reducible exact L2.mn_sum) | (with_reducible exact L2.mn_any) | (with_reducible exact L2.mn_all) | (with_reducible exact L2.mn_max) | (with_reducible exact L2.mn_min) | (with_reducible exact L2.mn_listOf) | (with_reducible exact L2.mn_isT) | (with_reducible exact L2.mn_isC) | (with_reducible exact L2.mn_noPart) | ((with_reducible refine L2.mn_part ?_) <;> walk_at "mono") | ((with_reducible refine L2.mn_sl ?_ ?_ ?_ ?_) <;> walk_at "mono") | (with_reducible exact L2.mn_slL) | ((with_reducible refine L2.mn_bm ?_ ?_ ?_) <;> walk_at "mono") | ((with_reducible refine L2.mn_bm0 ?_ ?_) <;> walk_at "mono") | (with_reducible exact L2.mn_append) | ((with_reducible refine L2.mn_chain ?_ ?_ ?_ ?_ ?_) <;> walk_at "mono") | ((with_reducible refine L2.mn_andV ?_ ?_) <;> walk_at "mono") | ((with_reducible refine L2.mn_orV ?_ ?_) <;> walk_at "mono") | ((with_reducible refine L2.mn_notV ?_) <;> walk_at "mono") | ((with_reducible refine L2.mn_ifE ?_ ?_ ?_) <;> walk_at "mono") | (with_reducible exact L2.mn_name) | (with_reducible exact L2.mn_gNil) | ((with_reducible refine L2.mn_gCons ?_ ?_) <;> walk_at "mono") | ((with_reducible refine L2.mn_gLst ?_) <;> walk_at "mono") | ((with_reducible refine L2.mn_gTup ?_) <;> walk_at "mono") | (with_reducible exact L2.mn_next) | (with_reducible exact L2.mn_nxE) | (with_reducible exact L2.mn_never) | (with_reducible exact L2.mn_break) | (with_reducible exact L2.mn_cont) | ((with_reducible refine L2.mn_ret ?_) <;> walk_at "mono") | (with_reducible exact L2.mn_retN) | ((with_reducible refine L2.mn_drop ?_) <;> walk_at "mono") | ((with_reducible refine L2.mn_asg ?_ ?_) <;> walk_at "mono") | ((with_reducible refine L2.mn_seq ?_ ?_) <;> walk_at "mono") | ((with_reducible refine L2.mn_if ?_ ?_ ?_) <;> walk_at "mono") | assumption)
local macro_rules | `(tactic| walk_at "mono") => `(tactic| first | (with_reducible exact L2.mn_rEqR) | (with_reducible exact L2.mn_rNeR) | ((with_reducible refine L2.mn_comp ?_) <;> walk_at "mono") | ((with_reducible refine L2.mn_iList ?_) <;> walk_at "mono") | ((with_reducible refine L2.mn_dput ?_ ?_ ?_) <;> walk_at "mono"))
namespace My
open PySem L2 PyProof.Rows
def top (i : Nat) : Stmt := PySem.Challenge.pw_lotledger_k81_entries_read.main.body.getD i (.Pass ⟨0, 0, 0, 0⟩)
abbrev s__law_turned : Stmt := top 64
abbrev s__law_text : Stmt := top 63
abbrev s_kind_of_words : Stmt := top 47
abbrev s_is_whole_number : Stmt := top 24
abbrev s_check_number : Stmt := top 25
abbrev s_is_name : Stmt := top 27
abbrev s_check_name : Stmt := top 26
abbrev s_Entry___init__ : Stmt := inClass (top 16) 0
abbrev s_Parting___init__ : Stmt := inClass (top 22) 0
abbrev s_check_trade : Stmt := top 28
abbrev s_Buy___init__ : Stmt := inClass (top 17) 0
abbrev s_check_named : Stmt := top 29
abbrev s_named_copy : Stmt := top 30
abbrev s_Sell___init__ : Stmt := inClass (top 18) 0
abbrev s_Gift___init__ : Stmt := inClass (top 19) 0
abbrev s_Give___init__ : Stmt := inClass (top 20) 0
abbrev s_Split___init__ : Stmt := inClass (top 21) 0
abbrev s_entry_that_tells : Stmt := top 23
abbrev s_is_written_number : Stmt := top 51
abbrev s_value_of_word : Stmt := top 50
abbrev s_lot_of_word : Stmt := top 49
abbrev s_named_of_words : Stmt := top 48
abbrev s_entry_of_words : Stmt := top 46
abbrev s_entry_in_row : Stmt := top 45
abbrev s_read_entries : Stmt := top 44
abbrev s__law_digits : Stmt := top 54
abbrev s__law_cell_at : Stmt := top 53
abbrev s__law_wares : Stmt := top 57
abbrev s__law_entry : Stmt := top 58
abbrev s__law_mixed : Stmt := top 55
abbrev s__law_cells : Stmt := top 56
abbrev s__law_with_named : Stmt := top 61
abbrev s__law_any : Stmt := top 62
abbrev s_row_of_words : Stmt := top 41
abbrev s_Buy_word : Stmt := inClass (top 17) 1
abbrev s_Buy_told : Stmt := inClass (top 17) 2
abbrev s_named_told : Stmt := top 31
abbrev s_Sell_word : Stmt := inClass (top 18) 1
abbrev s_Sell_told : Stmt := inClass (top 18) 2
abbrev s_Gift_word : Stmt := inClass (top 19) 1
abbrev s_Gift_told : Stmt := inClass (top 19) 2
abbrev s_Give_word : Stmt := inClass (top 20) 1
abbrev s_Give_told : Stmt := inClass (top 20) 2
abbrev s_Split_word : Stmt := inClass (top 21) 1
abbrev s_Split_told : Stmt := inClass (top 21) 2
abbrev s_Parting_word : Stmt := inClass (top 22) 1
abbrev s_Parting_told : Stmt := inClass (top 22) 2
abbrev s_words_of_named : Stmt := top 43
abbrev s_words_of_entry : Stmt := top 42
abbrev s_refuse_twice : Stmt := top 35
abbrev s_place_of : Stmt := top 34
abbrev s_in_order : Stmt := top 33
abbrev s_shown_entries : Stmt := top 40
abbrev s__law_kind : Stmt := top 65
abbrev s_law : Stmt := top 66
structure Adr where
 _law_turned : Addr
 _law_text : Addr
 kind_of_words : Addr
 is_whole_number : Addr
 check_number : Addr
 is_name : Addr
 check_name : Addr
 Entry___init__ : Addr
 Parting___init__ : Addr
 check_trade : Addr
 Buy___init__ : Addr
 check_named : Addr
 named_copy : Addr
 Sell___init__ : Addr
 Gift___init__ : Addr
 Give___init__ : Addr
 Split___init__ : Addr
 entry_that_tells : Addr
 is_written_number : Addr
 value_of_word : Addr
 lot_of_word : Addr
 named_of_words : Addr
 entry_of_words : Addr
 entry_in_row : Addr
 read_entries : Addr
 _law_digits : Addr
 _law_cell_at : Addr
 _law_wares : Addr
 _law_entry : Addr
 _law_mixed : Addr
 _law_cells : Addr
 _law_with_named : Addr
 _law_any : Addr
 row_of_words : Addr
 Buy_word : Addr
 Buy_told : Addr
 named_told : Addr
 Sell_word : Addr
 Sell_told : Addr
 Gift_word : Addr
 Gift_told : Addr
 Give_word : Addr
 Give_told : Addr
 Split_word : Addr
 Split_told : Addr
 Parting_word : Addr
 Parting_told : Addr
 words_of_named : Addr
 words_of_entry : Addr
 refuse_twice : Addr
 place_of : Addr
 in_order : Addr
 shown_entries : Addr
 _law_kind : Addr
 law : Addr
 C_Entry : Addr
 C_Parting : Addr
 C_Buy : Addr
 C_Sell : Addr
 C_Gift : Addr
 C_Give : Addr
 C_Split : Addr
 C_NoEntry : Addr
 t_MOST_LETTERS : Tok
 t_MOST_DAY : Tok
 t_MOST_NUMBER : Tok
 t_MOST_WHOLE : Tok
 t_MOST_PIECES : Tok
 t_MOST_PRICE : Tok
 t_MOST_FEE : Tok
 t_MOST_GIFT_COST : Tok
 t_MOST_SPLIT : Tok
 t_MOST_FIGURES : Tok
 v_KINDS_THAT_NAME_LOTS : Addr
 v_PLAIN_WORDS : Addr
 cT : Addr
 PT : Addr
structure Fds where
 _law_turned : FuncData
 _law_text : FuncData
 kind_of_words : FuncData
 is_whole_number : FuncData
 check_number : FuncData
 is_name : FuncData
 check_name : FuncData
 Entry___init__ : FuncData
 Parting___init__ : FuncData
 check_trade : FuncData
 Buy___init__ : FuncData
 check_named : FuncData
 named_copy : FuncData
 Sell___init__ : FuncData
 Gift___init__ : FuncData
 Give___init__ : FuncData
 Split___init__ : FuncData
 entry_that_tells : FuncData
 is_written_number : FuncData
 value_of_word : FuncData
 lot_of_word : FuncData
 named_of_words : FuncData
 entry_of_words : FuncData
 entry_in_row : FuncData
 read_entries : FuncData
 _law_digits : FuncData
 _law_cell_at : FuncData
 _law_wares : FuncData
 _law_entry : FuncData
 _law_mixed : FuncData
 _law_cells : FuncData
 _law_with_named : FuncData
 _law_any : FuncData
 row_of_words : FuncData
 Buy_word : FuncData
 Buy_told : FuncData
 named_told : FuncData
 Sell_word : FuncData
 Sell_told : FuncData
 Gift_word : FuncData
 Gift_told : FuncData
 Give_word : FuncData
 Give_told : FuncData
 Split_word : FuncData
 Split_told : FuncData
 Parting_word : FuncData
 Parting_told : FuncData
 words_of_named : FuncData
 words_of_entry : FuncData
 refuse_twice : FuncData
 place_of : FuncData
 in_order : FuncData
 shown_entries : FuncData
 _law_kind : FuncData
 law : FuncData
structure Txt (w : World) (K : Fg_) (mg : Str -> Option Value) (A : Adr) (D : Fds) : Prop where
 m__law_turned : mg "_law_turned" = some (.ref A._law_turned)
 k__law_turned : PySem.W.keepIn K (.ref A._law_turned) = true
 F__law_turned : Fun K "_law_turned" "_law_turned" s__law_turned A._law_turned D._law_turned
 m__law_text : mg "_law_text" = some (.ref A._law_text)
 k__law_text : PySem.W.keepIn K (.ref A._law_text) = true
 F__law_text : Fun K "_law_text" "_law_text" s__law_text A._law_text D._law_text
 m_kind_of_words : mg "kind_of_words" = some (.ref A.kind_of_words)
 k_kind_of_words : PySem.W.keepIn K (.ref A.kind_of_words) = true
 F_kind_of_words : Fun K "kind_of_words" "kind_of_words" s_kind_of_words A.kind_of_words D.kind_of_words
 m_is_whole_number : mg "is_whole_number" = some (.ref A.is_whole_number)
 k_is_whole_number : PySem.W.keepIn K (.ref A.is_whole_number) = true
 F_is_whole_number : Fun K "is_whole_number" "is_whole_number" s_is_whole_number A.is_whole_number D.is_whole_number
 m_check_number : mg "check_number" = some (.ref A.check_number)
 k_check_number : PySem.W.keepIn K (.ref A.check_number) = true
 F_check_number : Fun K "check_number" "check_number" s_check_number A.check_number D.check_number
 m_is_name : mg "is_name" = some (.ref A.is_name)
 k_is_name : PySem.W.keepIn K (.ref A.is_name) = true
 F_is_name : Fun K "is_name" "is_name" s_is_name A.is_name D.is_name
 m_check_name : mg "check_name" = some (.ref A.check_name)
 k_check_name : PySem.W.keepIn K (.ref A.check_name) = true
 F_check_name : Fun K "check_name" "check_name" s_check_name A.check_name D.check_name
 F_Entry___init__ : Fun K "__init__" "Entry.__init__" s_Entry___init__ A.Entry___init__ D.Entry___init__
 F_Parting___init__ : Fun K "__init__" "Parting.__init__" s_Parting___init__ A.Parting___init__ D.Parting___init__
 m_check_trade : mg "check_trade" = some (.ref A.check_trade)
 k_check_trade : PySem.W.keepIn K (.ref A.check_trade) = true
 F_check_trade : Fun K "check_trade" "check_trade" s_check_trade A.check_trade D.check_trade
 F_Buy___init__ : FunD K "__init__" "Buy.__init__" s_Buy___init__ A.Buy___init__ D.Buy___init__ [V.int 0]
 m_check_named : mg "check_named" = some (.ref A.check_named)
 k_check_named : PySem.W.keepIn K (.ref A.check_named) = true
 F_check_named : Fun K "check_named" "check_named" s_check_named A.check_named D.check_named
 m_named_copy : mg "named_copy" = some (.ref A.named_copy)
 k_named_copy : PySem.W.keepIn K (.ref A.named_copy) = true
 F_named_copy : Fun K "named_copy" "named_copy" s_named_copy A.named_copy D.named_copy
 F_Sell___init__ : FunD K "__init__" "Sell.__init__" s_Sell___init__ A.Sell___init__ D.Sell___init__ [V.int 0, V.non]
 F_Gift___init__ : Fun K "__init__" "Gift.__init__" s_Gift___init__ A.Gift___init__ D.Gift___init__
 F_Give___init__ : FunD K "__init__" "Give.__init__" s_Give___init__ A.Give___init__ D.Give___init__ [V.non]
 F_Split___init__ : Fun K "__init__" "Split.__init__" s_Split___init__ A.Split___init__ D.Split___init__
 m_entry_that_tells : mg "entry_that_tells" = some (.ref A.entry_that_tells)
 k_entry_that_tells : PySem.W.keepIn K (.ref A.entry_that_tells) = true
 F_entry_that_tells : Fun K "entry_that_tells" "entry_that_tells" s_entry_that_tells A.entry_that_tells D.entry_that_tells
 m_is_written_number : mg "is_written_number" = some (.ref A.is_written_number)
 k_is_written_number : PySem.W.keepIn K (.ref A.is_written_number) = true
 F_is_written_number : Fun K "is_written_number" "is_written_number" s_is_written_number A.is_written_number D.is_written_number
 m_value_of_word : mg "value_of_word" = some (.ref A.value_of_word)
 k_value_of_word : PySem.W.keepIn K (.ref A.value_of_word) = true
 F_value_of_word : Fun K "value_of_word" "value_of_word" s_value_of_word A.value_of_word D.value_of_word
 m_lot_of_word : mg "lot_of_word" = some (.ref A.lot_of_word)
 k_lot_of_word : PySem.W.keepIn K (.ref A.lot_of_word) = true
 F_lot_of_word : Fun K "lot_of_word" "lot_of_word" s_lot_of_word A.lot_of_word D.lot_of_word
 m_named_of_words : mg "named_of_words" = some (.ref A.named_of_words)
 k_named_of_words : PySem.W.keepIn K (.ref A.named_of_words) = true
 F_named_of_words : Fun K "named_of_words" "named_of_words" s_named_of_words A.named_of_words D.named_of_words
 m_entry_of_words : mg "entry_of_words" = some (.ref A.entry_of_words)
 k_entry_of_words : PySem.W.keepIn K (.ref A.entry_of_words) = true
 F_entry_of_words : Fun K "entry_of_words" "entry_of_words" s_entry_of_words A.entry_of_words D.entry_of_words
 m_entry_in_row : mg "entry_in_row" = some (.ref A.entry_in_row)
 k_entry_in_row : PySem.W.keepIn K (.ref A.entry_in_row) = true
 F_entry_in_row : Fun K "entry_in_row" "entry_in_row" s_entry_in_row A.entry_in_row D.entry_in_row
 m_read_entries : mg "read_entries" = some (.ref A.read_entries)
 k_read_entries : PySem.W.keepIn K (.ref A.read_entries) = true
 F_read_entries : Fun K "read_entries" "read_entries" s_read_entries A.read_entries D.read_entries
 m__law_digits : mg "_law_digits" = some (.ref A._law_digits)
 k__law_digits : PySem.W.keepIn K (.ref A._law_digits) = true
 F__law_digits : Fun K "_law_digits" "_law_digits" s__law_digits A._law_digits D._law_digits
 m__law_cell_at : mg "_law_cell_at" = some (.ref A._law_cell_at)
 k__law_cell_at : PySem.W.keepIn K (.ref A._law_cell_at) = true
 F__law_cell_at : Fun K "_law_cell_at" "_law_cell_at" s__law_cell_at A._law_cell_at D._law_cell_at
 m__law_wares : mg "_law_wares" = some (.ref A._law_wares)
 k__law_wares : PySem.W.keepIn K (.ref A._law_wares) = true
 F__law_wares : Fun K "_law_wares" "_law_wares" s__law_wares A._law_wares D._law_wares
 m__law_entry : mg "_law_entry" = some (.ref A._law_entry)
 k__law_entry : PySem.W.keepIn K (.ref A._law_entry) = true
 F__law_entry : Fun K "_law_entry" "_law_entry" s__law_entry A._law_entry D._law_entry
 m__law_mixed : mg "_law_mixed" = some (.ref A._law_mixed)
 k__law_mixed : PySem.W.keepIn K (.ref A._law_mixed) = true
 F__law_mixed : Fun K "_law_mixed" "_law_mixed" s__law_mixed A._law_mixed D._law_mixed
 m__law_cells : mg "_law_cells" = some (.ref A._law_cells)
 k__law_cells : PySem.W.keepIn K (.ref A._law_cells) = true
 F__law_cells : Fun K "_law_cells" "_law_cells" s__law_cells A._law_cells D._law_cells
 m__law_with_named : mg "_law_with_named" = some (.ref A._law_with_named)
 k__law_with_named : PySem.W.keepIn K (.ref A._law_with_named) = true
 F__law_with_named : Fun K "_law_with_named" "_law_with_named" s__law_with_named A._law_with_named D._law_with_named
 m__law_any : mg "_law_any" = some (.ref A._law_any)
 k__law_any : PySem.W.keepIn K (.ref A._law_any) = true
 F__law_any : Fun K "_law_any" "_law_any" s__law_any A._law_any D._law_any
 m_row_of_words : mg "row_of_words" = some (.ref A.row_of_words)
 k_row_of_words : PySem.W.keepIn K (.ref A.row_of_words) = true
 F_row_of_words : Fun K "row_of_words" "row_of_words" s_row_of_words A.row_of_words D.row_of_words
 F_Buy_word : Fun K "word" "Buy.word" s_Buy_word A.Buy_word D.Buy_word
 F_Buy_told : Fun K "told" "Buy.told" s_Buy_told A.Buy_told D.Buy_told
 m_named_told : mg "named_told" = some (.ref A.named_told)
 k_named_told : PySem.W.keepIn K (.ref A.named_told) = true
 F_named_told : Fun K "named_told" "named_told" s_named_told A.named_told D.named_told
 F_Sell_word : Fun K "word" "Sell.word" s_Sell_word A.Sell_word D.Sell_word
 F_Sell_told : Fun K "told" "Sell.told" s_Sell_told A.Sell_told D.Sell_told
 F_Gift_word : Fun K "word" "Gift.word" s_Gift_word A.Gift_word D.Gift_word
 F_Gift_told : Fun K "told" "Gift.told" s_Gift_told A.Gift_told D.Gift_told
 F_Give_word : Fun K "word" "Give.word" s_Give_word A.Give_word D.Give_word
 F_Give_told : Fun K "told" "Give.told" s_Give_told A.Give_told D.Give_told
 F_Split_word : Fun K "word" "Split.word" s_Split_word A.Split_word D.Split_word
 F_Split_told : Fun K "told" "Split.told" s_Split_told A.Split_told D.Split_told
 F_Parting_word : Fun K "word" "Parting.word" s_Parting_word A.Parting_word D.Parting_word
 F_Parting_told : Fun K "told" "Parting.told" s_Parting_told A.Parting_told D.Parting_told
 m_words_of_named : mg "words_of_named" = some (.ref A.words_of_named)
 k_words_of_named : PySem.W.keepIn K (.ref A.words_of_named) = true
 F_words_of_named : Fun K "words_of_named" "words_of_named" s_words_of_named A.words_of_named D.words_of_named
 m_words_of_entry : mg "words_of_entry" = some (.ref A.words_of_entry)
 k_words_of_entry : PySem.W.keepIn K (.ref A.words_of_entry) = true
 F_words_of_entry : Fun K "words_of_entry" "words_of_entry" s_words_of_entry A.words_of_entry D.words_of_entry
 m_refuse_twice : mg "refuse_twice" = some (.ref A.refuse_twice)
 k_refuse_twice : PySem.W.keepIn K (.ref A.refuse_twice) = true
 F_refuse_twice : Fun K "refuse_twice" "refuse_twice" s_refuse_twice A.refuse_twice D.refuse_twice
 m_place_of : mg "place_of" = some (.ref A.place_of)
 k_place_of : PySem.W.keepIn K (.ref A.place_of) = true
 F_place_of : Fun K "place_of" "place_of" s_place_of A.place_of D.place_of
 m_in_order : mg "in_order" = some (.ref A.in_order)
 k_in_order : PySem.W.keepIn K (.ref A.in_order) = true
 F_in_order : Fun K "in_order" "in_order" s_in_order A.in_order D.in_order
 m_shown_entries : mg "shown_entries" = some (.ref A.shown_entries)
 k_shown_entries : PySem.W.keepIn K (.ref A.shown_entries) = true
 F_shown_entries : Fun K "shown_entries" "shown_entries" s_shown_entries A.shown_entries D.shown_entries
 m__law_kind : mg "_law_kind" = some (.ref A._law_kind)
 k__law_kind : PySem.W.keepIn K (.ref A._law_kind) = true
 F__law_kind : Fun K "_law_kind" "_law_kind" s__law_kind A._law_kind D._law_kind
 m_law : mg "law" = some (.ref A.law)
 k_law : PySem.W.keepIn K (.ref A.law) = true
 F_law : Fun K "law" "law" s_law A.law D.law
 b_range : mg "range" = none
 b_len : mg "len" = none
 b_list : mg "list" = none
 b_str : mg "str" = none
 b_isinstance : mg "isinstance" = none
 b_int : mg "int" = none
 b_bool : mg "bool" = none
 b_all : mg "all" = none
 b_sum : mg "sum" = none
 b_enumerate : mg "enumerate" = none
 b_min : mg "min" = none
 b_max : mg "max" = none
 b_tuple : mg "tuple" = none
 b_sorted : mg "sorted" = none
 b_zip : mg "zip" = none
 m_Entry : mg "Entry" = some (.ref A.C_Entry)
 m_Parting : mg "Parting" = some (.ref A.C_Parting)
 m_Buy : mg "Buy" = some (.ref A.C_Buy)
 m_Sell : mg "Sell" = some (.ref A.C_Sell)
 m_Gift : mg "Gift" = some (.ref A.C_Gift)
 m_Give : mg "Give" = some (.ref A.C_Give)
 m_Split : mg "Split" = some (.ref A.C_Split)
 m_NoEntry : mg "NoEntry" = some (.ref A.C_NoEntry)
 g_MOST_LETTERS : mg "MOST_LETTERS" = some (.int 8 A.t_MOST_LETTERS)
 g_MOST_DAY : mg "MOST_DAY" = some (.int 1000000 A.t_MOST_DAY)
 g_MOST_NUMBER : mg "MOST_NUMBER" = some (.int 1000000 A.t_MOST_NUMBER)
 g_MOST_WHOLE : mg "MOST_WHOLE" = some (.int 1000000 A.t_MOST_WHOLE)
 g_MOST_PIECES : mg "MOST_PIECES" = some (.int 1000000000 A.t_MOST_PIECES)
 g_MOST_PRICE : mg "MOST_PRICE" = some (.int 1000000000 A.t_MOST_PRICE)
 g_MOST_FEE : mg "MOST_FEE" = some (.int 1000000000 A.t_MOST_FEE)
 g_MOST_GIFT_COST : mg "MOST_GIFT_COST" = some (.int 1000000000000000000 A.t_MOST_GIFT_COST)
 g_MOST_SPLIT : mg "MOST_SPLIT" = some (.int 1000 A.t_MOST_SPLIT)
 g_MOST_FIGURES : mg "MOST_FIGURES" = some (.int 19 A.t_MOST_FIGURES)
 gt_KINDS_THAT_NAME_LOTS : mg "KINDS_THAT_NAME_LOTS" = some (.ref A.v_KINDS_THAT_NAME_LOTS)
 st_KINDS_THAT_NAME_LOTS : ∀ H : Hp, SqT K H A.v_KINDS_THAT_NAME_LOTS [V.str "sell", V.str "give"]
 gg_PLAIN_WORDS : mg "PLAIN_WORDS" = some (.ref A.v_PLAIN_WORDS)
 gd_PLAIN_WORDS : GDict K w A.v_PLAIN_WORDS [(Sum.inr "buy", V.int 7), (Sum.inr "sell", V.int 7), (Sum.inr "gift", V.int 7), (Sum.inr "give", V.int 5), (Sum.inr "split", V.int 6), (Sum.inr "part", V.int 7)]
 x_NoEntry : XCls K A.C_NoEntry
 y_NoEntry : XAsk K A.C_NoEntry
 cl_Entry : Cls K A.C_Entry
 ty_Entry : InsTy K A.C_Entry
 n_Entry_day : NoAttr K A.C_Entry "day"
 n_Entry_number : NoAttr K A.C_Entry "number"
 n_Entry_ware : NoAttr K A.C_Entry "ware"
 cl_Parting : Cls K A.C_Parting
 ty_Parting : InsTy K A.C_Parting
 n_Parting_day : NoAttr K A.C_Parting "day"
 n_Parting_number : NoAttr K A.C_Parting "number"
 n_Parting_ware : NoAttr K A.C_Parting "ware"
 n_Parting_other : NoAttr K A.C_Parting "other"
 n_Parting_share : NoAttr K A.C_Parting "share"
 n_Parting_whole : NoAttr K A.C_Parting "whole"
 cl_Buy : Cls K A.C_Buy
 ty_Buy : InsTy K A.C_Buy
 n_Buy_day : NoAttr K A.C_Buy "day"
 n_Buy_number : NoAttr K A.C_Buy "number"
 n_Buy_ware : NoAttr K A.C_Buy "ware"
 n_Buy_pieces : NoAttr K A.C_Buy "pieces"
 n_Buy_price : NoAttr K A.C_Buy "price"
 n_Buy_fee : NoAttr K A.C_Buy "fee"
 n_Buy_cost : NoAttr K A.C_Buy "cost"
 cl_Sell : Cls K A.C_Sell
 ty_Sell : InsTy K A.C_Sell
 n_Sell_day : NoAttr K A.C_Sell "day"
 n_Sell_number : NoAttr K A.C_Sell "number"
 n_Sell_ware : NoAttr K A.C_Sell "ware"
 n_Sell_pieces : NoAttr K A.C_Sell "pieces"
 n_Sell_price : NoAttr K A.C_Sell "price"
 n_Sell_fee : NoAttr K A.C_Sell "fee"
 n_Sell_named : NoAttr K A.C_Sell "named"
 n_Sell_proceeds : NoAttr K A.C_Sell "proceeds"
 cl_Gift : Cls K A.C_Gift
 ty_Gift : InsTy K A.C_Gift
 n_Gift_day : NoAttr K A.C_Gift "day"
 n_Gift_number : NoAttr K A.C_Gift "number"
 n_Gift_ware : NoAttr K A.C_Gift "ware"
 n_Gift_pieces : NoAttr K A.C_Gift "pieces"
 n_Gift_cost : NoAttr K A.C_Gift "cost"
 n_Gift_since : NoAttr K A.C_Gift "since"
 cl_Give : Cls K A.C_Give
 ty_Give : InsTy K A.C_Give
 n_Give_day : NoAttr K A.C_Give "day"
 n_Give_number : NoAttr K A.C_Give "number"
 n_Give_ware : NoAttr K A.C_Give "ware"
 n_Give_pieces : NoAttr K A.C_Give "pieces"
 n_Give_named : NoAttr K A.C_Give "named"
 cl_Split : Cls K A.C_Split
 ty_Split : InsTy K A.C_Split
 n_Split_day : NoAttr K A.C_Split "day"
 n_Split_number : NoAttr K A.C_Split "number"
 n_Split_ware : NoAttr K A.C_Split "ware"
 n_Split_many : NoAttr K A.C_Split "many"
 n_Split_of : NoAttr K A.C_Split "of"
 mk_Parting : Mk K A.C_Parting A.Parting___init__
 mk_Buy : Mk K A.C_Buy A.Buy___init__
 mk_Sell : Mk K A.C_Sell A.Sell___init__
 mk_Gift : Mk K A.C_Gift A.Gift___init__
 mk_Give : Mk K A.C_Give A.Give___init__
 mk_Split : Mk K A.C_Split A.Split___init__
 me_Buy_word : Meth K A.C_Buy "word" A.Buy_word
 me_Sell_word : Meth K A.C_Sell "word" A.Sell_word
 me_Gift_word : Meth K A.C_Gift "word" A.Gift_word
 me_Give_word : Meth K A.C_Give "word" A.Give_word
 me_Split_word : Meth K A.C_Split "word" A.Split_word
 me_Parting_word : Meth K A.C_Parting "word" A.Parting_word
 me_Buy_told : Meth K A.C_Buy "told" A.Buy_told
 me_Sell_told : Meth K A.C_Sell "told" A.Sell_told
 me_Gift_told : Meth K A.C_Gift "told" A.Gift_told
 me_Give_told : Meth K A.C_Give "told" A.Give_told
 me_Split_told : Meth K A.C_Split "told" A.Split_told
 me_Parting_told : Meth K A.C_Parting "told" A.Parting_told
 cf_Entry___init__ : ClsFn K A.C_Entry "__init__" A.Entry___init__
 lamc : D.law.code = .ref A.cT
 lamC : PySem.W.codeHdIn K A.cT A.PT = true
theorem sc__law_turned : FnScope ["_law_row", "_law_cell", "_law_found", "_law_k"] ["_law_row", "_law_cell"] (defScope s__law_turned) := ⟨rfl, rfl, rfl, by decide +kernel, rfl, by decide +kernel, by decide +kernel⟩
theorem sc__law_text : FnScope ["_law_told", "_law_text_here", "_law_row", "_law_words", "_law_rest", "_law_named"] ["_law_told"] (defScope s__law_text) := ⟨rfl, rfl, rfl, by decide +kernel, rfl, by decide +kernel, by decide +kernel⟩
theorem sc_kind_of_words : FnScope ["words", "kind", "more"] ["words"] (defScope s_kind_of_words) := ⟨rfl, rfl, rfl, by decide +kernel, rfl, by decide +kernel, by decide +kernel⟩
theorem sc_is_whole_number : FnScope ["value"] ["value"] (defScope s_is_whole_number) := ⟨rfl, rfl, rfl, by decide +kernel, rfl, by decide +kernel, by decide +kernel⟩
theorem sc_check_number : FnScope ["what", "value", "least", "most"] ["what", "value", "least", "most"] (defScope s_check_number) := ⟨rfl, rfl, rfl, by decide +kernel, rfl, by decide +kernel, by decide +kernel⟩
theorem sc_is_name : FnScope ["value"] ["value"] (defScope s_is_name) := ⟨rfl, rfl, rfl, by decide +kernel, rfl, by decide +kernel, by decide +kernel⟩
theorem sc_check_name : FnScope ["what", "value"] ["what", "value"] (defScope s_check_name) := ⟨rfl, rfl, rfl, by decide +kernel, rfl, by decide +kernel, by decide +kernel⟩
theorem sc_Entry___init__ : FnScope ["self", "day", "number", "ware"] ["self", "day", "number", "ware"] (defScope s_Entry___init__) := ⟨rfl, rfl, rfl, by decide +kernel, rfl, by decide +kernel, by decide +kernel⟩
theorem sc_Parting___init__ : FnScope ["self", "day", "number", "ware", "other", "share", "whole"] ["self", "day", "number", "ware", "other", "share", "whole"] (defScope s_Parting___init__) := ⟨rfl, rfl, rfl, by decide +kernel, rfl, by decide +kernel, by decide +kernel⟩
theorem sc_check_trade : FnScope ["pieces", "price", "fee"] ["pieces", "price", "fee"] (defScope s_check_trade) := ⟨rfl, rfl, rfl, by decide +kernel, rfl, by decide +kernel, by decide +kernel⟩
theorem sc_Buy___init__ : FnScope ["self", "day", "number", "ware", "pieces", "price", "fee"] ["self", "day", "number", "ware", "pieces", "price", "fee"] (defScope s_Buy___init__) := ⟨rfl, rfl, rfl, by decide +kernel, rfl, by decide +kernel, by decide +kernel⟩
theorem sc_check_named : FnScope ["named", "pieces", "seen", "lot", "lot_pieces"] ["named", "pieces"] (defScope s_check_named) := ⟨rfl, rfl, rfl, by decide +kernel, rfl, by decide +kernel, by decide +kernel⟩
theorem sc_named_copy : FnScope ["named"] ["named"] (defScope s_named_copy) := ⟨rfl, rfl, rfl, by decide +kernel, rfl, by decide +kernel, by decide +kernel⟩
theorem sc_Sell___init__ : FnScope ["self", "day", "number", "ware", "pieces", "price", "fee", "named"] ["self", "day", "number", "ware", "pieces", "price", "fee", "named"] (defScope s_Sell___init__) := ⟨rfl, rfl, rfl, by decide +kernel, rfl, by decide +kernel, by decide +kernel⟩
theorem sc_Gift___init__ : FnScope ["self", "day", "number", "ware", "pieces", "cost", "since"] ["self", "day", "number", "ware", "pieces", "cost", "since"] (defScope s_Gift___init__) := ⟨rfl, rfl, rfl, by decide +kernel, rfl, by decide +kernel, by decide +kernel⟩
theorem sc_Give___init__ : FnScope ["self", "day", "number", "ware", "pieces", "named"] ["self", "day", "number", "ware", "pieces", "named"] (defScope s_Give___init__) := ⟨rfl, rfl, rfl, by decide +kernel, rfl, by decide +kernel, by decide +kernel⟩
theorem sc_Split___init__ : FnScope ["self", "day", "number", "ware", "many", "of"] ["self", "day", "number", "ware", "many", "of"] (defScope s_Split___init__) := ⟨rfl, rfl, rfl, by decide +kernel, rfl, by decide +kernel, by decide +kernel⟩
theorem sc_entry_that_tells : FnScope ["told", "word"] ["told"] (defScope s_entry_that_tells) := ⟨rfl, rfl, rfl, by decide +kernel, rfl, by decide +kernel, by decide +kernel⟩
theorem sc_is_written_number : FnScope ["word"] ["word"] (defScope s_is_written_number) := ⟨rfl, rfl, rfl, by decide +kernel, rfl, by decide +kernel, by decide +kernel⟩
theorem sc_value_of_word : FnScope ["word"] ["word"] (defScope s_value_of_word) := ⟨rfl, rfl, rfl, by decide +kernel, rfl, by decide +kernel, by decide +kernel⟩
theorem sc_lot_of_word : FnScope ["word", "halves"] ["word"] (defScope s_lot_of_word) := ⟨rfl, rfl, rfl, by decide +kernel, rfl, by decide +kernel, by decide +kernel⟩
theorem sc_named_of_words : FnScope ["words"] ["words"] (defScope s_named_of_words) := ⟨rfl, rfl, rfl, by decide +kernel, rfl, by decide +kernel, by decide +kernel⟩
theorem sc_entry_of_words : FnScope ["words", "kind", "count", "told"] ["words"] (defScope s_entry_of_words) := ⟨rfl, rfl, rfl, by decide +kernel, rfl, by decide +kernel, by decide +kernel⟩
theorem sc_entry_in_row : FnScope ["row", "place"] ["row", "place"] (defScope s_entry_in_row) := ⟨rfl, rfl, rfl, by decide +kernel, rfl, by decide +kernel, by decide +kernel⟩
theorem sc_read_entries : FnScope ["text", "rows", "unended", "entries", "seen", "place", "row", "entry"] ["text"] (defScope s_read_entries) := ⟨rfl, rfl, rfl, by decide +kernel, rfl, by decide +kernel, by decide +kernel⟩
theorem sc__law_digits : FnScope ["_law_cell", "_law_bases", "_law_row", "_law_base"] ["_law_cell", "_law_bases"] (defScope s__law_digits) := ⟨rfl, rfl, rfl, by decide +kernel, rfl, by decide +kernel, by decide +kernel⟩
theorem sc__law_cell_at : FnScope ["_law_script", "_law_k"] ["_law_script", "_law_k"] (defScope s__law_cell_at) := ⟨rfl, rfl, rfl, by decide +kernel, rfl, by decide +kernel, by decide +kernel⟩
theorem sc__law_wares : FnScope ["_law_script", "_law_word", "_law_cell", "_law_many"] ["_law_script"] (defScope s__law_wares) := ⟨rfl, rfl, rfl, by decide +kernel, rfl, by decide +kernel, by decide +kernel⟩
theorem sc__law_entry : FnScope ["_law_cell", "_law_day", "_law_number", "_law_wares_here", "_law_held", "_law_kind_here", "_law_at", "_law_size", "_law_pieces", "_law_price", "_law_fee", "_law_many", "_law_ware", "_law_there", "_law_whole", "_law_other"] ["_law_cell", "_law_day", "_law_number", "_law_wares_here", "_law_held"] (defScope s__law_entry) := ⟨rfl, rfl, rfl, by decide +kernel, rfl, by decide +kernel, by decide +kernel⟩
theorem sc__law_mixed : FnScope ["_law_cell", "_law_k", "_law_number", "_law_other"] ["_law_cell", "_law_k"] (defScope s__law_mixed) := ⟨rfl, rfl, rfl, by decide +kernel, rfl, by decide +kernel, by decide +kernel⟩
theorem sc__law_cells : FnScope ["_law_script", "_law_many"] ["_law_script"] (defScope s__law_cells) := ⟨rfl, rfl, rfl, by decide +kernel, rfl, by decide +kernel, by decide +kernel⟩
theorem sc__law_with_named : FnScope ["_law_told", "_law_cell", "_law_left", "_law_named", "_law_k", "_law_some"] ["_law_told", "_law_cell"] (defScope s__law_with_named) := ⟨rfl, rfl, rfl, by decide +kernel, rfl, by decide +kernel, by decide +kernel⟩
theorem sc__law_any : FnScope ["_law_script", "_law_most", "_law_wares_here", "_law_by", "_law_low", "_law_told", "_law_k", "_law_cell", "_law_small", "_law_great", "_law_kind_here", "_law_more", "_law_day", "_law_held", "_law_row"] ["_law_script", "_law_most"] (defScope s__law_any) := ⟨rfl, rfl, rfl, by decide +kernel, rfl, by decide +kernel, by decide +kernel⟩
theorem sc_row_of_words : FnScope ["words"] ["words"] (defScope s_row_of_words) := ⟨rfl, rfl, rfl, by decide +kernel, rfl, by decide +kernel, by decide +kernel⟩
theorem sc_Buy_word : FnScope ["self"] ["self"] (defScope s_Buy_word) := ⟨rfl, rfl, rfl, by decide +kernel, rfl, by decide +kernel, by decide +kernel⟩
theorem sc_Buy_told : FnScope ["self"] ["self"] (defScope s_Buy_told) := ⟨rfl, rfl, rfl, by decide +kernel, rfl, by decide +kernel, by decide +kernel⟩
theorem sc_named_told : FnScope ["named"] ["named"] (defScope s_named_told) := ⟨rfl, rfl, rfl, by decide +kernel, rfl, by decide +kernel, by decide +kernel⟩
theorem sc_Sell_word : FnScope ["self"] ["self"] (defScope s_Sell_word) := ⟨rfl, rfl, rfl, by decide +kernel, rfl, by decide +kernel, by decide +kernel⟩
theorem sc_Sell_told : FnScope ["self", "named"] ["self"] (defScope s_Sell_told) := ⟨rfl, rfl, rfl, by decide +kernel, rfl, by decide +kernel, by decide +kernel⟩
theorem sc_Gift_word : FnScope ["self"] ["self"] (defScope s_Gift_word) := ⟨rfl, rfl, rfl, by decide +kernel, rfl, by decide +kernel, by decide +kernel⟩
theorem sc_Gift_told : FnScope ["self"] ["self"] (defScope s_Gift_told) := ⟨rfl, rfl, rfl, by decide +kernel, rfl, by decide +kernel, by decide +kernel⟩
theorem sc_Give_word : FnScope ["self"] ["self"] (defScope s_Give_word) := ⟨rfl, rfl, rfl, by decide +kernel, rfl, by decide +kernel, by decide +kernel⟩
theorem sc_Give_told : FnScope ["self"] ["self"] (defScope s_Give_told) := ⟨rfl, rfl, rfl, by decide +kernel, rfl, by decide +kernel, by decide +kernel⟩
theorem sc_Split_word : FnScope ["self"] ["self"] (defScope s_Split_word) := ⟨rfl, rfl, rfl, by decide +kernel, rfl, by decide +kernel, by decide +kernel⟩
theorem sc_Split_told : FnScope ["self"] ["self"] (defScope s_Split_told) := ⟨rfl, rfl, rfl, by decide +kernel, rfl, by decide +kernel, by decide +kernel⟩
theorem sc_Parting_word : FnScope ["self"] ["self"] (defScope s_Parting_word) := ⟨rfl, rfl, rfl, by decide +kernel, rfl, by decide +kernel, by decide +kernel⟩
theorem sc_Parting_told : FnScope ["self"] ["self"] (defScope s_Parting_told) := ⟨rfl, rfl, rfl, by decide +kernel, rfl, by decide +kernel, by decide +kernel⟩
theorem sc_words_of_named : FnScope ["named"] ["named"] (defScope s_words_of_named) := ⟨rfl, rfl, rfl, by decide +kernel, rfl, by decide +kernel, by decide +kernel⟩
theorem sc_words_of_entry : FnScope ["entry", "told", "kind", "named"] ["entry"] (defScope s_words_of_entry) := ⟨rfl, rfl, rfl, by decide +kernel, rfl, by decide +kernel, by decide +kernel⟩
theorem sc_refuse_twice : FnScope ["numbers", "rising", "ahead", "behind"] ["numbers"] (defScope s_refuse_twice) := ⟨rfl, rfl, rfl, by decide +kernel, rfl, by decide +kernel, by decide +kernel⟩
theorem sc_place_of : FnScope ["entry"] ["entry"] (defScope s_place_of) := ⟨rfl, rfl, rfl, by decide +kernel, rfl, by decide +kernel, by decide +kernel⟩
theorem sc_in_order : FnScope ["entries"] ["entries"] (defScope s_in_order) := ⟨rfl, rfl, rfl, by decide +kernel, rfl, by decide +kernel, by decide +kernel⟩
theorem sc_shown_entries : FnScope ["entries"] ["entries"] (defScope s_shown_entries) := ⟨rfl, rfl, rfl, by decide +kernel, rfl, by decide +kernel, by decide +kernel⟩
theorem sc__law_kind : FnScope ["_law_entry_here", "_law_word"] ["_law_entry_here", "_law_word"] (defScope s__law_kind) := ⟨rfl, rfl, rfl, by decide +kernel, rfl, by decide +kernel, by decide +kernel⟩
theorem sc_law : FnScope ["_law_script", "_law_told", "_law_text_here", "_law_found", "_law_entry_here", "_law_row", "_law_rows", "_law_again"] ["_law_script"] (defScope s_law) := ⟨rfl, rfl, rfl, by decide +kernel, rfl, by decide +kernel, by decide +kernel⟩
section
variable {P : Program} {w : World} {K : Fg_} {mg : Str -> Option Value} {base : Heap} {A : Adr} {D : Fds}
theorem b__law_turned (T : Txt w K mg A D) : Binds K D._law_turned ["_law_row", "_law_cell"] [] := T.F__law_turned.binds (ps := ["_law_row", "_law_cell"]) fun _ _ _ _ _ _ us hl => match us, hl with | [_, _], _ => rfl
theorem b__law_text (T : Txt w K mg A D) : Binds K D._law_text ["_law_told"] [] := T.F__law_text.binds (ps := ["_law_told"]) fun _ _ _ _ _ _ us hl => match us, hl with | [_], _ => rfl
theorem b_kind_of_words (T : Txt w K mg A D) : Binds K D.kind_of_words ["words"] [] := T.F_kind_of_words.binds (ps := ["words"]) fun _ _ _ _ _ _ us hl => match us, hl with | [_], _ => rfl
theorem b_is_whole_number (T : Txt w K mg A D) : Binds K D.is_whole_number ["value"] [] := T.F_is_whole_number.binds (ps := ["value"]) fun _ _ _ _ _ _ us hl => match us, hl with | [_], _ => rfl
theorem b_check_number (T : Txt w K mg A D) : Binds K D.check_number ["what", "value", "least", "most"] [] := T.F_check_number.binds (ps := ["what", "value", "least", "most"]) fun _ _ _ _ _ _ us hl => match us, hl with | [_, _, _, _], _ => rfl
theorem b_is_name (T : Txt w K mg A D) : Binds K D.is_name ["value"] [] := T.F_is_name.binds (ps := ["value"]) fun _ _ _ _ _ _ us hl => match us, hl with | [_], _ => rfl
theorem b_check_name (T : Txt w K mg A D) : Binds K D.check_name ["what", "value"] [] := T.F_check_name.binds (ps := ["what", "value"]) fun _ _ _ _ _ _ us hl => match us, hl with | [_, _], _ => rfl
theorem b_Entry___init__ (T : Txt w K mg A D) : Binds K D.Entry___init__ ["self", "day", "number", "ware"] [] := T.F_Entry___init__.binds (ps := ["self", "day", "number", "ware"]) fun _ _ _ _ _ _ us hl => match us, hl with | [_, _, _, _], _ => rfl
theorem b_Parting___init__ (T : Txt w K mg A D) : Binds K D.Parting___init__ ["self", "day", "number", "ware", "other", "share", "whole"] [] := T.F_Parting___init__.binds (ps := ["self", "day", "number", "ware", "other", "share", "whole"]) fun _ _ _ _ _ _ us hl => match us, hl with | [_, _, _, _, _, _, _], _ => rfl
theorem b_check_trade (T : Txt w K mg A D) : Binds K D.check_trade ["pieces", "price", "fee"] [] := T.F_check_trade.binds (ps := ["pieces", "price", "fee"]) fun _ _ _ _ _ _ us hl => match us, hl with | [_, _, _], _ => rfl
theorem b_check_named (T : Txt w K mg A D) : Binds K D.check_named ["named", "pieces"] [] := T.F_check_named.binds (ps := ["named", "pieces"]) fun _ _ _ _ _ _ us hl => match us, hl with | [_, _], _ => rfl
theorem b_named_copy (T : Txt w K mg A D) : Binds K D.named_copy ["named"] [] := T.F_named_copy.binds (ps := ["named"]) fun _ _ _ _ _ _ us hl => match us, hl with | [_], _ => rfl
theorem b_Gift___init__ (T : Txt w K mg A D) : Binds K D.Gift___init__ ["self", "day", "number", "ware", "pieces", "cost", "since"] [] := T.F_Gift___init__.binds (ps := ["self", "day", "number", "ware", "pieces", "cost", "since"]) fun _ _ _ _ _ _ us hl => match us, hl with | [_, _, _, _, _, _, _], _ => rfl
theorem b_Split___init__ (T : Txt w K mg A D) : Binds K D.Split___init__ ["self", "day", "number", "ware", "many", "of"] [] := T.F_Split___init__.binds (ps := ["self", "day", "number", "ware", "many", "of"]) fun _ _ _ _ _ _ us hl => match us, hl with | [_, _, _, _, _, _], _ => rfl
theorem b_entry_that_tells (T : Txt w K mg A D) : Binds K D.entry_that_tells ["told"] [] := T.F_entry_that_tells.binds (ps := ["told"]) fun _ _ _ _ _ _ us hl => match us, hl with | [_], _ => rfl
theorem b_is_written_number (T : Txt w K mg A D) : Binds K D.is_written_number ["word"] [] := T.F_is_written_number.binds (ps := ["word"]) fun _ _ _ _ _ _ us hl => match us, hl with | [_], _ => rfl
theorem b_value_of_word (T : Txt w K mg A D) : Binds K D.value_of_word ["word"] [] := T.F_value_of_word.binds (ps := ["word"]) fun _ _ _ _ _ _ us hl => match us, hl with | [_], _ => rfl
theorem b_lot_of_word (T : Txt w K mg A D) : Binds K D.lot_of_word ["word"] [] := T.F_lot_of_word.binds (ps := ["word"]) fun _ _ _ _ _ _ us hl => match us, hl with | [_], _ => rfl
theorem b_named_of_words (T : Txt w K mg A D) : Binds K D.named_of_words ["words"] [] := T.F_named_of_words.binds (ps := ["words"]) fun _ _ _ _ _ _ us hl => match us, hl with | [_], _ => rfl
theorem b_entry_of_words (T : Txt w K mg A D) : Binds K D.entry_of_words ["words"] [] := T.F_entry_of_words.binds (ps := ["words"]) fun _ _ _ _ _ _ us hl => match us, hl with | [_], _ => rfl
theorem b_entry_in_row (T : Txt w K mg A D) : Binds K D.entry_in_row ["row", "place"] [] := T.F_entry_in_row.binds (ps := ["row", "place"]) fun _ _ _ _ _ _ us hl => match us, hl with | [_, _], _ => rfl
theorem b_read_entries (T : Txt w K mg A D) : Binds K D.read_entries ["text"] [] := T.F_read_entries.binds (ps := ["text"]) fun _ _ _ _ _ _ us hl => match us, hl with | [_], _ => rfl
theorem b__law_digits (T : Txt w K mg A D) : Binds K D._law_digits ["_law_cell", "_law_bases"] [] := T.F__law_digits.binds (ps := ["_law_cell", "_law_bases"]) fun _ _ _ _ _ _ us hl => match us, hl with | [_, _], _ => rfl
theorem b__law_cell_at (T : Txt w K mg A D) : Binds K D._law_cell_at ["_law_script", "_law_k"] [] := T.F__law_cell_at.binds (ps := ["_law_script", "_law_k"]) fun _ _ _ _ _ _ us hl => match us, hl with | [_, _], _ => rfl
theorem b__law_wares (T : Txt w K mg A D) : Binds K D._law_wares ["_law_script"] [] := T.F__law_wares.binds (ps := ["_law_script"]) fun _ _ _ _ _ _ us hl => match us, hl with | [_], _ => rfl
theorem b__law_entry (T : Txt w K mg A D) : Binds K D._law_entry ["_law_cell", "_law_day", "_law_number", "_law_wares_here", "_law_held"] [] := T.F__law_entry.binds (ps := ["_law_cell", "_law_day", "_law_number", "_law_wares_here", "_law_held"]) fun _ _ _ _ _ _ us hl => match us, hl with | [_, _, _, _, _], _ => rfl
theorem b__law_mixed (T : Txt w K mg A D) : Binds K D._law_mixed ["_law_cell", "_law_k"] [] := T.F__law_mixed.binds (ps := ["_law_cell", "_law_k"]) fun _ _ _ _ _ _ us hl => match us, hl with | [_, _], _ => rfl
theorem b__law_cells (T : Txt w K mg A D) : Binds K D._law_cells ["_law_script"] [] := T.F__law_cells.binds (ps := ["_law_script"]) fun _ _ _ _ _ _ us hl => match us, hl with | [_], _ => rfl
theorem b__law_with_named (T : Txt w K mg A D) : Binds K D._law_with_named ["_law_told", "_law_cell"] [] := T.F__law_with_named.binds (ps := ["_law_told", "_law_cell"]) fun _ _ _ _ _ _ us hl => match us, hl with | [_, _], _ => rfl
theorem b__law_any (T : Txt w K mg A D) : Binds K D._law_any ["_law_script", "_law_most"] [] := T.F__law_any.binds (ps := ["_law_script", "_law_most"]) fun _ _ _ _ _ _ us hl => match us, hl with | [_, _], _ => rfl
theorem b_row_of_words (T : Txt w K mg A D) : Binds K D.row_of_words ["words"] [] := T.F_row_of_words.binds (ps := ["words"]) fun _ _ _ _ _ _ us hl => match us, hl with | [_], _ => rfl
theorem b_Buy_word (T : Txt w K mg A D) : Binds K D.Buy_word ["self"] [] := T.F_Buy_word.binds (ps := ["self"]) fun _ _ _ _ _ _ us hl => match us, hl with | [_], _ => rfl
theorem b_Buy_told (T : Txt w K mg A D) : Binds K D.Buy_told ["self"] [] := T.F_Buy_told.binds (ps := ["self"]) fun _ _ _ _ _ _ us hl => match us, hl with | [_], _ => rfl
theorem b_named_told (T : Txt w K mg A D) : Binds K D.named_told ["named"] [] := T.F_named_told.binds (ps := ["named"]) fun _ _ _ _ _ _ us hl => match us, hl with | [_], _ => rfl
theorem b_Sell_word (T : Txt w K mg A D) : Binds K D.Sell_word ["self"] [] := T.F_Sell_word.binds (ps := ["self"]) fun _ _ _ _ _ _ us hl => match us, hl with | [_], _ => rfl
theorem b_Sell_told (T : Txt w K mg A D) : Binds K D.Sell_told ["self"] [] := T.F_Sell_told.binds (ps := ["self"]) fun _ _ _ _ _ _ us hl => match us, hl with | [_], _ => rfl
theorem b_Gift_word (T : Txt w K mg A D) : Binds K D.Gift_word ["self"] [] := T.F_Gift_word.binds (ps := ["self"]) fun _ _ _ _ _ _ us hl => match us, hl with | [_], _ => rfl
theorem b_Gift_told (T : Txt w K mg A D) : Binds K D.Gift_told ["self"] [] := T.F_Gift_told.binds (ps := ["self"]) fun _ _ _ _ _ _ us hl => match us, hl with | [_], _ => rfl
theorem b_Give_word (T : Txt w K mg A D) : Binds K D.Give_word ["self"] [] := T.F_Give_word.binds (ps := ["self"]) fun _ _ _ _ _ _ us hl => match us, hl with | [_], _ => rfl
theorem b_Give_told (T : Txt w K mg A D) : Binds K D.Give_told ["self"] [] := T.F_Give_told.binds (ps := ["self"]) fun _ _ _ _ _ _ us hl => match us, hl with | [_], _ => rfl
theorem b_Split_word (T : Txt w K mg A D) : Binds K D.Split_word ["self"] [] := T.F_Split_word.binds (ps := ["self"]) fun _ _ _ _ _ _ us hl => match us, hl with | [_], _ => rfl
theorem b_Split_told (T : Txt w K mg A D) : Binds K D.Split_told ["self"] [] := T.F_Split_told.binds (ps := ["self"]) fun _ _ _ _ _ _ us hl => match us, hl with | [_], _ => rfl
theorem b_Parting_word (T : Txt w K mg A D) : Binds K D.Parting_word ["self"] [] := T.F_Parting_word.binds (ps := ["self"]) fun _ _ _ _ _ _ us hl => match us, hl with | [_], _ => rfl
theorem b_Parting_told (T : Txt w K mg A D) : Binds K D.Parting_told ["self"] [] := T.F_Parting_told.binds (ps := ["self"]) fun _ _ _ _ _ _ us hl => match us, hl with | [_], _ => rfl
theorem b_words_of_named (T : Txt w K mg A D) : Binds K D.words_of_named ["named"] [] := T.F_words_of_named.binds (ps := ["named"]) fun _ _ _ _ _ _ us hl => match us, hl with | [_], _ => rfl
theorem b_words_of_entry (T : Txt w K mg A D) : Binds K D.words_of_entry ["entry"] [] := T.F_words_of_entry.binds (ps := ["entry"]) fun _ _ _ _ _ _ us hl => match us, hl with | [_], _ => rfl
theorem b_refuse_twice (T : Txt w K mg A D) : Binds K D.refuse_twice ["numbers"] [] := T.F_refuse_twice.binds (ps := ["numbers"]) fun _ _ _ _ _ _ us hl => match us, hl with | [_], _ => rfl
theorem b_place_of (T : Txt w K mg A D) : Binds K D.place_of ["entry"] [] := T.F_place_of.binds (ps := ["entry"]) fun _ _ _ _ _ _ us hl => match us, hl with | [_], _ => rfl
theorem b_in_order (T : Txt w K mg A D) : Binds K D.in_order ["entries"] [] := T.F_in_order.binds (ps := ["entries"]) fun _ _ _ _ _ _ us hl => match us, hl with | [_], _ => rfl
theorem b_shown_entries (T : Txt w K mg A D) : Binds K D.shown_entries ["entries"] [] := T.F_shown_entries.binds (ps := ["entries"]) fun _ _ _ _ _ _ us hl => match us, hl with | [_], _ => rfl
theorem b__law_kind (T : Txt w K mg A D) : Binds K D._law_kind ["_law_entry_here", "_law_word"] [] := T.F__law_kind.binds (ps := ["_law_entry_here", "_law_word"]) fun _ _ _ _ _ _ us hl => match us, hl with | [_, _], _ => rfl
theorem b_Buy___init___7 (T : Txt w K mg A D) : ∃ ds, Binds K D.Buy___init__ ["self", "day", "number", "ware", "pieces", "price", "fee"] ds /\ Vals (([V.int 0] : List V).drop 1) ds := T.F_Buy___init__.binds (ps := ["self", "day", "number", "ware", "pieces", "price", "fee"]) 1 fun Td kV doc pm an cdv ct its us h1 h2 => match its, h1, h2 with
 | [i0], _, h2 => by
  have h3 : us.length = 7 := by simpa using h2
  exact match us, h3 with | [u0, u1, u2, u3, u4, u5, u6], _ => ⟨_, rfl, rfl⟩
theorem b_Give___init___6 (T : Txt w K mg A D) : ∃ ds, Binds K D.Give___init__ ["self", "day", "number", "ware", "pieces", "named"] ds /\ Vals (([V.non] : List V).drop 1) ds := T.F_Give___init__.binds (ps := ["self", "day", "number", "ware", "pieces", "named"]) 1 fun Td kV doc pm an cdv ct its us h1 h2 => match its, h1, h2 with
 | [i0], _, h2 => by
  have h3 : us.length = 6 := by simpa using h2
  exact match us, h3 with | [u0, u1, u2, u3, u4, u5], _ => ⟨_, rfl, rfl⟩
theorem b_Sell___init___8 (T : Txt w K mg A D) : ∃ ds, Binds K D.Sell___init__ ["self", "day", "number", "ware", "pieces", "price", "fee", "named"] ds /\ Vals (([V.int 0, V.non] : List V).drop 2) ds := T.F_Sell___init__.binds (ps := ["self", "day", "number", "ware", "pieces", "price", "fee", "named"]) 2 fun Td kV doc pm an cdv ct its us h1 h2 => match its, h1, h2 with
 | [i0, i1], _, h2 => by
  have h3 : us.length = 8 := by simpa using h2
  exact match us, h3 with | [u0, u1, u2, u3, u4, u5, u6, u7], _ => ⟨_, rfl, rfl⟩
end
end My
namespace My
open PySem L2 PyProof.Rows
end My
namespace My
open PySem L2 PyProof.Rows
section
variable {P : Program} {w : World} {K : Fg_} {mg : Str -> Option Value} {base : Heap} {A : Adr} {D : Fds}
theorem abs_mono {x : Int} {m k : Nat} (hx : x.natAbs < 2 ^ m) (h : m <= k) : x.natAbs < 2 ^ k := Nat.lt_of_lt_of_le hx (Nat.pow_le_pow_right (by decide) h)
def digs : Int -> List Int -> List Int
 | _, [] => []
 | c, b :: r => c % b :: digs (c / b) r
def aftr : Int -> List Int -> Int
 | c, [] => c
 | c, b :: r => aftr (c / b) r
theorem digs_snoc : ∀ (c : Int) (l : List Int) (b : Int), digs c (l ++ [b]) = digs c l ++ [aftr c l % b]
 | _, [], _ => rfl
 | c, x :: r, b => by show c % x :: digs (c / x) (r ++ [b]) = _; rw [digs_snoc]; rfl
theorem aftr_snoc : ∀ (c : Int) (l : List Int) (b : Int), aftr c (l ++ [b]) = aftr c l / b
 | _, [], _ => rfl
 | c, x :: r, b => by show aftr (c / x) (r ++ [b]) = _; rw [aftr_snoc]; rfl
theorem digs_length : ∀ (c : Int) (l : List Int), (digs c l).length = l.length
 | _, [] => rfl
 | c, x :: r => by show (digs (c / x) r).length + 1 = _; rw [digs_length]; rfl
def mixed (c k : Int) : Int :=
 (c + 7919 * k * k + k) * 982451653 % 2305843009213693951 * ((c + 7919 * k * k + k) * 982451653 % 2305843009213693951 * 1000003 % 1152921504606846883) *
  ((c + 7919 * k * k + k) * 982451653 % 2305843009213693951 / 4096 + (c + 7919 * k * k + k) * 982451653 % 2305843009213693951 * 1000003 % 1152921504606846883 / 64 + 1)
def manyOf (ns : List Int) : Int :=
 if (if (63 : Int) < (ns.length : Int) then (63 : Int) else (ns.length : Int)) < 3 + ns.headD 0 / 2 % 61 then 3 + ns.headD 0 / 2 % 61 else if (63 : Int) < (ns.length : Int) then (63 : Int) else (ns.length : Int)
theorem manyOf_bd (ns : List Int) : 3 <= manyOf ns /\ manyOf ns <= 63 := by
 unfold manyOf
 split <;> split <;> omega
def cells (ns : List Int) : List Int :=
 if 0 < ns.length /\ ns.headD 0 % 2 = 1 then (List.range (manyOf ns).toNat).map fun (k : Nat) => mixed (ns.getD (k % ns.length) 0) k else (ns.take 63).map fun c => c % 10 ^ 60
def FreshInts (H : Hp) (Q : VK) (ns : List Int) : Prop := ∀ p H', Same H H' -> H p = Option.none -> H' p = some (.lst (ns.map V.int)) -> Q (.ref p) H'
def sp__law_digits (K : Fg_) : Sp := fun vs H Q _ => ∃ c l bs, vs = [.int c, .ref l] /\ SqL K H l (bs.map V.int) /\ (∀ b ∈ bs, CDivB 0 b) /\ bs.length <= 1000 /\ FreshInts H Q (digs c bs)
def sp__law_mixed : Sp := fun vs H Q _ => ∃ c k, vs = [.int c, .int k] /\ 0 <= k /\ k < 1000 /\ Q (.int (mixed c k)) H
def sp__law_cells (K : Fg_) : Sp := fun vs H Q _ => ∃ a ns, vs = [.ref a] /\ SqL K H a (ns.map V.int) /\ ns.length <= 63 /\ FreshInts H Q (cells ns)
theorem map_get {ns : List Int} {i : Nat} {y : V} (h : (ns.map V.int)[i]? = some y) : ∃ z, y = V.int z /\ ns[i]? = some z := by
 rw [List.getElem?_map] at h
 cases e : ns[i]? with
 | none => rw [e] at h; cases h
 | some z => rw [e] at h; exact ⟨z, (Option.some.inj h).symm, rfl⟩
theorem tyL {K : Fg_} {H : Hp} {p : Addr} {xs : List V} (h : SqL K H p xs) : tyV K "list" (.ref p) H := .inl ⟨rfl, _, h⟩
end
end My
namespace My
open PySem L2 PyProof.Rows
section
variable {P : Program} {w : World} {K : Fg_} {mg : Str -> Option Value} {base : Heap} {A : Adr} {D : Fds}
theorem ok__law_mixed (T : Txt w K mg A D) : FnOk P w K mg base CX0 1 A._law_mixed D._law_mixed ["_law_cell", "_law_k"] sp__law_mixed := by
 refine T.F__law_mixed.ok sc__law_mixed (fun vs H Q E h => ?_) (fun cdv A outer s H vs Q E hr h => ?_)
 ·obtain ⟨c, k', rfl, _⟩ := h; rfl
 ·obtain ⟨c, k', rfl, k0, k1, k⟩ := h
  refine ⟨_, (pss_cons (ps_set (i := 2) sc__law_mixed.nd rfl (Or.inl rfl) (pe_op op_mod (pe_op op_mulU (pe_op op_add (pe_op op_add (pv 0) (pe_op op_mulU (pe_op op_mulU pe_int (pv 1)) (pv 1))) (pv 1)) pe_int) pe_int))
   (pss_cons (ps_set (i := 3) sc__law_mixed.nd rfl (Or.inl rfl) (pe_op op_mod (pe_op op_mulU (pv 2) pe_int) pe_int))
   (pss_one (ps_ret (pe_op op_mulU (pe_op op_mulU (pv 2) (pv 3)) (pe_op op_add (pe_op op_add (pe_op op_fdivB (pv 2) pe_int) (pe_op op_fdivB (pv 3) pe_int)) pe_int)))))), ?_⟩
  walk_at "rd"
  have big : ∀ j : Int, 0 < j -> j.natAbs < 2 ^ 64 -> ∀ i, CDivB i j := fun j h0 h1 i => ⟨h0, abs_mono h1 (by decide)⟩
  refine ⟨CMulU.l (by decide) (by decide), CMulU.l (by omega) (by omega), CMulU.r (by decide) (by decide), by decide, CMulU.r (by decide) (by decide), by decide, ?_⟩
  have hk := k
  unfold mixed at hk
  revert hk
  generalize hn : (c + 7919 * k' * k' + k') * 982451653 % 2305843009213693951 = n
  have n0 : 0 <= n := by rw [<- hn]; exact Int.emod_nonneg _ (by decide)
  have n1 : n < 2305843009213693951 := by rw [<- hn]; exact Int.emod_lt_of_pos _ (by decide)
  generalize ho : n * 1000003 % 1152921504606846883 = o
  have o0 : 0 <= o := by rw [<- ho]; exact Int.emod_nonneg _ (by decide)
  have o1 : o < 1152921504606846883 := by rw [<- ho]; exact Int.emod_lt_of_pos _ (by decide)
  intro hk
  refine ⟨CMulU.l (by omega) (by omega), big _ (by decide) (by decide) _, big _ (by decide) (by decide) _, CMulU.r (by omega) (by omega), hk⟩
structure SmallCells (K : Fg_) (Q : VK) (H : Hp) (a : Addr) (ns : List Int) : Prop where
 S : SqL K H a (ns.map V.int)
 l : ns.length <= 63
 k : FreshInts H Q (cells ns)
theorem SmallCells.go {Q : VK} {H : Hp} {a : Addr} {ns : List Int} {x : Option V} (S : SmallCells K Q H a ns) (hn : ¬ (0 < ns.length /\ ns.headD 0 % 2 = 1)) :
  ∃ ys, SqL K H a ys /\ ∀ p, H p = none -> (∃ xs, SqL K (upd H p (.lst (cutV ys none (some 63)))) p xs) /\ CompP [none] (Itl K p) (gName 0) tNoIf (tOp (rI (fun x j => 0 < j) fun i j => V.int (i % j)) (tVar 0) (tOp (rI CPow fun i j => V.int (i ^ j.toNat)) (tC (V.int 10)) (tC (V.int 60)))) [some (V.ref a), x] (upd H p (.lst (cutV ys none (some 63)))) Q := by
 obtain ⟨hS, hl, k⟩ := S
 refine ⟨_, hS, fun p hp => ⟨⟨_, SqL.of upd_same⟩, ?_⟩⟩
 refine CompP.list (xs := (ns.take 63).map V.int) (fun σ => ∃ v, σ = [v]) (fun _ => true) (fun v => match v with | .int k => .int (k % 10 ^ 60) | _ => .non) (SqL.of ?_) ⟨Option.none, rfl⟩ ?_ ?_ ?_
 ·rw [upd_same, show (63 : Int) = ((63 : Nat) : Int) from rfl, cut_none, List.map_take]
 ·rw [List.length_map, List.length_take, sizeLine_eq]; omega
 ·rintro x hx σ H5 R1 R2 ⟨v, rfl⟩ sm k1 k2
  obtain ⟨c, _, rfl⟩ := List.mem_map.mp hx
  walk_at "rd"
  refine ⟨⟨by decide, by decide, by decide⟩, by decide, k1 rfl _ _ ⟨_, rfl⟩ (Same.refl _)⟩
 ·intro Da H' hD sm e
  refine k Da H' ((Same.new hp).trans sm) ((Same.new hp).free hD) ?_
  rw [e, filt_true, List.map_map]
  unfold cells
  rw [if_neg hn, List.map_map]
  rfl
theorem ok__law_cells (T : Txt w K mg A D) : FnOk P w K mg base CX0 2 A._law_cells D._law_cells ["_law_script"] (sp__law_cells K) := by
 refine T.F__law_cells.ok sc__law_cells (fun vs H Q E h => ?_) (fun cdv A outer s H vs Q E hr h => ?_)
 ·obtain ⟨a, ns, rfl, _⟩ := h; rfl
 ·obtain ⟨a, ns, rfl, hS, hl, k⟩ := h
  refine ⟨_, (pss_cons (ps_if (PW.pt (pw_and (pt_cmpR (op_gt) (pe_callB (call_lenK (K := K)) (by rfl) T.b_len (by decide +kernel) (pa_cons (pv 0) pa_nil)) pe_int (nomark _)) (pw_and1 (pt_cmpR (op_eq) (pe_op op_mod (pe_ix (ix_listK (K := K)) (pv 0) pe_int (fun _ _ => rfl)) pe_int) pe_int (nomark _))))) (pss_cons (ps_set (i := 1) sc__law_cells.nd rfl (Or.inl rfl) (pe_callB (call_maxK rfl) (by rfl) T.b_max (by decide +kernel) (pa_cons (pe_callB (call_minK rfl) (by rfl) T.b_min (by decide +kernel) (pa_cons (pe_callB (call_lenK (K := K)) (by rfl) T.b_len (by decide +kernel) (pa_cons (pv 0) pa_nil)) (pa_cons pe_int pa_nil))) (pa_cons (pe_op op_add pe_int (pe_op op_mod (pe_op op_fdivB (pe_ix (ix_listK (K := K)) (pv 0) pe_int (fun _ _ => rfl)) pe_int) pe_int)) pa_nil))))
    (pss_one (ps_ret (pe_comp (cap := [Option.none, some 0]) (N' := ["_law_k", "_law_script"]) rfl (by walk_at "compok") (pi_range1 (by rfl) T.b_range (pa_cons (pv 1) pa_nil)) (fun _ _ _ _ => (pg_name (i := 0) (show (["_law_k", "_law_script"] : List Str).Nodup from by decide +kernel) rfl (Or.inl rfl) (Or.inr rfl))) (fun _ _ _ _ => pts_nil) (fun _ _ _ _ => (pe_call (ok__law_mixed (K := K) T) (hr.mono (by decide)) (by rfl) T.m__law_mixed T.k__law_mixed (b__law_mixed T) .nil pass0 (pa_cons (pe_ix (ix_listK (K := K)) (pv 1) (pe_op op_mod (pv 0) (pe_callB (call_lenK (K := K)) (by rfl) T.b_len (by decide +kernel) (pa_cons (pv 1) pa_nil))) (fun _ _ => rfl)) (pa_cons (pv 0) pa_nil)))))))) pss_nil)
   (pss_one (ps_ret (pe_comp (cap := [Option.none]) (N' := ["_law_cell"]) rfl (by walk_at "compok") (pi_listK (K := K) (pe_slice (sl_listK (K := K)) (pv 0) po_none (po_some pe_int))) (fun _ _ _ _ => (pg_name (i := 0) (show (["_law_cell"] : List Str).Nodup from by decide +kernel) rfl (Or.inl rfl) (Or.inr rfl))) (fun _ _ _ _ => pts_nil) (fun _ _ _ _ => (pe_op op_mod (pv 0) (pe_op op_pow pe_int pe_int))))))), ?_⟩
  walk_at "rda"
  refine ⟨_, .inl hS, ?_⟩
  rw [List.length_map]
  have small : SmallCells K Q H a ns := ⟨hS, hl, k⟩
  by_cases h0 : 0 < ns.length
  ·rw [if_pos (by omega)]
   have hh : (ns.map V.int)[0]? = some (.int (ns.headD 0)) := by
    cases ns with
    | nil => simp at h0
    | cons c r => rfl
   have hat : atI (ns.map V.int) 0 = some (.int (ns.headD 0)) := atI_nat (j := 0) hh
   refine ⟨_, hS, _, hat, _, rfl, by decide, ?_⟩
   by_cases h1 : ns.headD 0 % 2 = 1
   ·rw [if_pos h1]
    refine ⟨_, .inl hS, _, hS, _, hat, _, rfl, ⟨by decide, by decide⟩, by decide, ?_⟩
    rw [List.length_map]
    have hm := manyOf_bd ns
    have em : (if 3 + ns.headD 0 / 2 % 61 > if 63 < (ns.length : Int) then 63 else (ns.length : Int) then 3 + ns.headD 0 / 2 % 61 else if 63 < (ns.length : Int) then 63 else (ns.length : Int)) = manyOf ns := rfl
    rw [em]
    refine ⟨by omega, by omega, ?_⟩
    refine CompP.range (fun σ => ∃ v, σ = [v, some (.ref a)]) (fun _ => true) (fun v => match v with | .int k => .int (mixed (ns.getD (k.toNat % ns.length) 0) k) | _ => .non) ⟨Option.none, rfl⟩ (by rw [sizeLine_eq]; omega) ?_ ?_
    ·rintro i hi σ H5 R1 R2 ⟨v, rfl⟩ sm k1 k2
     walk_at "rda"
     refine ⟨_, .inl (sm.seq hS), ?_⟩
     have hj : ((0 : Int) + (i : Int)).toNat % ns.length < ns.length := Nat.mod_lt _ h0
     refine ⟨by rw [List.length_map]; omega, _, sm.seq hS, .int (ns.getD (((0 : Int) + (i : Int)).toNat % ns.length) 0), ?_, _, _, rfl, by omega, by omega, k1 rfl _ _ ⟨_, rfl⟩ (Same.refl _)⟩
     have ej : ((0 : Int) + (i : Int)) % ((ns.map V.int).length : Int) = ((((0 : Int) + (i : Int)).toNat % ns.length : Nat) : Int) := by
      rw [List.length_map, Int.zero_add, Int.toNat_natCast, Int.natCast_emod]
     rw [ej]
     refine atI_nat ?_
     generalize ((0 : Int) + (i : Int)).toNat % ns.length = j at hj
     rw [List.getElem?_map, List.getElem?_eq_getElem hj, List.getD_eq_getElem?_getD, List.getElem?_eq_getElem hj]
     rfl
    ·intro Da H' hD sm e
     refine k Da H' sm hD ?_
     rw [e, filt_true, List.map_map]
     unfold cells
     rw [if_pos ⟨h0, h1⟩, List.map_map]
     refine congrArg (fun l => some (HO.lst l)) (List.map_congr_left fun i _ => ?_)
     show V.int (mixed (ns.getD ((0 + (i : Int)).toNat % ns.length) 0) (0 + (i : Int))) = V.int (mixed (ns.getD (i % ns.length) 0) i)
     rw [Int.zero_add, Int.toNat_natCast]
   ·rw [if_neg h1]
    exact small.go (fun z => h1 z.2)
  ·rw [if_neg (by omega)]
   exact small.go (fun z => h0 z.1)
end
end My
namespace My
open PySem L2 PyProof.Rows
section
variable {P : Program} {w : World} {K : Fg_} {mg : Str -> Option Value} {base : Heap} {A : Adr} {D : Fds}
def sp__law_cell_at (K : Fg_) : Sp := fun vs H Q _ => ∃ (a : Addr) (ns : List Int) (k : Nat), vs = [.ref a, .int k] /\ SqL K H a (ns.map V.int) /\ Q (.int (ns.getD k 0)) H
theorem ok__law_cell_at (T : Txt w K mg A D) : FnOk P w K mg base CX0 1 A._law_cell_at D._law_cell_at ["_law_script", "_law_k"] (sp__law_cell_at K) := by
 refine T.F__law_cell_at.ok sc__law_cell_at (fun vs H Q E h => ?_) (fun cdv A outer s H vs Q E hr h => ?_)
 ·obtain ⟨a, ns, k', rfl, _⟩ := h; rfl
 ·obtain ⟨a, ns, k', rfl, hS, k⟩ := h
  refine ⟨_, (pss_cons (ps_if (pt_cmpR (op_lt) (pv 1) (pe_callB (call_lenK (K := K)) (by rfl) T.b_len (by decide +kernel) (pa_cons (pv 0) pa_nil)) (nomark _)) (pss_one (ps_ret (pe_ix (ix_listK (K := K)) (pv 0) (pv 1) (fun _ _ => rfl)))) pss_nil)
   (pss_one (ps_ret pe_int))), ?_⟩
  walk_at "rda"
  refine ⟨_, .inl hS, ?_⟩
  rw [List.length_map]
  by_cases h : k' < ns.length
  ·rw [if_pos (by omega)]
   refine ⟨_, hS, _, atI_nat (j := k') (v := .int (ns.getD k' 0)) ?_, k⟩
   rw [List.getElem?_map, List.getElem?_eq_getElem h, List.getD_eq_getElem?_getD, List.getElem?_eq_getElem h]
   rfl
  ·rw [if_neg (by omega)]
   rw [List.getD_eq_getElem?_getD, List.getElem?_eq_none (by omega)] at k
   exact k
end
end My
namespace My
open PySem L2 PyProof.Rows
section
variable {P : Program} {w : World} {K : Fg_} {mg : Str -> Option Value} {base : Heap} {A : Adr} {D : Fds}
theorem ok__law_digits (T : Txt w K mg A D) : FnOk P w K mg base CX0 1 A._law_digits D._law_digits ["_law_cell", "_law_bases"] (sp__law_digits K) := by
 refine T.F__law_digits.ok sc__law_digits (fun vs H Q E h => ?_) (fun cdv A outer s H vs Q E hr h => ?_)
 ·obtain ⟨c, l, bs, rfl, _⟩ := h; rfl
 ·obtain ⟨c, l, bs, rfl, hS, hb, hl, k⟩ := h
  refine ⟨_, (pss_cons (ps_set (i := 2) sc__law_digits.nd rfl (Or.inl rfl) (pe_lst pa_nil))
   (pss_cons (ps_for PassesOwn.never rfl (pi_listK (K := K) (pv 1)) (pg_name (i := 3) sc__law_digits.nd rfl (Or.inl rfl))
    (pss_cons (ps_expr (pe_bmK (K := K) PySem.F.plainAttrs_list PySem.F.slot_list_append PySem.F.type_list_append mt_append (pv 2) (pa_cons (pe_op op_mod (pv 0) (pv 3)) pa_nil)))
    (pss_one (ps_set (i := 0) sc__law_digits.nd rfl (Or.inl rfl) (pe_op op_fdivB (pv 0) (pv 3))))))
   (pss_one (ps_ret (pv 2))))), ?_⟩
  walk_at "rd"
  refine ⟨Nat.zero_le _, fun p hp => ?_⟩
  refine ⟨⟨_, (Same.new hp).seq hS⟩, ForP.list (K := K) (a := l) (xs := bs.map V.int) (fun i σ H2 => ∃ v, σ = [some (.int (aftr c (bs.take i))), some (.ref l), some (.ref p), v] /\ Same H H2 /\ H2 p = some (.lst ((digs c (bs.take i)).map V.int)))
   ⟨Option.none, rfl, Same.new hp, upd_same⟩ (fun i σ H2 _ ⟨_, _, s2, _⟩ => s2.seq hS) ?_ ?_⟩
  ·rintro i y σ H2 hi ⟨v, rfl, s2, h2⟩
   obtain ⟨b, rfl, hbi⟩ := map_get hi
   have hil : i < bs.length := (List.getElem?_eq_some_iff.mp hbi).1
   have hbm : CDivB 0 b := hb b (List.mem_of_getElem? hbi)
   have ht : bs.take (i + 1) = bs.take i ++ [b] := by rw [List.take_add_one, hbi]; rfl
   walk_at "rd"
   refine ⟨tyL (SqL.of h2), hbm.1, _, h2, ?_, hbm, by rw [ht, aftr_snoc], s2.upd hp, ?_⟩
   ·rw [List.length_map, digs_length, List.length_take]
    exact small1000 (by omega)
   ·rw [upd_same, ht, digs_snoc, List.map_append]
    rfl
  ·rintro σ H2 ⟨v, rfl, s2, h2⟩
   rw [List.length_map, List.take_length] at h2
   walk_at "rd"
   exact k p H2 s2 hp h2
end
end My
namespace My
open PySem L2 PyProof.Rows
section
variable {P : Program} {w : World} {K : Fg_} {mg : Str -> Option Value} {base : Heap} {A : Adr} {D : Fds}
theorem cut_from (xs : List V) (n : Nat) : cutV xs (some (n : Int)) none = xs.drop n := by
 unfold cutV
 rw [HT.sIx_none, HT.sIx_nat]
 rcases Nat.le_total n xs.length with h | h
 ·rw [Nat.min_eq_left h, List.take_of_length_le (by rw [List.length_drop]; exact Nat.le_refl _)]
 ·rw [Nat.min_eq_right h, List.drop_of_length_le (Nat.le_refl _), List.drop_of_length_le h, List.take_nil]
theorem ap_rRep {l : Addr} {k : Int} {H : Hp} {Q : VK} : rRep (.ref l) (.int k) H Q = ∃ xs, H l = some (.lst xs) /\ -(2 ^ 63) <= k /\ k < 2 ^ 63 /\ xs.length * k.toNat <= sizeLine /\ ∀ p, H p = none -> Q (.ref p) (upd H p (.lst (List.replicate k.toNat xs).flatten)) := by simp [rRep]
end
end My
namespace My
open PySem L2 PyProof.Rows
section
variable {P : Program} {w : World} {K : Fg_} {mg : Str -> Option Value} {base : Heap} {A : Adr} {D : Fds}
def Nm (z : Str) : Prop := 1 <= z.length /\ z.length <= 8 /\ ∀ c ∈ z.cps.toList, 97 <= c /\ c <= 122
def sp_is_whole_number : Sp := fun vs H Q _ => ∃ i : Int, vs = [.int i] /\ Q (.bl true) H
theorem ok_is_whole_number (T : Txt w K mg A D) : FnOk P w K mg base CX0 1 A.is_whole_number D.is_whole_number ["value"] sp_is_whole_number := by
 refine T.F_is_whole_number.ok sc_is_whole_number (fun vs H Q E h => ?_) (fun cdv A outer s H vs Q E hr h => ?_)
 ·obtain ⟨i, rfl, _⟩ := h; rfl
 ·obtain ⟨i, rfl, k⟩ := h
  refine ⟨_, (pss_one (ps_ret (pe_and (pe_callB (call_isTK (K := K)) (by rfl) T.b_isinstance (by decide +kernel) (pa_cons (pv 0) (pa_cons (pe_ty "int" (by rfl) T.b_int (by decide +kernel)) pa_nil))) (pe_one (pe_not (pe_callB (call_isTK (K := K)) (by rfl) T.b_isinstance (by decide +kernel) (pa_cons (pv 0) (pa_cons (pe_ty "bool" (by rfl) T.b_bool (by decide +kernel)) pa_nil)))))))), ?_⟩
  walk_at "rd"
  refine ⟨_, .int i, true, by with_unfolding_all rfl, ?_⟩
  walk_at "rd"
  refine ⟨_, .int i, false, by with_unfolding_all rfl, ?_⟩
  walk_at "rd"
  exact k
def sp_check_number : Sp := fun vs H Q _ => ∃ (z : Str) (i lo hi : Int), vs = [.str z, .int i, .int lo, .int hi] /\ lo <= i /\ i <= hi /\ Q .non H
theorem ok_check_number (T : Txt w K mg A D) : FnOk P w K mg base CX0 2 A.check_number D.check_number ["what", "value", "least", "most"] sp_check_number := by
 refine T.F_check_number.ok sc_check_number (fun vs H Q E h => ?_) (fun cdv A outer s H vs Q E hr h => ?_)
 ·obtain ⟨z, i, lo, hi, rfl, _⟩ := h; rfl
 ·obtain ⟨z, i, lo, hi, rfl, h1, h2, k⟩ := h
  refine ⟨_, (pss_one (ps_if (PW.pt (pw_or (pt_not (pt_val (pe_call (ok_is_whole_number (K := K) T) (hr.mono (by decide)) (by rfl) T.m_is_whole_number T.k_is_whole_number (b_is_whole_number T) .nil pass0 (pa_cons (pv 1) pa_nil)))) (pw_or (pt_cmpR (op_lt) (pv 1) (pv 2) (nomark _)) (pw_or1 (pt_cmpR (op_gt) (pv 1) (pv 3) (nomark _)))))) (pss_one (ps_never)) pss_nil)), ?_⟩
  walk_at "rda"
  refine ⟨i, rfl, ?_⟩
  walk_at "rda"
  rw [if_neg (by omega), if_neg (by omega)]
  exact k
def sp_is_name : Sp := fun vs H Q _ => ∃ z : Str, vs = [.str z] /\ Nm z /\ ∀ H', Same H H' -> Q (.bl true) H'
theorem ok_is_name (T : Txt w K mg A D) : FnOk P w K mg base CX0 1 A.is_name D.is_name ["value"] sp_is_name := by
 refine T.F_is_name.ok sc_is_name (fun vs H Q E h => ?_) (fun cdv A outer s H vs Q E hr h => ?_)
 ·obtain ⟨z, rfl, _⟩ := h; rfl
 ·obtain ⟨z, rfl, ⟨n1, n2, n3⟩, k⟩ := h
  refine ⟨_, (pss_cons (ps_if (PW.pt (pw_or (pt_not (pt_val (pe_callB (call_isTK (K := K)) (by rfl) T.b_isinstance (by decide +kernel) (pa_cons (pv 0) (pa_cons (pe_ty "str" (by rfl) T.b_str (by decide +kernel)) pa_nil))))) (pw_or (pt_cmpR (op_lt) (pe_callB call_len_str (by rfl) T.b_len (by decide +kernel) (pa_cons (pv 0) pa_nil)) pe_int (nomark _)) (pw_or1 (pt_cmpR (op_gt) (pe_callB call_len_str (by rfl) T.b_len (by decide +kernel) (pa_cons (pv 0) pa_nil)) (pe_glob (v := V.int 8) (by rfl) T.g_MOST_LETTERS ⟨_, rfl⟩) (nomark _)))))) (pss_one (ps_ret pe_bl)) pss_nil)
   (pss_one (ps_ret (pe_callB (call_allK (K := K) rfl) (by rfl) T.b_all (by decide +kernel) (pa_cons (pe_comp (cap := [Option.none]) (N' := ["sign"]) rfl (by walk_at "compok") (pi_str (pv 0)) (fun _ _ _ _ => (pg_name (i := 0) (show (["sign"] : List Str).Nodup from by decide +kernel) rfl (Or.inl rfl) (Or.inr rfl))) (fun _ _ _ _ => pts_nil) (fun _ _ _ _ => (pe_chain (op_le_str) (op_le_str) pe_str (pv 0) pe_str))) pa_nil))))), ?_⟩
  walk_at "rda"
  refine ⟨_, .str z, true, by with_unfolding_all rfl, ?_⟩
  walk_at "rda"
  have hz : z.length <= sizeLine := by rw [sizeLine_eq]; omega
  refine ⟨hz, ?_⟩
  rw [if_neg (by omega)]
  refine ⟨hz, ?_⟩
  rw [if_neg (by omega)]
  refine CompP.str (fun σ => ∃ v, σ = [v]) (fun _ => true) (fun _ => .bl true) ⟨Option.none, rfl⟩ hz ?_ ?_
  ·rintro x hx σ H5 R1 R2 ⟨v, rfl⟩ sm k1 k2
   obtain ⟨c, hc, rfl⟩ := List.mem_map.mp hx
   obtain ⟨c1, c2⟩ := n3 c hc
   walk_at "rd"
   have ea : (Str.ofString "a").cps.toList = [97] := by decide +kernel
   have ez : (Str.ofString "z").cps.toList = [122] := by decide +kernel
   rw [ea, ez]
   have h1 : ¬ [c] < [97] := fun h => by
    rcases List.cons_lt_cons_iff.mp h with h | h
    ·omega
    ·exact absurd h.2 (List.not_lt_nil _)
   have h2 : ¬ [122] < [c] := fun h => by
    rcases List.cons_lt_cons_iff.mp h with h | h
    ·omega
    ·exact absurd h.2 (List.not_lt_nil _)
   rw [if_pos h1, decide_eq_false h2]
   exact k1 rfl _ _ ⟨_, rfl⟩ (Same.refl _)
  ·intro Da H' hD sm e
   rw [filt_true] at e
   walk_at "rda"
   refine ⟨(L2.signs z).map fun _ => true, SqL.of (by rw [e, List.map_map]; rfl), ?_⟩
   have : ((L2.signs z).map fun _ => true).all id = true := by simp
   rw [this]
   exact k H' sm
def sp_check_name : Sp := fun vs H Q _ => ∃ (t z : Str), vs = [.str t, .str z] /\ Nm z /\ ∀ H', Same H H' -> Q .non H'
theorem ok_check_name (T : Txt w K mg A D) : FnOk P w K mg base CX0 2 A.check_name D.check_name ["what", "value"] sp_check_name := by
 refine T.F_check_name.ok sc_check_name (fun vs H Q E h => ?_) (fun cdv A outer s H vs Q E hr h => ?_)
 ·obtain ⟨t, z, rfl, _⟩ := h; rfl
 ·obtain ⟨t, z, rfl, hn, k⟩ := h
  refine ⟨_, (pss_one (ps_if (pt_not (pt_val (pe_call (ok_is_name (K := K) T) (hr.mono (by decide)) (by rfl) T.m_is_name T.k_is_name (b_is_name T) .nil pass0 (pa_cons (pv 1) pa_nil)))) (pss_one (ps_never)) pss_nil)), ?_⟩
  walk_at "rda"
  refine ⟨z, rfl, hn, fun H' sm => ?_⟩
  walk_at "rda"
  exact k H' sm
def sp_check_trade : Sp := fun vs H Q _ => ∃ (p r f : Int), vs = [.int p, .int r, .int f] /\ (1 <= p /\ p <= 1000000000) /\ (0 <= r /\ r <= 1000000000) /\ (0 <= f /\ f <= 1000000000) /\ Q .non H
theorem ok_check_trade (T : Txt w K mg A D) : FnOk P w K mg base CX0 3 A.check_trade D.check_trade ["pieces", "price", "fee"] sp_check_trade := by
 refine T.F_check_trade.ok sc_check_trade (fun vs H Q E h => ?_) (fun cdv A outer s H vs Q E hr h => ?_)
 ·obtain ⟨p, r, f, rfl, _⟩ := h; rfl
 ·obtain ⟨p, r, f, rfl, h1, h2, h3, k⟩ := h
  refine ⟨_, (pss_cons (ps_expr (pe_call (ok_check_number (K := K) T) (hr.mono (by decide)) (by rfl) T.m_check_number T.k_check_number (b_check_number T) .nil pass0 (pa_cons pe_str (pa_cons (pv 0) (pa_cons pe_int (pa_cons (pe_glob (v := V.int 1000000000) (by rfl) T.g_MOST_PIECES ⟨_, rfl⟩) pa_nil))))))
   (pss_cons (ps_expr (pe_call (ok_check_number (K := K) T) (hr.mono (by decide)) (by rfl) T.m_check_number T.k_check_number (b_check_number T) .nil pass0 (pa_cons pe_str (pa_cons (pv 1) (pa_cons pe_int (pa_cons (pe_glob (v := V.int 1000000000) (by rfl) T.g_MOST_PRICE ⟨_, rfl⟩) pa_nil))))))
   (pss_one (ps_expr (pe_call (ok_check_number (K := K) T) (hr.mono (by decide)) (by rfl) T.m_check_number T.k_check_number (b_check_number T) .nil pass0 (pa_cons pe_str (pa_cons (pv 2) (pa_cons pe_int (pa_cons (pe_glob (v := V.int 1000000000) (by rfl) T.g_MOST_FEE ⟨_, rfl⟩) pa_nil))))))))), ?_⟩
  walk_at "rda"
  refine ⟨_, _, _, _, rfl, h1.1, h1.2, ?_⟩
  walk_at "rda"
  refine ⟨_, _, _, _, rfl, h2.1, h2.2, ?_⟩
  walk_at "rda"
  refine ⟨_, _, _, _, rfl, h3.1, h3.2, ?_⟩
  exact k
theorem putF_at {f : Str} {v : V} {fs : List (Str × V)} (ns : List Str) (e : fs.map (·.1) = ns) (h : ns.contains f = false) : putF f v fs = fs ++ [(f, v)] := putF_new f v (e ▸ h)
def fsE (d n : Int) (w : Str) : List (Str × V) := [("day", .int d), ("number", .int n), ("ware", .str w)]
structure Base (d n : Int) (w : Str) : Prop where
 d0 : 0 <= d
 d1 : d <= 1000000
 n0 : 0 <= n
 n1 : n <= 1000000
 w : Nm w
structure CE (K : Fg_) (C : Addr) : Prop where
 c : Cls K C
 d : NoAttr K C "day"
 n : NoAttr K C "number"
 w : NoAttr K C "ware"
structure New (B H : Hp) (x : Addr) (C dx : Addr) (fs : List (Str × V)) : Prop where
 s : Same B H
 n : B x = Option.none
 h : H x = some (.ins C dx fs)
theorem New.put {B H : Hp} {x C dx : Addr} {fs gs : List (Str × V)} (h : New B H x C dx fs) (e : gs = gs) : New B (upd H x (.ins C dx gs)) x C dx gs := ⟨h.s.upd h.n, h.n, upd_same⟩
theorem New.same {B H H' : Hp} {x C dx : Addr} {fs : List (Str × V)} (h : New B H x C dx fs) (e : Same H H') : New B H' x C dx fs := ⟨h.s.trans e, h.n, e _ _ h.h⟩
def sp_Entry___init__ (K : Fg_) : Sp := fun vs H Q _ => ∃ (x : Addr) (d n : Int) (w : Str) (B : Hp) (C dx : Addr), vs = [.ref x, .int d, .int n, .str w] /\ New B H x C dx [] /\ CE K C /\ Base d n w /\
 ∀ H', New B H' x C dx (fsE d n w) -> Q .non H'
theorem ok_Entry___init__ (T : Txt w K mg A D) : FnOk P w K mg base CX0 3 A.Entry___init__ D.Entry___init__ ["self", "day", "number", "ware"] (sp_Entry___init__ K) := by
 refine T.F_Entry___init__.ok sc_Entry___init__ (fun vs H Q E h => ?_) (fun cdv A outer s H vs Q E hr h => ?_)
 ·obtain ⟨x, d, n, w, B, C, dx, rfl, _⟩ := h; rfl
 ·obtain ⟨x, d, n, w, B, C, dx, rfl, hN, hC, hB, k⟩ := h
  refine ⟨_, (pss_cons (ps_expr (pe_call (ok_check_number (K := K) T) (hr.mono (by decide)) (by rfl) T.m_check_number T.k_check_number (b_check_number T) .nil pass0 (pa_cons pe_str (pa_cons (pv 1) (pa_cons pe_int (pa_cons (pe_glob (v := V.int 1000000) (by rfl) T.g_MOST_DAY ⟨_, rfl⟩) pa_nil))))))
   (pss_cons (ps_expr (pe_call (ok_check_number (K := K) T) (hr.mono (by decide)) (by rfl) T.m_check_number T.k_check_number (b_check_number T) .nil pass0 (pa_cons pe_str (pa_cons (pv 2) (pa_cons pe_int (pa_cons (pe_glob (v := V.int 1000000) (by rfl) T.g_MOST_NUMBER ⟨_, rfl⟩) pa_nil))))))
   (pss_cons (ps_expr (pe_call (ok_check_name (K := K) T) (hr.mono (by decide)) (by rfl) T.m_check_name T.k_check_name (b_check_name T) .nil pass0 (pa_cons pe_str (pa_cons (pv 3) pa_nil))))
   (pss_cons (ps_fldK (K := K) (pv 0) (pv 1) rfl)
   (pss_cons (ps_fldK (K := K) (pv 0) (pv 2) rfl)
   (pss_one (ps_fldK (K := K) (pv 0) (pv 3) rfl))))))), ?_⟩
  walk_at "rda"
  refine ⟨_, _, _, _, rfl, hB.d0, hB.d1, ?_⟩
  walk_at "rda"
  refine ⟨_, _, _, _, rfl, hB.n0, hB.n1, ?_⟩
  walk_at "rda"
  refine ⟨_, _, rfl, hB.w, fun H' sm => ?_⟩
  walk_at "rda"
  have hN := hN.same sm
  refine ⟨C, dx, _, hN.h, hC.c, hC.d, by decide, ?_⟩
  rw [putF_new _ _ (by decide +kernel)]
  have hN := hN.put (gs := [] ++ [(Str.ofString "day", V.int d)]) rfl
  refine ⟨C, dx, _, hN.h, hC.c, hC.n, by simp, ?_⟩
  rw [putF_at (f := Str.ofString "number") ["day"] (by rfl) (by decide +kernel)]
  have hN := hN.put (gs := ([] ++ [(Str.ofString "day", V.int d)]) ++ [(Str.ofString "number", V.int n)]) rfl
  refine ⟨C, dx, _, hN.h, hC.c, hC.w, by simp, ?_⟩
  rw [putF_at (f := Str.ofString "ware") ["day", "number"] (by rfl) (by decide +kernel)]
  exact k _ (hN.put rfl)
end
end My
namespace My
open PySem L2 PyProof.Rows
section
variable {P : Program} {w : World} {K : Fg_} {mg : Str -> Option Value} {base : Heap} {A : Adr} {D : Fds}
abbrev Rs := List (Addr × Int × Int)
def refs (rs : Rs) : List V := rs.map fun r => V.ref r.1
def Lots (H : Hp) (rs : Rs) : Prop := ∀ r ∈ rs, H r.1 = some (.tup [.int r.2.1, .int r.2.2])
theorem Lots.same {H H' : Hp} {rs : Rs} (h : Lots H rs) (s : Same H H') : Lots H' rs := fun r hr => s _ _ (h r hr)
structure GoodN (rs : Rs) (p : Int) : Prop where
 l : rs.length <= 5
 b : ∀ r ∈ rs, 0 <= r.2.1 /\ r.2.1 <= 1000000 /\ 1 <= r.2.2 /\ r.2.2 <= p
 u : (rs.map (·.2.1)).Nodup
 s : (rs.map (·.2.2)).sum = p
def NL (H : Hp) (v : V) : Option Rs -> Prop
 | Option.none => v = .non
 | some rs => ∃ l, v = .ref l /\ H l = some (.lst (refs rs)) /\ Lots H rs
def GoodO (p : Int) : Option Rs -> Prop
 | Option.none => True
 | some rs => GoodN rs p
theorem NL.same {H H' : Hp} {v : V} {o : Option Rs} (h : NL H v o) (s : Same H H') : NL H' v o := by
 cases o with
 | none => exact h
 | some rs => obtain ⟨l, e, h1, h2⟩ := h; exact ⟨l, e, s _ _ h1, h2.same s⟩
theorem putK_len {κ : Type} [DecidableEq κ] (kvs : List (κ × V)) (k : κ) (v : V) : (putK kvs k v).length <= kvs.length + 1 := by
 unfold putK
 split
 ·rw [List.length_map]; omega
 ·rw [List.length_append]; exact Nat.le_refl _
theorem refs_get {rs : Rs} {i : Nat} {y : V} (h : (refs rs)[i]? = some y) : ∃ r, rs[i]? = some r /\ y = .ref r.1 := by
 unfold refs at h
 rw [List.getElem?_map] at h
 cases e : rs[i]? with
 | none => rw [e] at h; cases h
 | some r => rw [e] at h; exact ⟨r, rfl, (Option.some.inj h).symm⟩
theorem fresh_at {rs : Rs} {i : Nat} {r : Addr × Int × Int} (h : (rs.map (·.2.1)).Nodup) (e : rs[i]? = some r) : r.2.1 ∉ (rs.take i).map (·.2.1) := by
 intro hm
 have hl : i < rs.length := (List.getElem?_eq_some_iff.mp e).1
 have h2 : rs.map (·.2.1) = (rs.take i).map (·.2.1) ++ (rs.drop i).map (·.2.1) := by rw [<- List.map_append, List.take_append_drop]
 rw [h2] at h
 have h3 := (List.nodup_append.mp h).2.2 _ hm r.2.1 (by
  rw [List.mem_map]
  exact ⟨r, by rw [List.mem_iff_getElem?]; exact ⟨0, by rw [List.getElem?_drop]; exact e⟩, rfl⟩)
 exact h3 rfl
theorem refs_len (rs : Rs) : (refs rs).length = rs.length := by unfold refs; rw [List.length_map]
def secs (H : Hp) : V -> V
 | .ref a => match H a with
  | some (.tup [_, x]) => x
  | _ => .non
 | _ => .non
theorem secs_at {H : Hp} {r : Addr × Int × Int} (h : H r.1 = some (.tup [.int r.2.1, .int r.2.2])) : secs H (.ref r.1) = .int r.2.2 := by
 show (match H r.1 with | some (.tup [_, x]) => x | _ => .non) = _
 rw [h]
theorem secs_refs {H : Hp} {rs : Rs} (h : Lots H rs) : (refs rs).map (secs H) = rs.map fun r => V.int r.2.2 := by
 unfold refs
 rw [List.map_map]
 exact List.map_congr_left fun r hr => secs_at (h r hr)
def sp_check_named (K : Fg_) : Sp := fun vs H Q _ => ∃ (v : V) (p : Int) (o : Option Rs), vs = [v, .int p] /\ NL H v o /\ GoodO p o /\ ∀ H', Same H H' -> Q .non H'
theorem ok_check_named (T : Txt w K mg A D) : FnOk P w K mg base CX0 3 A.check_named D.check_named ["named", "pieces"] (sp_check_named K) := by
 refine T.F_check_named.ok sc_check_named (fun vs H Q E h => ?_) (fun cdv A outer s H vs Q E hr h => ?_)
 ·obtain ⟨v, p, o, rfl, _⟩ := h; rfl
 ·obtain ⟨v, p, o, rfl, hn, hg, k⟩ := h
  refine ⟨_, (pss_cons (ps_if (pt_cmpR (op_isN) (pv 0) pe_non (nomark _)) (pss_one (ps_retN)) pss_nil)
   (pss_cons (ps_if (pt_not (pt_val (pe_callB (call_isTK (K := K)) (by rfl) T.b_isinstance (by decide +kernel) (pa_cons (pv 0) (pa_cons (pe_ty "list" (by rfl) T.b_list (by decide +kernel)) pa_nil))))) (pss_one (ps_never)) pss_nil)
   (pss_cons (ps_set (i := 2) sc_check_named.nd rfl (Or.inl rfl) pe_dnewK)
   (pss_cons (ps_for PassesOwn.never rfl (pi_listK (K := K) (pv 0)) (pg_tupK (K := K) (n := 2) rfl (pgs_cons (pg_name (i := 3) sc_check_named.nd rfl (Or.inl rfl)) (pgs_cons (pg_name (i := 4) sc_check_named.nd rfl (Or.inl rfl)) pgs_nil)))
    (pss_cons (ps_expr (pe_call (ok_check_number (K := K) T) (hr.mono (by decide)) (by rfl) T.m_check_number T.k_check_number (b_check_number T) .nil pass0 (pa_cons pe_str (pa_cons (pv 3) (pa_cons pe_int (pa_cons (pe_glob (v := V.int 1000000) (by rfl) T.g_MOST_NUMBER ⟨_, rfl⟩) pa_nil))))))
    (pss_cons (ps_expr (pe_call (ok_check_number (K := K) T) (hr.mono (by decide)) (by rfl) T.m_check_number T.k_check_number (b_check_number T) .nil pass0 (pa_cons pe_str (pa_cons (pv 4) (pa_cons pe_int (pa_cons (pv 1) pa_nil))))))
    (pss_cons (ps_if (pt_cmpR (op_inDict (hu_of hr)) (pv 3) (pv 2) (by with_unfolding_all rfl)) (pss_one (ps_never)) pss_nil)
    (pss_one (ps_dput (hu_of hr) (pv 2) (pv 3) pe_bl rfl))))))
   (pss_one (ps_if (pt_cmpR (op_ne) (pe_callB (call_sumK (K := K) rfl) (by rfl) T.b_sum (by decide +kernel) (pa_cons (pe_comp (cap := [Option.none]) (N' := ["pair"]) rfl (by walk_at "compok") (pi_listK (K := K) (pv 0)) (fun _ _ _ _ => (pg_name (i := 0) (show (["pair"] : List Str).Nodup from by decide +kernel) rfl (Or.inl rfl) (Or.inr rfl))) (fun _ _ _ _ => pts_nil) (fun _ _ _ _ => (pe_ix (ix_tupK (K := K)) (pv 0) pe_int (fun _ _ => rfl)))) pa_nil)) (pv 1) (nomark _)) (pss_one (ps_never)) pss_nil)))))), ?_⟩
  cases o with
  | none =>
   cases hn
   walk_at "rda"
   exact k H (Same.refl H)
  | some rs =>
   obtain ⟨l, rfl, hl, hL⟩ := hn
   walk_at "rda"
   refine ⟨_, .lst hl, true, by with_unfolding_all rfl, ?_⟩
   walk_at "rda"
   intro sd hsd
   refine ⟨⟨_, (Same.new hsd).seq (SqL.of hl)⟩, ?_⟩
   refine ForP.list (K := K) (xs := refs rs) (fun i σ H2 => ∃ v3 v4 kvs, σ = [some (.ref l), some (.int p), some (.ref sd), v3, v4] /\ Same H H2 /\ H2 sd = some (.dK kvs) /\ kvs.length <= i /\ ∀ j : Int, j ∉ (rs.take i).map (·.2.1) -> valV kvs (Sum.inl j) = Option.none)
    ⟨Option.none, Option.none, [], rfl, Same.new hsd, upd_same, Nat.le_refl _, fun _ _ => rfl⟩ (fun i σ H2 _ ⟨_, _, _, _, s2, _⟩ => s2.seq (SqL.of hl)) ?_ ?_
   ·rintro i y σ H2 hi ⟨v3, v4, kvs, rfl, s2, h2, hk, hv⟩
    obtain ⟨r, hri, rfl⟩ := refs_get hi
    have hil : i < rs.length := (List.getElem?_eq_some_iff.mp hri).1
    have hrm : r ∈ rs := List.mem_of_getElem? hri
    have hb := hg.b r hrm
    have hl5 := hg.l
    walk_at "rd"
    refine ⟨_, SqT.of (s2 _ _ (hL r hrm)), rfl, ?_⟩
    walk_at "rd"
    refine ⟨_, _, _, _, rfl, hb.1, hb.2.1, ?_⟩
    walk_at "rd"
    refine ⟨_, _, _, _, rfl, hb.2.2.1, hb.2.2.2, ?_⟩
    walk_at "rda"
    have hno := hv _ (fresh_at hg.u hri)
    refine ⟨_, DGet.k (k := Sum.inl r.2.1) h2, ?_⟩
    rw [hno]
    simp only [Option.isSome_none, Bool.false_eq_true, if_false]
    refine ⟨_, DPut.k (k := Sum.inl r.2.1) h2 (by rw [sizeLine_eq]; omega), s2.upd hsd, _, upd_same, ?_, ?_⟩
    ·have := putK_len kvs (Sum.inl r.2.1 : Key) (V.bl true)
     omega
    ·intro j hj
     rw [List.take_add_one, hri, List.map_append, List.mem_append, not_or] at hj
     rw [valV_put, if_neg, hv j hj.1]
     intro e
     cases e
     exact hj.2 (by simp)
   ·rintro σ H2 ⟨v3, v4, kvs, rfl, s2, h2, hk, hv⟩
    walk_at "rda"
    refine ⟨⟨_, s2.seq (SqL.of hl)⟩, ?_⟩
    refine CompP.list (xs := refs rs) (fun σ => ∃ v, σ = [v]) (fun _ => true) (secs H) (s2.seq (SqL.of hl)) ⟨Option.none, rfl⟩ (by rw [refs_len, sizeLine_eq]; have := hg.l; omega) ?_ ?_
    ·rintro x hx σ H5 R1 R2 ⟨v, rfl⟩ sm k1 k2
     obtain ⟨r, hrm, rfl⟩ := List.mem_map.mp hx
     walk_at "rd"
     refine ⟨_, SqT.of (sm _ _ (s2 _ _ (hL r hrm))), _, atI_nat (j := 1) rfl, ?_⟩
     have := k1 rfl [some (V.ref r.1)] H5 ⟨_, rfl⟩ (Same.refl _)
     rw [secs_at (hL r hrm)] at this
     exact this
    ·intro Da H' hD sm e
     rw [filt_true, secs_refs hL] at e
     walk_at "rda"
     refine ⟨rs.map (·.2.2), SqL.of (by rw [e, List.map_map]; rfl), ?_⟩
     rw [hg.s]
     walk_at "rda"
     exact k H' (s2.trans sm)
def sp_named_copy (K : Fg_) : Sp := fun vs H Q _ => ∃ (v : V) (o : Option Rs), vs = [v] /\ NL H v o /\ ∀ v' H', Same H H' -> NL H' v' o -> (∀ q, v' = .ref q -> H q = Option.none) -> Q v' H'
theorem ok_named_copy (T : Txt w K mg A D) : FnOk P w K mg base CX0 1 A.named_copy D.named_copy ["named"] (sp_named_copy K) := by
 refine T.F_named_copy.ok sc_named_copy (fun vs H Q E h => ?_) (fun cdv A outer s H vs Q E hr h => ?_)
 ·obtain ⟨v, o, rfl, _⟩ := h; rfl
 ·obtain ⟨v, o, rfl, hn, k⟩ := h
  refine ⟨_, (pss_one (ps_ret (pe_ifExp (pt_cmpR (op_isN) (pv 0) pe_non (nomark _)) pe_non (pe_callTy (call_listK (K := K)) (by rfl) T.b_list (by decide +kernel) (pa_cons (pv 0) pa_nil))))), ?_⟩
  cases o with
  | none =>
   cases hn
   walk_at "rda"
   exact k _ H (Same.refl H) rfl (fun q e => by cases e)
  | some rs =>
   obtain ⟨l, rfl, hl, hL⟩ := hn
   walk_at "rda"
   refine ⟨_, .inl (SqL.of hl), fun q hq => k _ _ (Same.new hq) ⟨q, rfl, upd_same, hL.same (Same.new hq)⟩ (fun q' e => by cases e; exact hq)⟩
def NT (H : Hp) (v : V) : Option Rs -> Prop
 | Option.none => v = .non
 | some rs => ∃ l, v = .ref l /\ H l = some (.tup (refs rs)) /\ Lots H rs
theorem NT.same {H H' : Hp} {v : V} {o : Option Rs} (h : NT H v o) (s : Same H H') : NT H' v o := by
 cases o with
 | none => exact h
 | some rs => obtain ⟨l, e, h1, h2⟩ := h; exact ⟨l, e, s _ _ h1, h2.same s⟩
def sp_named_told (K : Fg_) : Sp := fun vs H Q _ => ∃ (v : V) (o : Option Rs), vs = [v] /\ NL H v o /\ ∀ v' H', Same H H' -> NT H' v' o -> Q v' H'
theorem ok_named_told (T : Txt w K mg A D) : FnOk P w K mg base CX0 1 A.named_told D.named_told ["named"] (sp_named_told K) := by
 refine T.F_named_told.ok sc_named_told (fun vs H Q E h => ?_) (fun cdv A outer s H vs Q E hr h => ?_)
 ·obtain ⟨v, o, rfl, _⟩ := h; rfl
 ·obtain ⟨v, o, rfl, hn, k⟩ := h
  refine ⟨_, (pss_one (ps_ret (pe_ifExp (pt_cmpR (op_isN) (pv 0) pe_non (nomark _)) pe_non (pe_callTy (call_tupleK (K := K)) (by rfl) T.b_tuple (by decide +kernel) (pa_cons (pv 0) pa_nil))))), ?_⟩
  cases o with
  | none =>
   cases hn
   walk_at "rda"
   exact k _ H (Same.refl H) rfl
  | some rs =>
   obtain ⟨l, rfl, hl, hL⟩ := hn
   walk_at "rda"
   refine ⟨_, .inl ⟨SqL.of hl, fun q hq => k _ _ (Same.new hq) ⟨q, rfl, upd_same, hL.same (Same.new hq)⟩⟩⟩
end
end My
namespace My
open PySem L2 PyProof.Rows
section
variable {P : Program} {w : World} {K : Fg_} {mg : Str -> Option Value} {base : Heap} {A : Adr} {D : Fds}
theorem NL.updI {H : Hp} {v : V} {o : Option Rs} {x C dx : Addr} {fs : List (Str × V)} {u : HO} (h : NL H v o) (hx : H x = some (.ins C dx fs)) : NL (upd H x u) v o := by
 cases o with
 | none => exact h
 | some rs =>
  obtain ⟨l, e, h1, h2⟩ := h
  refine ⟨l, e, ?_, fun r hr => ?_⟩
  ·rw [upd_ne (fun z => by rw [z, hx] at h1; cases h1)]; exact h1
  ·have h3 := h2 r hr
   rw [upd_ne (fun z => by rw [z, hx] at h3; cases h3)]; exact h3
inductive Ent where
 | buy (d n : Int) (w : Str) (p r f : Int)
 | sell (d n : Int) (w : Str) (p r f : Int) (o : Option Rs)
 | gift (d n : Int) (w : Str) (p c s : Int)
 | give (d n : Int) (w : Str) (p : Int) (o : Option Rs)
 | split (d n : Int) (w : Str) (m f : Int)
 | part (d n : Int) (w u : Str) (s t : Int)
def Rg (lo hi x : Int) : Prop := lo <= x /\ x <= hi
def Ent.good : Ent -> Prop
 | .buy d n w p r f => Base d n w /\ Rg 1 1000000000 p /\ Rg 0 1000000000 r /\ Rg 0 1000000000 f
 | .sell d n w p r f o => Base d n w /\ Rg 1 1000000000 p /\ Rg 0 1000000000 r /\ Rg 0 1000000000 f /\ GoodO p o
 | .gift d n w p c s => Base d n w /\ Rg 1 1000000000 p /\ Rg 0 1000000000000000000 c /\ Rg 0 d s
 | .give d n w p o => Base d n w /\ Rg 1 1000000000 p /\ GoodO p o
 | .split d n w m f => Base d n w /\ Rg 1 1000 m /\ Rg 1 1000 f
 | .part d n w u s t => Base d n w /\ Nm u /\ u ≠ w /\ Rg 1 1000000 t /\ Rg 0 t s
def Ent.fs (nv : V) : Ent -> List (Str × V)
 | .buy d n w p r f => [("day", .int d), ("number", .int n), ("ware", .str w), ("pieces", .int p), ("price", .int r), ("fee", .int f), ("cost", .int (p * r + f))]
 | .sell d n w p r f _ => [("day", .int d), ("number", .int n), ("ware", .str w), ("pieces", .int p), ("price", .int r), ("fee", .int f), ("named", nv), ("proceeds", .int (p * r - f))]
 | .gift d n w p c s => [("day", .int d), ("number", .int n), ("ware", .str w), ("pieces", .int p), ("cost", .int c), ("since", .int s)]
 | .give d n w p _ => [("day", .int d), ("number", .int n), ("ware", .str w), ("pieces", .int p), ("named", nv)]
 | .split d n w m f => [("day", .int d), ("number", .int n), ("ware", .str w), ("many", .int m), ("of", .int f)]
 | .part d n w u s t => [("day", .int d), ("number", .int n), ("ware", .str w), ("other", .str u), ("share", .int s), ("whole", .int t)]
def Ent.word : Ent -> Str
 | .buy .. => "buy"
 | .sell .. => "sell"
 | .gift .. => "gift"
 | .give .. => "give"
 | .split .. => "split"
 | .part .. => "part"
def Ent.args (nv : V) : Ent -> List V
 | .buy d n w p r f => [.int d, .int n, .str w, .int p, .int r, .int f]
 | .sell d n w p r f _ => [.int d, .int n, .str w, .int p, .int r, .int f, nv]
 | .gift d n w p c s => [.int d, .int n, .str w, .int p, .int c, .int s]
 | .give d n w p _ => [.int d, .int n, .str w, .int p, nv]
 | .split d n w m f => [.int d, .int n, .str w, .int m, .int f]
 | .part d n w u s t => [.int d, .int n, .str w, .str u, .int s, .int t]
def Ent.lots : Ent -> Option Rs
 | .sell _ _ _ _ _ _ o => o
 | .give _ _ _ _ o => o
 | _ => Option.none
def Ent.cls (A : Adr) : Ent -> Addr
 | .buy .. => A.C_Buy
 | .sell .. => A.C_Sell
 | .gift .. => A.C_Gift
 | .give .. => A.C_Give
 | .split .. => A.C_Split
 | .part .. => A.C_Parting
def Made (A : Adr) (B H : Hp) (x : Addr) (e : Ent) : Prop := ∃ dx nv, New B H x (e.cls A) dx (e.fs nv) /\ NL H nv e.lots /\ ∀ q, nv = .ref q -> B q = Option.none
def IsE (A : Adr) (H : Hp) (x : Addr) (e : Ent) : Prop := ∃ dx nv, H x = some (.ins (e.cls A) dx (e.fs nv)) /\ NL H nv e.lots
theorem IsE.same {A : Adr} {H H' : Hp} {x : Addr} {e : Ent} (s : Same H H') : IsE A H x e -> IsE A H' x e := fun ⟨dx, nv, h, n⟩ => ⟨dx, nv, s _ _ h, n.same s⟩
def spInit (C : Addr) (A : Adr) (isK : Ent -> Bool) : Sp := fun vs H Q _ => ∃ (x : Addr) (e : Ent) (B : Hp) (dx : Addr) (nv : V), isK e = true /\ vs = .ref x :: e.args nv /\ New B H x (e.cls A) dx [] /\ e.good /\ NL B nv e.lots /\
 ∀ H', Made A B H' x e -> Q .non H'
def is_buy : Ent -> Bool := fun e => match e with | .buy .. => true | _ => false
theorem ce_Buy (T : Txt w K mg A D) : CE K A.C_Buy := ⟨T.cl_Buy, T.n_Buy_day, T.n_Buy_number, T.n_Buy_ware⟩
def is_sell : Ent -> Bool := fun e => match e with | .sell .. => true | _ => false
theorem ce_Sell (T : Txt w K mg A D) : CE K A.C_Sell := ⟨T.cl_Sell, T.n_Sell_day, T.n_Sell_number, T.n_Sell_ware⟩
def is_gift : Ent -> Bool := fun e => match e with | .gift .. => true | _ => false
theorem ce_Gift (T : Txt w K mg A D) : CE K A.C_Gift := ⟨T.cl_Gift, T.n_Gift_day, T.n_Gift_number, T.n_Gift_ware⟩
def is_give : Ent -> Bool := fun e => match e with | .give .. => true | _ => false
theorem ce_Give (T : Txt w K mg A D) : CE K A.C_Give := ⟨T.cl_Give, T.n_Give_day, T.n_Give_number, T.n_Give_ware⟩
def is_split : Ent -> Bool := fun e => match e with | .split .. => true | _ => false
theorem ce_Split (T : Txt w K mg A D) : CE K A.C_Split := ⟨T.cl_Split, T.n_Split_day, T.n_Split_number, T.n_Split_ware⟩
def is_part : Ent -> Bool := fun e => match e with | .part .. => true | _ => false
theorem ce_Parting (T : Txt w K mg A D) : CE K A.C_Parting := ⟨T.cl_Parting, T.n_Parting_day, T.n_Parting_number, T.n_Parting_ware⟩
theorem ok_Buy___init__ (T : Txt w K mg A D) : FnOk P w K mg base CX0 4 A.Buy___init__ D.Buy___init__ ["self", "day", "number", "ware", "pieces", "price", "fee"] (spInit A.C_Buy A is_buy) := by
 refine T.F_Buy___init__.ok sc_Buy___init__ (fun vs H Q E h => ?_) (fun cdv A' outer s H vs Q E hr h => ?_)
 ·obtain ⟨x, e, B, dx, nv, hk, rfl, _⟩ := h
  cases e <;> first | rfl | cases hk
 ·obtain ⟨x, e, B, dx, nv, hk, rfl, hN, hg, hv, k⟩ := h
  cases e with
  | sell => cases hk
  | gift => cases hk
  | give => cases hk
  | split => cases hk
  | part => cases hk
  | buy d n w p r f =>
  refine ⟨_, (pss_cons (ps_expr (pe_clsCall T.cf_Entry___init__ (ok_Entry___init__ (K := K) T) (hr.mono (by decide)) (by rfl) T.m_Entry T.F_Entry___init__.kp (b_Entry___init__ T) .nil pass0 (pa_cons (pv 0) (pa_cons (pv 1) (pa_cons (pv 2) (pa_cons (pv 3) pa_nil))))))
   (pss_cons (ps_expr (pe_call (ok_check_trade (K := K) T) (hr.mono (by decide)) (by rfl) T.m_check_trade T.k_check_trade (b_check_trade T) .nil pass0 (pa_cons (pv 4) (pa_cons (pv 5) (pa_cons (pv 6) pa_nil)))))
   (pss_cons (ps_fldK (K := K) (pv 0) (pv 4) rfl)
   (pss_cons (ps_fldK (K := K) (pv 0) (pv 5) rfl)
   (pss_cons (ps_fldK (K := K) (pv 0) (pv 6) rfl)
   (pss_one (ps_fldK (K := K) (pv 0) (pe_op op_add (pe_op op_mulU (pv 4) (pv 5)) (pv 6)) rfl))))))), ?_⟩
  simp only [Ent.args]
  walk_at "rda"
  refine ⟨x, d, n, w, B, _, dx, rfl, hN, ce_Buy T, hg.1, fun H1 hN => ?_⟩
  walk_at "rda"
  refine ⟨_, _, _, rfl, hg.2.1, hg.2.2.1, hg.2.2.2, ?_⟩
  walk_at "rda"
  refine ⟨_, dx, _, hN.h, T.cl_Buy, T.n_Buy_pieces, by simp [fsE], ?_⟩
  rw [putF_at (f := Str.ofString "pieces") ["day", "number", "ware"] (by rfl) (by decide +kernel)]
  have hN := hN.put (gs := (fsE d n w ++ [(Str.ofString "pieces", V.int p)])) rfl
  refine ⟨_, dx, _, hN.h, T.cl_Buy, T.n_Buy_price, by simp [fsE], ?_⟩
  rw [putF_at (f := Str.ofString "price") ["day", "number", "ware", "pieces"] (by rfl) (by decide +kernel)]
  have hN := hN.put (gs := ((fsE d n w ++ [(Str.ofString "pieces", V.int p)]) ++ [(Str.ofString "price", V.int r)])) rfl
  refine ⟨_, dx, _, hN.h, T.cl_Buy, T.n_Buy_fee, by simp [fsE], ?_⟩
  rw [putF_at (f := Str.ofString "fee") ["day", "number", "ware", "pieces", "price"] (by rfl) (by decide +kernel)]
  have hN := hN.put (gs := (((fsE d n w ++ [(Str.ofString "pieces", V.int p)]) ++ [(Str.ofString "price", V.int r)]) ++ [(Str.ofString "fee", V.int f)])) rfl
  refine ⟨CMulU.big (Nat.lt_of_le_of_lt (show p.natAbs <= 1000000000 from by have := hg.2.1; unfold Rg at this; omega) (by decide)) (Nat.lt_of_le_of_lt (show r.natAbs <= 1000000000 from by have := hg.2.2.1; unfold Rg at this; omega) (by decide)), ?_⟩
  refine ⟨_, dx, _, hN.h, T.cl_Buy, T.n_Buy_cost, by simp [fsE], ?_⟩
  rw [putF_at (f := Str.ofString "cost") ["day", "number", "ware", "pieces", "price", "fee"] (by rfl) (by decide +kernel)]
  have hN := hN.put (gs := ((((fsE d n w ++ [(Str.ofString "pieces", V.int p)]) ++ [(Str.ofString "price", V.int r)]) ++ [(Str.ofString "fee", V.int f)]) ++ [(Str.ofString "cost", V.int (p * r + f))])) rfl
  exact k _ ⟨dx, nv, hN, hv.same hN.s, fun q e => by cases hv; cases e⟩
theorem ok_Sell___init__ (T : Txt w K mg A D) : FnOk P w K mg base CX0 4 A.Sell___init__ D.Sell___init__ ["self", "day", "number", "ware", "pieces", "price", "fee", "named"] (spInit A.C_Sell A is_sell) := by
 refine T.F_Sell___init__.ok sc_Sell___init__ (fun vs H Q E h => ?_) (fun cdv A' outer s H vs Q E hr h => ?_)
 ·obtain ⟨x, e, B, dx, nv, hk, rfl, _⟩ := h
  cases e <;> first | rfl | cases hk
 ·obtain ⟨x, e, B, dx, nv, hk, rfl, hN, hg, hv, k⟩ := h
  cases e with
  | buy => cases hk
  | gift => cases hk
  | give => cases hk
  | split => cases hk
  | part => cases hk
  | sell d n w p r f o =>
  refine ⟨_, (pss_cons (ps_expr (pe_clsCall T.cf_Entry___init__ (ok_Entry___init__ (K := K) T) (hr.mono (by decide)) (by rfl) T.m_Entry T.F_Entry___init__.kp (b_Entry___init__ T) .nil pass0 (pa_cons (pv 0) (pa_cons (pv 1) (pa_cons (pv 2) (pa_cons (pv 3) pa_nil))))))
   (pss_cons (ps_expr (pe_call (ok_check_trade (K := K) T) (hr.mono (by decide)) (by rfl) T.m_check_trade T.k_check_trade (b_check_trade T) .nil pass0 (pa_cons (pv 4) (pa_cons (pv 5) (pa_cons (pv 6) pa_nil)))))
   (pss_cons (ps_expr (pe_call (ok_check_named (K := K) T) (hr.mono (by decide)) (by rfl) T.m_check_named T.k_check_named (b_check_named T) .nil pass0 (pa_cons (pv 7) (pa_cons (pv 4) pa_nil))))
   (pss_cons (ps_fldK (K := K) (pv 0) (pv 4) rfl)
   (pss_cons (ps_fldK (K := K) (pv 0) (pv 5) rfl)
   (pss_cons (ps_fldK (K := K) (pv 0) (pv 6) rfl)
   (pss_cons (ps_fldK (K := K) (pv 0) (pe_call (ok_named_copy (K := K) T) (hr.mono (by decide)) (by rfl) T.m_named_copy T.k_named_copy (b_named_copy T) .nil pass0 (pa_cons (pv 7) pa_nil)) rfl)
   (pss_one (ps_fldK (K := K) (pv 0) (pe_op op_sub (pe_op op_mulU (pv 4) (pv 5)) (pv 6)) rfl))))))))), ?_⟩
  simp only [Ent.args]
  walk_at "rda"
  refine ⟨x, d, n, w, B, _, dx, rfl, hN, ce_Sell T, hg.1, fun H1 hN => ?_⟩
  walk_at "rda"
  refine ⟨_, _, _, rfl, hg.2.1, hg.2.2.1, hg.2.2.2.1, ?_⟩
  walk_at "rda"
  refine ⟨_, _, _, rfl, hv.same hN.s, hg.2.2.2.2, fun H2 sm => ?_⟩
  have hN := hN.same sm
  walk_at "rda"
  refine ⟨_, dx, _, hN.h, T.cl_Sell, T.n_Sell_pieces, by simp [fsE], ?_⟩
  rw [putF_at (f := Str.ofString "pieces") ["day", "number", "ware"] (by rfl) (by decide +kernel)]
  have hN := hN.put (gs := (fsE d n w ++ [(Str.ofString "pieces", V.int p)])) rfl
  refine ⟨_, dx, _, hN.h, T.cl_Sell, T.n_Sell_price, by simp [fsE], ?_⟩
  rw [putF_at (f := Str.ofString "price") ["day", "number", "ware", "pieces"] (by rfl) (by decide +kernel)]
  have hN := hN.put (gs := ((fsE d n w ++ [(Str.ofString "pieces", V.int p)]) ++ [(Str.ofString "price", V.int r)])) rfl
  refine ⟨_, dx, _, hN.h, T.cl_Sell, T.n_Sell_fee, by simp [fsE], ?_⟩
  rw [putF_at (f := Str.ofString "fee") ["day", "number", "ware", "pieces", "price"] (by rfl) (by decide +kernel)]
  have hN := hN.put (gs := (((fsE d n w ++ [(Str.ofString "pieces", V.int p)]) ++ [(Str.ofString "price", V.int r)]) ++ [(Str.ofString "fee", V.int f)])) rfl
  refine ⟨_, _, rfl, hv.same hN.s, fun v' H3 sm hnl hq => ?_⟩
  have hb : ∀ q, v' = .ref q -> B q = Option.none := fun q e => hN.s.free (hq q e)
  have hN := hN.same sm
  walk_at "rda"
  have hnl := hnl.updI (u := .ins A.C_Sell dx ((((fsE d n w ++ [(Str.ofString "pieces", V.int p)]) ++ [(Str.ofString "price", V.int r)]) ++ [(Str.ofString "fee", V.int f)]) ++ [(Str.ofString "named", v')])) hN.h
  refine ⟨_, dx, _, hN.h, T.cl_Sell, T.n_Sell_named, by simp [fsE], ?_⟩
  rw [putF_at (f := Str.ofString "named") ["day", "number", "ware", "pieces", "price", "fee"] (by rfl) (by decide +kernel)]
  have hN := hN.put (gs := ((((fsE d n w ++ [(Str.ofString "pieces", V.int p)]) ++ [(Str.ofString "price", V.int r)]) ++ [(Str.ofString "fee", V.int f)]) ++ [(Str.ofString "named", v')])) rfl
  refine ⟨CMulU.big (Nat.lt_of_le_of_lt (show p.natAbs <= 1000000000 from by have := hg.2.1; unfold Rg at this; omega) (by decide)) (Nat.lt_of_le_of_lt (show r.natAbs <= 1000000000 from by have := hg.2.2.1; unfold Rg at this; omega) (by decide)), ?_⟩
  have hnl := hnl.updI (u := .ins A.C_Sell dx (((((fsE d n w ++ [(Str.ofString "pieces", V.int p)]) ++ [(Str.ofString "price", V.int r)]) ++ [(Str.ofString "fee", V.int f)]) ++ [(Str.ofString "named", v')]) ++ [(Str.ofString "proceeds", V.int (p * r - f))])) hN.h
  refine ⟨_, dx, _, hN.h, T.cl_Sell, T.n_Sell_proceeds, by simp [fsE], ?_⟩
  rw [putF_at (f := Str.ofString "proceeds") ["day", "number", "ware", "pieces", "price", "fee", "named"] (by rfl) (by decide +kernel)]
  have hN := hN.put (gs := (((((fsE d n w ++ [(Str.ofString "pieces", V.int p)]) ++ [(Str.ofString "price", V.int r)]) ++ [(Str.ofString "fee", V.int f)]) ++ [(Str.ofString "named", v')]) ++ [(Str.ofString "proceeds", V.int (p * r - f))])) rfl
  exact k _ ⟨dx, v', hN, hnl, hb⟩
theorem ok_Gift___init__ (T : Txt w K mg A D) : FnOk P w K mg base CX0 4 A.Gift___init__ D.Gift___init__ ["self", "day", "number", "ware", "pieces", "cost", "since"] (spInit A.C_Gift A is_gift) := by
 refine T.F_Gift___init__.ok sc_Gift___init__ (fun vs H Q E h => ?_) (fun cdv A' outer s0 H vs Q E hr h => ?_)
 ·obtain ⟨x, e, B, dx, nv, hk, rfl, _⟩ := h
  cases e <;> first | rfl | cases hk
 ·obtain ⟨x, e, B, dx, nv, hk, rfl, hN, hg, hv, k⟩ := h
  cases e with
  | buy => cases hk
  | sell => cases hk
  | give => cases hk
  | split => cases hk
  | part => cases hk
  | gift d n w p c s =>
  refine ⟨_, (pss_cons (ps_expr (pe_clsCall T.cf_Entry___init__ (ok_Entry___init__ (K := K) T) (hr.mono (by decide)) (by rfl) T.m_Entry T.F_Entry___init__.kp (b_Entry___init__ T) .nil pass0 (pa_cons (pv 0) (pa_cons (pv 1) (pa_cons (pv 2) (pa_cons (pv 3) pa_nil))))))
   (pss_cons (ps_expr (pe_call (ok_check_number (K := K) T) (hr.mono (by decide)) (by rfl) T.m_check_number T.k_check_number (b_check_number T) .nil pass0 (pa_cons pe_str (pa_cons (pv 4) (pa_cons pe_int (pa_cons (pe_glob (v := V.int 1000000000) (by rfl) T.g_MOST_PIECES ⟨_, rfl⟩) pa_nil))))))
   (pss_cons (ps_expr (pe_call (ok_check_number (K := K) T) (hr.mono (by decide)) (by rfl) T.m_check_number T.k_check_number (b_check_number T) .nil pass0 (pa_cons pe_str (pa_cons (pv 5) (pa_cons pe_int (pa_cons (pe_glob (v := V.int 1000000000000000000) (by rfl) T.g_MOST_GIFT_COST ⟨_, rfl⟩) pa_nil))))))
   (pss_cons (ps_expr (pe_call (ok_check_number (K := K) T) (hr.mono (by decide)) (by rfl) T.m_check_number T.k_check_number (b_check_number T) .nil pass0 (pa_cons pe_str (pa_cons (pv 6) (pa_cons pe_int (pa_cons (pv 1) pa_nil))))))
   (pss_cons (ps_fldK (K := K) (pv 0) (pv 4) rfl)
   (pss_cons (ps_fldK (K := K) (pv 0) (pv 5) rfl)
   (pss_one (ps_fldK (K := K) (pv 0) (pv 6) rfl)))))))), ?_⟩
  simp only [Ent.args]
  walk_at "rda"
  refine ⟨x, d, n, w, B, _, dx, rfl, hN, ce_Gift T, hg.1, fun H1 hN => ?_⟩
  walk_at "rda"
  refine ⟨_, _, _, _, rfl, hg.2.1.1, hg.2.1.2, ?_⟩
  walk_at "rda"
  refine ⟨_, _, _, _, rfl, hg.2.2.1.1, hg.2.2.1.2, ?_⟩
  walk_at "rda"
  refine ⟨_, _, _, _, rfl, hg.2.2.2.1, hg.2.2.2.2, ?_⟩
  walk_at "rda"
  refine ⟨_, dx, _, hN.h, T.cl_Gift, T.n_Gift_pieces, by simp [fsE], ?_⟩
  rw [putF_at (f := Str.ofString "pieces") ["day", "number", "ware"] (by rfl) (by decide +kernel)]
  have hN := hN.put (gs := (fsE d n w ++ [(Str.ofString "pieces", V.int p)])) rfl
  refine ⟨_, dx, _, hN.h, T.cl_Gift, T.n_Gift_cost, by simp [fsE], ?_⟩
  rw [putF_at (f := Str.ofString "cost") ["day", "number", "ware", "pieces"] (by rfl) (by decide +kernel)]
  have hN := hN.put (gs := ((fsE d n w ++ [(Str.ofString "pieces", V.int p)]) ++ [(Str.ofString "cost", V.int c)])) rfl
  refine ⟨_, dx, _, hN.h, T.cl_Gift, T.n_Gift_since, by simp [fsE], ?_⟩
  rw [putF_at (f := Str.ofString "since") ["day", "number", "ware", "pieces", "cost"] (by rfl) (by decide +kernel)]
  have hN := hN.put (gs := (((fsE d n w ++ [(Str.ofString "pieces", V.int p)]) ++ [(Str.ofString "cost", V.int c)]) ++ [(Str.ofString "since", V.int s)])) rfl
  exact k _ ⟨dx, nv, hN, hv.same hN.s, fun q e => by cases hv; cases e⟩
theorem ok_Give___init__ (T : Txt w K mg A D) : FnOk P w K mg base CX0 4 A.Give___init__ D.Give___init__ ["self", "day", "number", "ware", "pieces", "named"] (spInit A.C_Give A is_give) := by
 refine T.F_Give___init__.ok sc_Give___init__ (fun vs H Q E h => ?_) (fun cdv A' outer s H vs Q E hr h => ?_)
 ·obtain ⟨x, e, B, dx, nv, hk, rfl, _⟩ := h
  cases e <;> first | rfl | cases hk
 ·obtain ⟨x, e, B, dx, nv, hk, rfl, hN, hg, hv, k⟩ := h
  cases e with
  | buy => cases hk
  | sell => cases hk
  | gift => cases hk
  | split => cases hk
  | part => cases hk
  | give d n w p o =>
  refine ⟨_, (pss_cons (ps_expr (pe_clsCall T.cf_Entry___init__ (ok_Entry___init__ (K := K) T) (hr.mono (by decide)) (by rfl) T.m_Entry T.F_Entry___init__.kp (b_Entry___init__ T) .nil pass0 (pa_cons (pv 0) (pa_cons (pv 1) (pa_cons (pv 2) (pa_cons (pv 3) pa_nil))))))
   (pss_cons (ps_expr (pe_call (ok_check_number (K := K) T) (hr.mono (by decide)) (by rfl) T.m_check_number T.k_check_number (b_check_number T) .nil pass0 (pa_cons pe_str (pa_cons (pv 4) (pa_cons pe_int (pa_cons (pe_glob (v := V.int 1000000000) (by rfl) T.g_MOST_PIECES ⟨_, rfl⟩) pa_nil))))))
   (pss_cons (ps_expr (pe_call (ok_check_named (K := K) T) (hr.mono (by decide)) (by rfl) T.m_check_named T.k_check_named (b_check_named T) .nil pass0 (pa_cons (pv 5) (pa_cons (pv 4) pa_nil))))
   (pss_cons (ps_fldK (K := K) (pv 0) (pv 4) rfl)
   (pss_one (ps_fldK (K := K) (pv 0) (pe_call (ok_named_copy (K := K) T) (hr.mono (by decide)) (by rfl) T.m_named_copy T.k_named_copy (b_named_copy T) .nil pass0 (pa_cons (pv 5) pa_nil)) rfl)))))), ?_⟩
  simp only [Ent.args]
  walk_at "rda"
  refine ⟨x, d, n, w, B, _, dx, rfl, hN, ce_Give T, hg.1, fun H1 hN => ?_⟩
  walk_at "rda"
  refine ⟨_, _, _, _, rfl, hg.2.1.1, hg.2.1.2, ?_⟩
  walk_at "rda"
  refine ⟨_, _, _, rfl, hv.same hN.s, hg.2.2, fun H2 sm => ?_⟩
  have hN := hN.same sm
  walk_at "rda"
  refine ⟨_, dx, _, hN.h, T.cl_Give, T.n_Give_pieces, by simp [fsE], ?_⟩
  rw [putF_at (f := Str.ofString "pieces") ["day", "number", "ware"] (by rfl) (by decide +kernel)]
  have hN := hN.put (gs := (fsE d n w ++ [(Str.ofString "pieces", V.int p)])) rfl
  refine ⟨_, _, rfl, hv.same hN.s, fun v' H3 sm hnl hq => ?_⟩
  have hb : ∀ q, v' = .ref q -> B q = Option.none := fun q e => hN.s.free (hq q e)
  have hN := hN.same sm
  walk_at "rda"
  have hnl := hnl.updI (u := .ins A.C_Give dx ((fsE d n w ++ [(Str.ofString "pieces", V.int p)]) ++ [(Str.ofString "named", v')])) hN.h
  refine ⟨_, dx, _, hN.h, T.cl_Give, T.n_Give_named, by simp [fsE], ?_⟩
  rw [putF_at (f := Str.ofString "named") ["day", "number", "ware", "pieces"] (by rfl) (by decide +kernel)]
  have hN := hN.put (gs := ((fsE d n w ++ [(Str.ofString "pieces", V.int p)]) ++ [(Str.ofString "named", v')])) rfl
  exact k _ ⟨dx, v', hN, hnl, hb⟩
theorem ok_Split___init__ (T : Txt w K mg A D) : FnOk P w K mg base CX0 4 A.Split___init__ D.Split___init__ ["self", "day", "number", "ware", "many", "of"] (spInit A.C_Split A is_split) := by
 refine T.F_Split___init__.ok sc_Split___init__ (fun vs H Q E h => ?_) (fun cdv A' outer s H vs Q E hr h => ?_)
 ·obtain ⟨x, e, B, dx, nv, hk, rfl, _⟩ := h
  cases e <;> first | rfl | cases hk
 ·obtain ⟨x, e, B, dx, nv, hk, rfl, hN, hg, hv, k⟩ := h
  cases e with
  | buy => cases hk
  | sell => cases hk
  | gift => cases hk
  | give => cases hk
  | part => cases hk
  | split d n w m f =>
  refine ⟨_, (pss_cons (ps_expr (pe_clsCall T.cf_Entry___init__ (ok_Entry___init__ (K := K) T) (hr.mono (by decide)) (by rfl) T.m_Entry T.F_Entry___init__.kp (b_Entry___init__ T) .nil pass0 (pa_cons (pv 0) (pa_cons (pv 1) (pa_cons (pv 2) (pa_cons (pv 3) pa_nil))))))
   (pss_cons (ps_expr (pe_call (ok_check_number (K := K) T) (hr.mono (by decide)) (by rfl) T.m_check_number T.k_check_number (b_check_number T) .nil pass0 (pa_cons pe_str (pa_cons (pv 4) (pa_cons pe_int (pa_cons (pe_glob (v := V.int 1000) (by rfl) T.g_MOST_SPLIT ⟨_, rfl⟩) pa_nil))))))
   (pss_cons (ps_expr (pe_call (ok_check_number (K := K) T) (hr.mono (by decide)) (by rfl) T.m_check_number T.k_check_number (b_check_number T) .nil pass0 (pa_cons pe_str (pa_cons (pv 5) (pa_cons pe_int (pa_cons (pe_glob (v := V.int 1000) (by rfl) T.g_MOST_SPLIT ⟨_, rfl⟩) pa_nil))))))
   (pss_cons (ps_fldK (K := K) (pv 0) (pv 4) rfl)
   (pss_one (ps_fldK (K := K) (pv 0) (pv 5) rfl)))))), ?_⟩
  simp only [Ent.args]
  walk_at "rda"
  refine ⟨x, d, n, w, B, _, dx, rfl, hN, ce_Split T, hg.1, fun H1 hN => ?_⟩
  walk_at "rda"
  refine ⟨_, _, _, _, rfl, hg.2.1.1, hg.2.1.2, ?_⟩
  walk_at "rda"
  refine ⟨_, _, _, _, rfl, hg.2.2.1, hg.2.2.2, ?_⟩
  walk_at "rda"
  refine ⟨_, dx, _, hN.h, T.cl_Split, T.n_Split_many, by simp [fsE], ?_⟩
  rw [putF_at (f := Str.ofString "many") ["day", "number", "ware"] (by rfl) (by decide +kernel)]
  have hN := hN.put (gs := (fsE d n w ++ [(Str.ofString "many", V.int m)])) rfl
  refine ⟨_, dx, _, hN.h, T.cl_Split, T.n_Split_of, by simp [fsE], ?_⟩
  rw [putF_at (f := Str.ofString "of") ["day", "number", "ware", "many"] (by rfl) (by decide +kernel)]
  have hN := hN.put (gs := ((fsE d n w ++ [(Str.ofString "many", V.int m)]) ++ [(Str.ofString "of", V.int f)])) rfl
  exact k _ ⟨dx, nv, hN, hv.same hN.s, fun q e => by cases hv; cases e⟩
theorem ok_Parting___init__ (T : Txt w K mg A D) : FnOk P w K mg base CX0 4 A.Parting___init__ D.Parting___init__ ["self", "day", "number", "ware", "other", "share", "whole"] (spInit A.C_Parting A is_part) := by
 refine T.F_Parting___init__.ok sc_Parting___init__ (fun vs H Q E h => ?_) (fun cdv A' outer s0 H vs Q E hr h => ?_)
 ·obtain ⟨x, e, B, dx, nv, hk, rfl, _⟩ := h
  cases e <;> first | rfl | cases hk
 ·obtain ⟨x, e, B, dx, nv, hk, rfl, hN, hg, hv, k⟩ := h
  cases e with
  | buy => cases hk
  | sell => cases hk
  | gift => cases hk
  | give => cases hk
  | split => cases hk
  | part d n w u s t =>
  refine ⟨_, (pss_cons (ps_expr (pe_clsCall T.cf_Entry___init__ (ok_Entry___init__ (K := K) T) (hr.mono (by decide)) (by rfl) T.m_Entry T.F_Entry___init__.kp (b_Entry___init__ T) .nil pass0 (pa_cons (pv 0) (pa_cons (pv 1) (pa_cons (pv 2) (pa_cons (pv 3) pa_nil))))))
   (pss_cons (ps_expr (pe_call (ok_check_name (K := K) T) (hr.mono (by decide)) (by rfl) T.m_check_name T.k_check_name (b_check_name T) .nil pass0 (pa_cons pe_str (pa_cons (pv 4) pa_nil))))
   (pss_cons (ps_if (pt_cmpR (op_eq) (pv 4) (pv 3) (nomark _)) (pss_one (ps_never)) pss_nil)
   (pss_cons (ps_expr (pe_call (ok_check_number (K := K) T) (hr.mono (by decide)) (by rfl) T.m_check_number T.k_check_number (b_check_number T) .nil pass0 (pa_cons pe_str (pa_cons (pv 6) (pa_cons pe_int (pa_cons (pe_glob (v := V.int 1000000) (by rfl) T.g_MOST_WHOLE ⟨_, rfl⟩) pa_nil))))))
   (pss_cons (ps_expr (pe_call (ok_check_number (K := K) T) (hr.mono (by decide)) (by rfl) T.m_check_number T.k_check_number (b_check_number T) .nil pass0 (pa_cons pe_str (pa_cons (pv 5) (pa_cons pe_int (pa_cons (pv 6) pa_nil))))))
   (pss_cons (ps_fldK (K := K) (pv 0) (pv 4) rfl)
   (pss_cons (ps_fldK (K := K) (pv 0) (pv 5) rfl)
   (pss_one (ps_fldK (K := K) (pv 0) (pv 6) rfl))))))))), ?_⟩
  simp only [Ent.args]
  walk_at "rda"
  refine ⟨x, d, n, w, B, _, dx, rfl, hN, ce_Parting T, hg.1, fun H1 hN => ?_⟩
  walk_at "rda"
  refine ⟨_, _, rfl, hg.2.1, fun H2 sm => ?_⟩
  have hN := hN.same sm
  walk_at "rda"
  rw [if_neg hg.2.2.1]
  refine ⟨_, _, _, _, rfl, hg.2.2.2.1.1, hg.2.2.2.1.2, ?_⟩
  walk_at "rda"
  refine ⟨_, _, _, _, rfl, hg.2.2.2.2.1, hg.2.2.2.2.2, ?_⟩
  walk_at "rda"
  refine ⟨_, dx, _, hN.h, T.cl_Parting, T.n_Parting_other, by simp [fsE], ?_⟩
  rw [putF_at (f := Str.ofString "other") ["day", "number", "ware"] (by rfl) (by decide +kernel)]
  have hN := hN.put (gs := (fsE d n w ++ [(Str.ofString "other", V.str u)])) rfl
  refine ⟨_, dx, _, hN.h, T.cl_Parting, T.n_Parting_share, by simp [fsE], ?_⟩
  rw [putF_at (f := Str.ofString "share") ["day", "number", "ware", "other"] (by rfl) (by decide +kernel)]
  have hN := hN.put (gs := ((fsE d n w ++ [(Str.ofString "other", V.str u)]) ++ [(Str.ofString "share", V.int s)])) rfl
  refine ⟨_, dx, _, hN.h, T.cl_Parting, T.n_Parting_whole, by simp [fsE], ?_⟩
  rw [putF_at (f := Str.ofString "whole") ["day", "number", "ware", "other", "share"] (by rfl) (by decide +kernel)]
  have hN := hN.put (gs := (((fsE d n w ++ [(Str.ofString "other", V.str u)]) ++ [(Str.ofString "share", V.int s)]) ++ [(Str.ofString "whole", V.int t)])) rfl
  exact k _ ⟨dx, nv, hN, hv.same hN.s, fun q e => by cases hv; cases e⟩
end
end My
namespace My
open PySem L2 PyProof.Rows
section
variable {P : Program} {w : World} {K : Fg_} {mg : Str -> Option Value} {base : Heap} {A : Adr} {D : Fds}
def spWord (isK : Ent -> Bool) : Sp := fun vs H Q _ => ∃ (x : Addr) (e : Ent), isK e = true /\ vs = [.ref x] /\ Q (.str e.word) H
def spTold (A : Adr) (isK : Ent -> Bool) : Sp := fun vs H Q _ => ∃ (x : Addr) (e : Ent), isK e = true /\ vs = [.ref x] /\ IsE A H x e /\
 ∀ t nt H', Same H H' -> H t = Option.none -> H' t = some (.tup (.str e.word :: e.args nt)) -> NT H' nt e.lots -> Q (.ref t) H'
theorem ok_Buy_word (T : Txt w K mg A D) : FnOk P w K mg base CX0 1 A.Buy_word D.Buy_word ["self"] (spWord is_buy) := by
 refine T.F_Buy_word.ok sc_Buy_word (fun vs H Q E h => ?_) (fun cdv A' outer s0 H vs Q E hr h => ?_)
 ·obtain ⟨x, e, hk, rfl, _⟩ := h; rfl
 ·obtain ⟨x, e, hk, rfl, k⟩ := h
  refine ⟨_, (pss_one (ps_ret pe_str)), ?_⟩
  walk_at "rda"
  cases e <;> first | exact k | cases hk
theorem ok_Sell_word (T : Txt w K mg A D) : FnOk P w K mg base CX0 1 A.Sell_word D.Sell_word ["self"] (spWord is_sell) := by
 refine T.F_Sell_word.ok sc_Sell_word (fun vs H Q E h => ?_) (fun cdv A' outer s0 H vs Q E hr h => ?_)
 ·obtain ⟨x, e, hk, rfl, _⟩ := h; rfl
 ·obtain ⟨x, e, hk, rfl, k⟩ := h
  refine ⟨_, (pss_one (ps_ret pe_str)), ?_⟩
  walk_at "rda"
  cases e <;> first | exact k | cases hk
theorem ok_Gift_word (T : Txt w K mg A D) : FnOk P w K mg base CX0 1 A.Gift_word D.Gift_word ["self"] (spWord is_gift) := by
 refine T.F_Gift_word.ok sc_Gift_word (fun vs H Q E h => ?_) (fun cdv A' outer s0 H vs Q E hr h => ?_)
 ·obtain ⟨x, e, hk, rfl, _⟩ := h; rfl
 ·obtain ⟨x, e, hk, rfl, k⟩ := h
  refine ⟨_, (pss_one (ps_ret pe_str)), ?_⟩
  walk_at "rda"
  cases e <;> first | exact k | cases hk
theorem ok_Give_word (T : Txt w K mg A D) : FnOk P w K mg base CX0 1 A.Give_word D.Give_word ["self"] (spWord is_give) := by
 refine T.F_Give_word.ok sc_Give_word (fun vs H Q E h => ?_) (fun cdv A' outer s0 H vs Q E hr h => ?_)
 ·obtain ⟨x, e, hk, rfl, _⟩ := h; rfl
 ·obtain ⟨x, e, hk, rfl, k⟩ := h
  refine ⟨_, (pss_one (ps_ret pe_str)), ?_⟩
  walk_at "rda"
  cases e <;> first | exact k | cases hk
theorem ok_Split_word (T : Txt w K mg A D) : FnOk P w K mg base CX0 1 A.Split_word D.Split_word ["self"] (spWord is_split) := by
 refine T.F_Split_word.ok sc_Split_word (fun vs H Q E h => ?_) (fun cdv A' outer s0 H vs Q E hr h => ?_)
 ·obtain ⟨x, e, hk, rfl, _⟩ := h; rfl
 ·obtain ⟨x, e, hk, rfl, k⟩ := h
  refine ⟨_, (pss_one (ps_ret pe_str)), ?_⟩
  walk_at "rda"
  cases e <;> first | exact k | cases hk
theorem ok_Parting_word (T : Txt w K mg A D) : FnOk P w K mg base CX0 1 A.Parting_word D.Parting_word ["self"] (spWord is_part) := by
 refine T.F_Parting_word.ok sc_Parting_word (fun vs H Q E h => ?_) (fun cdv A' outer s0 H vs Q E hr h => ?_)
 ·obtain ⟨x, e, hk, rfl, _⟩ := h; rfl
 ·obtain ⟨x, e, hk, rfl, k⟩ := h
  refine ⟨_, (pss_one (ps_ret pe_str)), ?_⟩
  walk_at "rda"
  cases e <;> first | exact k | cases hk
theorem ok_Buy_told (T : Txt w K mg A D) : FnOk P w K mg base CX0 2 A.Buy_told D.Buy_told ["self"] (spTold A is_buy) := by
 refine T.F_Buy_told.ok sc_Buy_told (fun vs H Q E h => ?_) (fun cdv A' outer s0 H vs Q E hr h => ?_)
 ·obtain ⟨x, e, hk, rfl, _⟩ := h; rfl
 ·obtain ⟨x, e, hk, rfl, ⟨dx, nv, hx, hn⟩, k⟩ := h
  refine ⟨_, (pss_one (ps_ret (pe_tup (pa_cons (pe_methD0 (pv 0) (.cons T.cl_Buy T.me_Buy_word (ok_Buy_word (K := K) T) (hr.mono (by decide)) (b_Buy_word T) .nil) pass0) (pa_cons (pe_fldK (K := K) (pv 0) rfl) (pa_cons (pe_fldK (K := K) (pv 0) rfl) (pa_cons (pe_fldK (K := K) (pv 0) rfl) (pa_cons (pe_fldK (K := K) (pv 0) rfl) (pa_cons (pe_fldK (K := K) (pv 0) rfl) (pa_cons (pe_fldK (K := K) (pv 0) rfl) pa_nil)))))))))), ?_⟩
  cases e with
  | sell => cases hk
  | gift => cases hk
  | give => cases hk
  | split => cases hk
  | part => cases hk
  | buy d n w p r f =>
  walk_at "rda"
  refine ⟨_, dx, _, hx, _, List.mem_cons_self, by rfl, ?_⟩
  refine ⟨x, .buy d n w p r f, rfl, rfl, ?_⟩
  refine ⟨_, dx, _, hx, T.cl_Buy, T.n_Buy_day, _, by rfl, ?_⟩
  refine ⟨_, dx, _, hx, T.cl_Buy, T.n_Buy_number, _, by rfl, ?_⟩
  refine ⟨_, dx, _, hx, T.cl_Buy, T.n_Buy_ware, _, by rfl, ?_⟩
  refine ⟨_, dx, _, hx, T.cl_Buy, T.n_Buy_pieces, _, by rfl, ?_⟩
  refine ⟨_, dx, _, hx, T.cl_Buy, T.n_Buy_price, _, by rfl, ?_⟩
  refine ⟨_, dx, _, hx, T.cl_Buy, T.n_Buy_fee, _, by rfl, ?_⟩
  refine ⟨by rw [sizeLine_eq]; decide, fun t ht => k t .non _ (Same.new ht) ht upd_same rfl⟩
theorem ok_Sell_told (T : Txt w K mg A D) : FnOk P w K mg base CX0 2 A.Sell_told D.Sell_told ["self"] (spTold A is_sell) := by
 refine T.F_Sell_told.ok sc_Sell_told (fun vs H Q E h => ?_) (fun cdv A' outer s0 H vs Q E hr h => ?_)
 ·obtain ⟨x, e, hk, rfl, _⟩ := h; rfl
 ·obtain ⟨x, e, hk, rfl, ⟨dx, nv, hx, hn⟩, k⟩ := h
  refine ⟨_, (pss_cons (ps_set (i := 1) sc_Sell_told.nd rfl (Or.inl rfl) (pe_call (ok_named_told (K := K) T) (hr.mono (by decide)) (by rfl) T.m_named_told T.k_named_told (b_named_told T) .nil pass0 (pa_cons (pe_fldK (K := K) (pv 0) rfl) pa_nil)))
   (pss_one (ps_ret (pe_tup (pa_cons (pe_methD0 (pv 0) (.cons T.cl_Sell T.me_Sell_word (ok_Sell_word (K := K) T) (hr.mono (by decide)) (b_Sell_word T) .nil) pass0) (pa_cons (pe_fldK (K := K) (pv 0) rfl) (pa_cons (pe_fldK (K := K) (pv 0) rfl) (pa_cons (pe_fldK (K := K) (pv 0) rfl) (pa_cons (pe_fldK (K := K) (pv 0) rfl) (pa_cons (pe_fldK (K := K) (pv 0) rfl) (pa_cons (pe_fldK (K := K) (pv 0) rfl) (pa_cons (pv 1) pa_nil)))))))))))), ?_⟩
  cases e with
  | buy => cases hk
  | gift => cases hk
  | give => cases hk
  | split => cases hk
  | part => cases hk
  | sell d n w p r f o =>
  walk_at "rda"
  refine ⟨_, dx, _, hx, T.cl_Sell, T.n_Sell_named, _, by rfl, ?_⟩
  refine ⟨_, _, rfl, hn, fun nt H1 s1 h1 => ?_⟩
  walk_at "rda"
  refine ⟨_, dx, _, (s1 _ _ hx), _, List.mem_cons_self, by rfl, ?_⟩
  refine ⟨x, .sell d n w p r f o, rfl, rfl, ?_⟩
  refine ⟨_, dx, _, (s1 _ _ hx), T.cl_Sell, T.n_Sell_day, _, by rfl, ?_⟩
  refine ⟨_, dx, _, (s1 _ _ hx), T.cl_Sell, T.n_Sell_number, _, by rfl, ?_⟩
  refine ⟨_, dx, _, (s1 _ _ hx), T.cl_Sell, T.n_Sell_ware, _, by rfl, ?_⟩
  refine ⟨_, dx, _, (s1 _ _ hx), T.cl_Sell, T.n_Sell_pieces, _, by rfl, ?_⟩
  refine ⟨_, dx, _, (s1 _ _ hx), T.cl_Sell, T.n_Sell_price, _, by rfl, ?_⟩
  refine ⟨_, dx, _, (s1 _ _ hx), T.cl_Sell, T.n_Sell_fee, _, by rfl, ?_⟩
  refine ⟨by rw [sizeLine_eq]; decide, fun t ht => k t nt _ (s1.upd (s1.free ht)) (s1.free ht) upd_same (h1.same (Same.new ht))⟩
theorem ok_Gift_told (T : Txt w K mg A D) : FnOk P w K mg base CX0 2 A.Gift_told D.Gift_told ["self"] (spTold A is_gift) := by
 refine T.F_Gift_told.ok sc_Gift_told (fun vs H Q E h => ?_) (fun cdv A' outer s0 H vs Q E hr h => ?_)
 ·obtain ⟨x, e, hk, rfl, _⟩ := h; rfl
 ·obtain ⟨x, e, hk, rfl, ⟨dx, nv, hx, hn⟩, k⟩ := h
  refine ⟨_, (pss_one (ps_ret (pe_tup (pa_cons (pe_methD0 (pv 0) (.cons T.cl_Gift T.me_Gift_word (ok_Gift_word (K := K) T) (hr.mono (by decide)) (b_Gift_word T) .nil) pass0) (pa_cons (pe_fldK (K := K) (pv 0) rfl) (pa_cons (pe_fldK (K := K) (pv 0) rfl) (pa_cons (pe_fldK (K := K) (pv 0) rfl) (pa_cons (pe_fldK (K := K) (pv 0) rfl) (pa_cons (pe_fldK (K := K) (pv 0) rfl) (pa_cons (pe_fldK (K := K) (pv 0) rfl) pa_nil)))))))))), ?_⟩
  cases e with
  | buy => cases hk
  | sell => cases hk
  | give => cases hk
  | split => cases hk
  | part => cases hk
  | gift d n w p c s =>
  walk_at "rda"
  refine ⟨_, dx, _, hx, _, List.mem_cons_self, by rfl, ?_⟩
  refine ⟨x, .gift d n w p c s, rfl, rfl, ?_⟩
  refine ⟨_, dx, _, hx, T.cl_Gift, T.n_Gift_day, _, by rfl, ?_⟩
  refine ⟨_, dx, _, hx, T.cl_Gift, T.n_Gift_number, _, by rfl, ?_⟩
  refine ⟨_, dx, _, hx, T.cl_Gift, T.n_Gift_ware, _, by rfl, ?_⟩
  refine ⟨_, dx, _, hx, T.cl_Gift, T.n_Gift_pieces, _, by rfl, ?_⟩
  refine ⟨_, dx, _, hx, T.cl_Gift, T.n_Gift_cost, _, by rfl, ?_⟩
  refine ⟨_, dx, _, hx, T.cl_Gift, T.n_Gift_since, _, by rfl, ?_⟩
  refine ⟨by rw [sizeLine_eq]; decide, fun t ht => k t .non _ (Same.new ht) ht upd_same rfl⟩
theorem ok_Give_told (T : Txt w K mg A D) : FnOk P w K mg base CX0 2 A.Give_told D.Give_told ["self"] (spTold A is_give) := by
 refine T.F_Give_told.ok sc_Give_told (fun vs H Q E h => ?_) (fun cdv A' outer s0 H vs Q E hr h => ?_)
 ·obtain ⟨x, e, hk, rfl, _⟩ := h; rfl
 ·obtain ⟨x, e, hk, rfl, ⟨dx, nv, hx, hn⟩, k⟩ := h
  refine ⟨_, (pss_one (ps_ret (pe_tup (pa_cons (pe_methD0 (pv 0) (.cons T.cl_Give T.me_Give_word (ok_Give_word (K := K) T) (hr.mono (by decide)) (b_Give_word T) .nil) pass0) (pa_cons (pe_fldK (K := K) (pv 0) rfl) (pa_cons (pe_fldK (K := K) (pv 0) rfl) (pa_cons (pe_fldK (K := K) (pv 0) rfl) (pa_cons (pe_fldK (K := K) (pv 0) rfl) (pa_cons (pe_call (ok_named_told (K := K) T) (hr.mono (by decide)) (by rfl) T.m_named_told T.k_named_told (b_named_told T) .nil pass0 (pa_cons (pe_fldK (K := K) (pv 0) rfl) pa_nil)) pa_nil))))))))), ?_⟩
  cases e with
  | buy => cases hk
  | sell => cases hk
  | gift => cases hk
  | split => cases hk
  | part => cases hk
  | give d n w p o =>
  walk_at "rda"
  refine ⟨_, dx, _, hx, _, List.mem_cons_self, by rfl, ?_⟩
  refine ⟨x, .give d n w p o, rfl, rfl, ?_⟩
  refine ⟨_, dx, _, hx, T.cl_Give, T.n_Give_day, _, by rfl, ?_⟩
  refine ⟨_, dx, _, hx, T.cl_Give, T.n_Give_number, _, by rfl, ?_⟩
  refine ⟨_, dx, _, hx, T.cl_Give, T.n_Give_ware, _, by rfl, ?_⟩
  refine ⟨_, dx, _, hx, T.cl_Give, T.n_Give_pieces, _, by rfl, ?_⟩
  refine ⟨_, dx, _, hx, T.cl_Give, T.n_Give_named, _, by rfl, ?_⟩
  refine ⟨_, _, rfl, hn, fun nt H1 s1 h1 => ?_⟩
  walk_at "rda"
  refine ⟨by rw [sizeLine_eq]; decide, fun t ht => k t nt _ (s1.upd (s1.free ht)) (s1.free ht) upd_same (h1.same (Same.new ht))⟩
theorem ok_Split_told (T : Txt w K mg A D) : FnOk P w K mg base CX0 2 A.Split_told D.Split_told ["self"] (spTold A is_split) := by
 refine T.F_Split_told.ok sc_Split_told (fun vs H Q E h => ?_) (fun cdv A' outer s0 H vs Q E hr h => ?_)
 ·obtain ⟨x, e, hk, rfl, _⟩ := h; rfl
 ·obtain ⟨x, e, hk, rfl, ⟨dx, nv, hx, hn⟩, k⟩ := h
  refine ⟨_, (pss_one (ps_ret (pe_tup (pa_cons (pe_methD0 (pv 0) (.cons T.cl_Split T.me_Split_word (ok_Split_word (K := K) T) (hr.mono (by decide)) (b_Split_word T) .nil) pass0) (pa_cons (pe_fldK (K := K) (pv 0) rfl) (pa_cons (pe_fldK (K := K) (pv 0) rfl) (pa_cons (pe_fldK (K := K) (pv 0) rfl) (pa_cons (pe_fldK (K := K) (pv 0) rfl) (pa_cons (pe_fldK (K := K) (pv 0) rfl) pa_nil))))))))), ?_⟩
  cases e with
  | buy => cases hk
  | sell => cases hk
  | gift => cases hk
  | give => cases hk
  | part => cases hk
  | split d n w m f =>
  walk_at "rda"
  refine ⟨_, dx, _, hx, _, List.mem_cons_self, by rfl, ?_⟩
  refine ⟨x, .split d n w m f, rfl, rfl, ?_⟩
  refine ⟨_, dx, _, hx, T.cl_Split, T.n_Split_day, _, by rfl, ?_⟩
  refine ⟨_, dx, _, hx, T.cl_Split, T.n_Split_number, _, by rfl, ?_⟩
  refine ⟨_, dx, _, hx, T.cl_Split, T.n_Split_ware, _, by rfl, ?_⟩
  refine ⟨_, dx, _, hx, T.cl_Split, T.n_Split_many, _, by rfl, ?_⟩
  refine ⟨_, dx, _, hx, T.cl_Split, T.n_Split_of, _, by rfl, ?_⟩
  refine ⟨by rw [sizeLine_eq]; decide, fun t ht => k t .non _ (Same.new ht) ht upd_same rfl⟩
theorem ok_Parting_told (T : Txt w K mg A D) : FnOk P w K mg base CX0 2 A.Parting_told D.Parting_told ["self"] (spTold A is_part) := by
 refine T.F_Parting_told.ok sc_Parting_told (fun vs H Q E h => ?_) (fun cdv A' outer s0 H vs Q E hr h => ?_)
 ·obtain ⟨x, e, hk, rfl, _⟩ := h; rfl
 ·obtain ⟨x, e, hk, rfl, ⟨dx, nv, hx, hn⟩, k⟩ := h
  refine ⟨_, (pss_one (ps_ret (pe_tup (pa_cons (pe_methD0 (pv 0) (.cons T.cl_Parting T.me_Parting_word (ok_Parting_word (K := K) T) (hr.mono (by decide)) (b_Parting_word T) .nil) pass0) (pa_cons (pe_fldK (K := K) (pv 0) rfl) (pa_cons (pe_fldK (K := K) (pv 0) rfl) (pa_cons (pe_fldK (K := K) (pv 0) rfl) (pa_cons (pe_fldK (K := K) (pv 0) rfl) (pa_cons (pe_fldK (K := K) (pv 0) rfl) (pa_cons (pe_fldK (K := K) (pv 0) rfl) pa_nil)))))))))), ?_⟩
  cases e with
  | buy => cases hk
  | sell => cases hk
  | gift => cases hk
  | give => cases hk
  | split => cases hk
  | part d n w u s t =>
  walk_at "rda"
  refine ⟨_, dx, _, hx, _, List.mem_cons_self, by rfl, ?_⟩
  refine ⟨x, .part d n w u s t, rfl, rfl, ?_⟩
  refine ⟨_, dx, _, hx, T.cl_Parting, T.n_Parting_day, _, by rfl, ?_⟩
  refine ⟨_, dx, _, hx, T.cl_Parting, T.n_Parting_number, _, by rfl, ?_⟩
  refine ⟨_, dx, _, hx, T.cl_Parting, T.n_Parting_ware, _, by rfl, ?_⟩
  refine ⟨_, dx, _, hx, T.cl_Parting, T.n_Parting_other, _, by rfl, ?_⟩
  refine ⟨_, dx, _, hx, T.cl_Parting, T.n_Parting_share, _, by rfl, ?_⟩
  refine ⟨_, dx, _, hx, T.cl_Parting, T.n_Parting_whole, _, by rfl, ?_⟩
  refine ⟨by rw [sizeLine_eq]; decide, fun t ht => k t .non _ (Same.new ht) ht upd_same rfl⟩
end
end My
namespace My
open PySem L2 PyProof.Rows
section
variable {P : Program} {w : World} {K : Fg_} {mg : Str -> Option Value} {base : Heap} {A : Adr} {D : Fds}
local macro_rules | `(tactic| walk_at "nx") => `(tactic| (rw [ap_seq]; walk_at "rdi"))
def TupE (H : Hp) (t : Addr) (e : Ent) : Prop := ∃ nt, H t = some (.tup (.str e.word :: e.args nt)) /\ NT H nt e.lots
theorem TupE.same {H H' : Hp} {t : Addr} {e : Ent} (s : Same H H') : TupE H t e -> TupE H' t e := fun ⟨nt, h, n⟩ => ⟨nt, s _ _ h, n.same s⟩
theorem new_mk {H : Hp} {x dx C : Addr} (hx : H x = Option.none) (hdx : H dx = Option.none) : New H (upd (upd H dx (.own x)) x (.ins C dx [])) x C dx [] := ⟨(Same.new hdx).upd hx, hx, upd_same⟩
end
end My
namespace My
open PySem L2 PyProof.Rows
section
variable {P : Program} {w : World} {K : Fg_} {mg : Str -> Option Value} {base : Heap} {A : Adr} {D : Fds}
def Ent.day : Ent -> Int
 | .buy d .. => d
 | .sell d .. => d
 | .gift d .. => d
 | .give d .. => d
 | .split d .. => d
 | .part d .. => d
def Ent.num : Ent -> Int
 | .buy _ n .. => n
 | .sell _ n .. => n
 | .gift _ n .. => n
 | .give _ n .. => n
 | .split _ n .. => n
 | .part _ n .. => n
def Ent.ware : Ent -> Str
 | .buy _ _ w .. => w
 | .sell _ _ w .. => w
 | .gift _ _ w .. => w
 | .give _ _ w .. => w
 | .split _ _ w .. => w
 | .part _ _ w .. => w
theorem ce_all (T : Txt w K mg A D) (e : Ent) : CE K (e.cls A) := by
 cases e with
 | buy => exact ce_Buy T
 | sell => exact ce_Sell T
 | gift => exact ce_Gift T
 | give => exact ce_Give T
 | split => exact ce_Split T
 | part => exact ce_Parting T
theorem look_day (e : Ent) (nv : V) : (e.fs nv).lookup (Str.ofString "day") = some (.int e.day) := by cases e <;> rfl
theorem look_number (e : Ent) (nv : V) : (e.fs nv).lookup (Str.ofString "number") = some (.int e.num) := by cases e <;> rfl
theorem look_told (e : Ent) (nv : V) : (e.fs nv).lookup (Str.ofString "told") = Option.none := by cases e <;> rfl
def tabT (A : Adr) : List (Addr × Sp) := [(A.C_Buy, spTold A is_buy), (A.C_Sell, spTold A is_sell), (A.C_Gift, spTold A is_gift), (A.C_Give, spTold A is_give), (A.C_Split, spTold A is_split), (A.C_Parting, spTold A is_part)]
theorem mem_T (A : Adr) (e : Ent) : ∃ isK, isK e = true /\ (e.cls A, spTold A isK) ∈ tabT A := by
 cases e with
 | buy => exact ⟨is_buy, rfl, .head _⟩
 | sell => exact ⟨is_sell, rfl, .tail _ (.head _)⟩
 | gift => exact ⟨is_gift, rfl, .tail _ (.tail _ (.head _))⟩
 | give => exact ⟨is_give, rfl, .tail _ (.tail _ (.tail _ (.head _)))⟩
 | split => exact ⟨is_split, rfl, .tail _ (.tail _ (.tail _ (.tail _ (.head _))))⟩
 | part => exact ⟨is_part, rfl, .tail _ (.tail _ (.tail _ (.tail _ (.tail _ (.head _)))))⟩
def pairD (r : Addr × Int × Int) : DV := .tup [.int r.2.1, .int r.2.2]
def ntD : Option Rs -> DV
 | Option.none => .non
 | some rs => .tup (rs.map pairD)
def Ent.argsD : Ent -> List DV
 | .buy d n w p r f => [.int d, .int n, .str w, .int p, .int r, .int f]
 | .sell d n w p r f o => [.int d, .int n, .str w, .int p, .int r, .int f, ntD o]
 | .gift d n w p c s => [.int d, .int n, .str w, .int p, .int c, .int s]
 | .give d n w p o => [.int d, .int n, .str w, .int p, ntD o]
 | .split d n w m f => [.int d, .int n, .str w, .int m, .int f]
 | .part d n w u s t => [.int d, .int n, .str w, .str u, .int s, .int t]
def Ent.dvT (e : Ent) : DV := .tup (.str e.word :: e.argsD)
theorem reps_lots {H : Hp} : ∀ {rs : Rs}, Lots H rs -> RepsD K H (refs rs) (rs.map pairD)
 | [], _ => .nil
 | r :: rs, h => .cons (.tup (SqT.of (h r (.head _))) (.cons (.int _) (.cons (.int _) .nil))) (reps_lots fun q hq => h q (.tail _ hq))
theorem rep_nt {H : Hp} {nt : V} {o : Option Rs} (h : NT H nt o) : RepD K H nt (ntD o) := by
 cases o with
 | none => cases h; exact .non
 | some rs => obtain ⟨l, rfl, h1, h2⟩ := h; exact .tup (SqT.of h1) (reps_lots h2)
theorem rep_told {H : Hp} {t : Addr} {e : Ent} (h : TupE H t e) : RepD K H (.ref t) e.dvT := by
 obtain ⟨nt, h1, h2⟩ := h
 refine .tup (SqT.of h1) (.cons (.str _) ?_)
 cases e with
 | buy => exact .cons (.int _) (.cons (.int _) (.cons (.str _) (.cons (.int _) (.cons (.int _) (.cons (.int _) (.nil))))))
 | sell => exact .cons (.int _) (.cons (.int _) (.cons (.str _) (.cons (.int _) (.cons (.int _) (.cons (.int _) (.cons (rep_nt h2) (.nil)))))))
 | gift => exact .cons (.int _) (.cons (.int _) (.cons (.str _) (.cons (.int _) (.cons (.int _) (.cons (.int _) (.nil))))))
 | give => exact .cons (.int _) (.cons (.int _) (.cons (.str _) (.cons (.int _) (.cons (rep_nt h2) (.nil)))))
 | split => exact .cons (.int _) (.cons (.int _) (.cons (.str _) (.cons (.int _) (.cons (.int _) (.nil)))))
 | part => exact .cons (.int _) (.cons (.int _) (.cons (.str _) (.cons (.str _) (.cons (.int _) (.cons (.int _) (.nil))))))
theorem deps_pairs : ∀ rs : Rs, depDs (rs.map pairD) <= 1
 | [] => by decide
 | r :: rs => by
  rw [List.map_cons]
  unfold depDs
  exact Nat.max_le.mpr ⟨by simp [pairD, depD, depDs], deps_pairs rs⟩
theorem dep_nt (o : Option Rs) : depD (ntD o) <= 2 := by
 cases o with
 | none => decide
 | some rs => show depDs (rs.map pairD) + 1 <= 2; have := deps_pairs rs; omega
theorem Lots.put {H : Hp} {rs : Rs} {l : Addr} {xs : List V} {u : HO} (h : Lots H rs) (hl : H l = some (.lst xs)) : Lots (upd H l u) rs := fun r hr => by
 have h2 := h r hr
 rw [upd_ne (fun z => by rw [z, hl] at h2; cases h2)]
 exact h2
theorem NT.put {H : Hp} {v : V} {o : Option Rs} {l : Addr} {xs : List V} {u : HO} (h : NT H v o) (hl : H l = some (.lst xs)) : NT (upd H l u) v o := by
 cases o with
 | none => exact h
 | some rs =>
  obtain ⟨q, rfl, h1, h2⟩ := h
  refine ⟨q, rfl, ?_, h2.put hl⟩
  rw [upd_ne (fun z => by rw [z, hl] at h1; cases h1)]
  exact h1
theorem TupE.put {H : Hp} {t : Addr} {e : Ent} {l : Addr} {xs : List V} {u : HO} (h : TupE H t e) (hl : H l = some (.lst xs)) : TupE (upd H l u) t e := by
 obtain ⟨nt, h1, h2⟩ := h
 refine ⟨nt, ?_, h2.put hl⟩
 rw [upd_ne (fun z => by rw [z, hl] at h1; cases h1)]
 exact h1
def Kept (A : Adr) (l : Addr) (H : Hp) (x : Addr) (e : Ent) : Prop := ∃ dx nv, H x = some (.ins (e.cls A) dx (e.fs nv)) /\ NL H nv e.lots /\ ∀ q, nv = .ref q -> q ≠ l
theorem Kept.isE {l : Addr} {H : Hp} {x : Addr} {e : Ent} : Kept A l H x e -> IsE A H x e := fun ⟨dx, nv, h, n, _⟩ => ⟨dx, nv, h, n⟩
theorem Kept.same {l : Addr} {H H' : Hp} {x : Addr} {e : Ent} (s : Same H H') : Kept A l H x e -> Kept A l H' x e := fun ⟨dx, nv, h, n, q⟩ => ⟨dx, nv, s _ _ h, n.same s, q⟩
theorem Made.kept {B H : Hp} {x : Addr} {e : Ent} {l : Addr} {ys : List V} (h : Made A B H x e) (hB : B l = some (.lst ys)) : Kept A l H x e := by
 obtain ⟨dx, nv, h1, h2, h3⟩ := h
 exact ⟨dx, nv, h1.h, h2, fun q e z => by rw [<- z, h3 q e] at hB; cases hB⟩
theorem Kept.put {H : Hp} {x : Addr} {e : Ent} {l : Addr} {xs : List V} {u : HO} (h : Kept A l H x e) (hl : H l = some (.lst xs)) : Kept A l (upd H l u) x e := by
 obtain ⟨dx, nv, hx, h2, h3⟩ := h
 refine ⟨dx, nv, ?_, ?_, h3⟩
 ·rw [upd_ne (fun z => by rw [z, hl] at hx; cases hx)]
  exact hx
 ·generalize e.lots = o at h2
  cases o with
  | none => exact h2
  | some rs =>
   obtain ⟨q, rfl, h4, h5⟩ := h2
   refine ⟨q, rfl, ?_, h5.put hl⟩
   rw [upd_ne (h3 q rfl)]
   exact h4
end
end My
namespace My
open PySem L2 PyProof.Rows
section
variable {P : Program} {w : World} {K : Fg_} {mg : Str -> Option Value} {base : Heap} {A : Adr} {D : Fds}
local macro_rules | `(tactic| walk_at "nx") => `(tactic| (rw [ap_seq]; walk_at "rdi"))
structure Wares (ws : List Str) : Prop where
 l0 : 3 <= ws.length
 l1 : ws.length <= 6
 n : ∀ w ∈ ws, Nm w
 u : ws.Nodup
def sp__law_wares (K : Fg_) : Sp := fun vs H Q _ => ∃ (a : Addr) (ns : List Int), vs = [.ref a] /\ SqL K H a (ns.map V.int) /\ ∀ p ws H', Same H H' -> H p = Option.none -> Wares ws -> H' p = some (.lst (ws.map V.str)) -> Q (.ref p) H'
def names : List Str := ["cup", "pot", "zz", "a", "teapots", "b"]
theorem names_nm : ∀ w ∈ names, Nm w := by
 unfold Nm
 decide +kernel
theorem names_u : names.Nodup := by decide +kernel
theorem names_but (w : Str) : 5 <= (names.filter fun x => x != w).length := by
 rw [<- names_u.erase_eq_filter, List.length_erase]
 split <;> decide
theorem wares_mk {w : Str} {m : Nat} (hw : Nm w) (h0 : 2 <= m) (h1 : m <= 5) : Wares (w :: ((names.filter fun x => x != w).take m)) := by
 have hl := names_but w
 refine ⟨?_, ?_, ?_, ?_⟩
 ·rw [List.length_cons, List.length_take]; omega
 ·rw [List.length_cons, List.length_take]; omega
 ·intro v hv
  rcases List.mem_cons.mp hv with rfl | hv
  ·exact hw
  ·exact names_nm v (List.mem_filter.mp (List.mem_of_mem_take hv)).1
 ·rw [List.nodup_cons]
  refine ⟨fun hm => ?_, ((List.take_sublist _ _).trans List.filter_sublist).nodup names_u⟩
  have := (List.mem_filter.mp (List.mem_of_mem_take hm)).2
  simp at this
theorem digs26 : ∀ (k : Nat) (c : Int), ∀ d ∈ digs c (List.replicate k 26), 0 <= d /\ d < 26
 | 0, _, d, h => by cases h
 | k + 1, c, d, h => by
  rw [List.replicate_succ] at h
  rcases List.mem_cons.mp h with rfl | h
  ·exact ⟨Int.emod_nonneg _ (by decide), Int.emod_lt_of_pos _ (by decide)⟩
  ·exact digs26 k _ d h
theorem letters_eq : (Str.ofString "abcdefghijklmnopqrstuvwxyz").cps.toList = (List.range 26).map fun i => 97 + i := by decide +kernel
theorem letter_at {d : Int} (h0 : 0 <= d) (h1 : d < 26) : atI (Str.ofString "abcdefghijklmnopqrstuvwxyz").cps.toList d = some (97 + d.toNat) := by
 rw [letters_eq, show d = ((d.toNat : Nat) : Int) by omega]
 refine atI_nat ?_
 rw [List.getElem?_map, List.getElem?_range (by omega), Int.toNat_natCast]
 rfl
theorem str_snoc_len (z : Str) (c : Nat) : (z ++ (⟨#[c]⟩ : Str)).length = z.length + 1 := by
 show (z.cps ++ #[c]).size = z.cps.size + 1
 simp
theorem str_snoc_mem (z : Str) (c x : Nat) (h : x ∈ (z ++ (⟨#[c]⟩ : Str)).cps.toList) : x ∈ z.cps.toList \/ x = c := by
 have h : x ∈ (z.cps ++ #[c]).toList := h
 simpa using h
theorem names_filt (z : Str) : ((names.map V.str).filter fun v => !decide (v = .str z)).map id = (names.filter fun x => x != z).map V.str := by
 rw [List.map_id, List.filter_map]
 refine congrArg _ (List.filter_congr fun x _ => ?_)
 show (!decide (V.str x = V.str z)) = (x != z)
 by_cases h : x = z
 ·subst h; simp
 ·simp [h]
theorem ok__law_wares (T : Txt w K mg A D) : FnOk P w K mg base CX0 2 A._law_wares D._law_wares ["_law_script"] (sp__law_wares K) := by
 refine T.F__law_wares.ok sc__law_wares (fun vs H Q E h => ?_) (fun cdv A' outer s0 H vs Q E hr h => ?_)
 ·obtain ⟨a, ns, rfl, _⟩ := h; rfl
 ·obtain ⟨a, ns, rfl, hS, k⟩ := h
  refine ⟨_, (pss_cons (ps_set (i := 1) sc__law_wares.nd rfl (Or.inr rfl) pe_str)
   (pss_cons (ps_for PassesOwn.never rfl (pi_listK (K := K) (pe_slice (sl_listK (K := K)) (pe_call (ok__law_digits (K := K) T) (hr.mono (by decide)) (by rfl) T.m__law_digits T.k__law_digits (b__law_digits T) .nil pass0 (pa_cons (pe_op op_fdivB (pe_call (ok__law_cell_at (K := K) T) (hr.mono (by decide)) (by rfl) T.m__law_cell_at T.k__law_cell_at (b__law_cell_at T) .nil pass0 (pa_cons (pv 0) (pa_cons pe_int pa_nil))) pe_int) (pa_cons (pe_op op_rep (pe_lst (pa_cons pe_int pa_nil)) pe_int) pa_nil))) po_none (po_some (pe_op op_add pe_int (pe_op op_mod (pe_call (ok__law_cell_at (K := K) T) (hr.mono (by decide)) (by rfl) T.m__law_cell_at T.k__law_cell_at (b__law_cell_at T) .nil pass0 (pa_cons (pv 0) (pa_cons pe_int pa_nil))) pe_int))))) (pg_name (i := 2) sc__law_wares.nd rfl (Or.inl rfl))
    (pss_one (ps_set (i := 1) sc__law_wares.nd rfl (Or.inr rfl) (pe_op op_add_str (pv 1) (pe_ix ix_str pe_str (pv 2) (fun _ _ => rfl))))))
   (pss_cons (ps_set (i := 3) sc__law_wares.nd rfl (Or.inl rfl) (pe_ix (ix_listK (K := K)) (pe_lst (pa_cons pe_int (pa_cons pe_int pa_nil))) (pe_callTy call_int1 (by rfl) T.b_int (by decide +kernel) (pa_cons (pe_cmpR (op_eq) (pe_op op_mod (pe_op op_fdivB (pe_call (ok__law_cell_at (K := K) T) (hr.mono (by decide)) (by rfl) T.m__law_cell_at T.k__law_cell_at (b__law_cell_at T) .nil pass0 (pa_cons (pv 0) (pa_cons pe_int pa_nil))) pe_int) pe_int) pe_int (nomark _)) pa_nil)) (fun _ _ => rfl)))
   (pss_one (ps_ret (pe_op op_cat (pe_lst (pa_cons (pv 1) pa_nil)) (pe_slice (sl_listK (K := K)) (pe_comp (cap := [Option.none, some 1]) (N' := ["_law_name", "_law_word"]) rfl (by walk_at "compok") (pi_listK (K := K) (pe_lst (pa_cons pe_str (pa_cons pe_str (pa_cons pe_str (pa_cons pe_str (pa_cons pe_str (pa_cons pe_str pa_nil)))))))) (fun _ _ _ _ => (pg_name (i := 0) (show (["_law_name", "_law_word"] : List Str).Nodup from by decide +kernel) rfl (Or.inl rfl) (Or.inr rfl))) (fun _ _ _ _ => (pts_one (pt_cmpR (op_ne) (pv 0) (pv 1) (nomark _)))) (fun _ _ _ _ => (pv 0))) po_none (po_some (pv 3))))))))), ?_⟩
  simp only [start_eq]
  walk_at "nx"
  rw [ap_seq, ap_for]
  walk_at "rdi"
  obtain ⟨c, hc⟩ : ∃ c, c = ns.getD 1 0 := ⟨_, rfl⟩
  refine ⟨a, ns, 1, rfl, hS, _, rfl, ⟨by decide, by decide⟩, by rw [sizeLine_eq]; decide, fun p1 hp1 => ?_⟩
  have s1 := Same.new (o := .lst [V.int 26]) hp1
  rw [ap_rRep]
  refine ⟨_, upd_same, by decide, by decide, by rw [sizeLine_eq]; decide, fun p2 hp2 => ?_⟩
  have s2 := s1.trans (Same.new (o := .lst (List.replicate (8 : Int).toNat [V.int 26]).flatten) hp2)
  refine ⟨_, p2, List.replicate 8 26, rfl, SqL.of (by rw [upd_same]; rfl), fun b hb => by rw [(List.mem_replicate.mp hb).2]; exact ⟨by decide, by decide⟩, by rw [List.length_replicate]; decide, fun p3 H3 s3 hp3 h3 => ?_⟩
  have s3 := s2.trans s3
  refine ⟨a, ns, 1, rfl, s3.seq hS, _, rfl, by decide, p3, rfl, _, SqL.of h3, fun p4 hp4 => ⟨⟨_, SqL.of upd_same⟩, ?_⟩⟩
  rw [<- hc]
  have hp4n : H p4 = Option.none := s3.free hp4
  have hn0 := Int.emod_nonneg c (show (8 : Int) ≠ 0 by decide)
  have hn1 := Int.emod_lt_of_pos c (show (0 : Int) < 8 by decide)
  obtain ⟨n, hn⟩ : ∃ n : Nat, (n : Int) = 1 + c % 8 := ⟨(1 + c % 8).toNat, by omega⟩
  rw [<- hn, cut_none, <- List.map_take]
  have hd : ∀ d ∈ (digs (c / 8) (List.replicate 8 26)).take n, 0 <= d /\ d < 26 := fun d h => digs26 _ _ d (List.mem_of_mem_take h)
  have hdl : ((digs (c / 8) (List.replicate 8 26)).take n).length = n := by rw [List.length_take, digs_length, List.length_replicate]; omega
  generalize (digs (c / 8) (List.replicate 8 26)).take n = ds at hd hdl
  refine ForP.list (K := K) (a := p4) (xs := ds.map V.int) (fun i σ H2 => ∃ z v2 v3, σ = [some (.ref a), some (.str z), v2, v3] /\ Same H H2 /\ H2 p4 = some (.lst (ds.map V.int)) /\ z.length = i /\ ∀ x ∈ z.cps.toList, 97 <= x /\ x <= 122)
   ⟨_, Option.none, Option.none, rfl, s3.upd hp4n, upd_same, by decide +kernel, by decide +kernel⟩ (fun i σ H2 _ ⟨_, _, _, _, _, h4, _⟩ => SqL.of h4) ?_ ?_
  ·rintro i y σ H2 hi ⟨z, v2, v3, rfl, sm, h4, hz, hl⟩
   obtain ⟨d, rfl, hdi⟩ := map_get hi
   have hil : i < ds.length := (List.getElem?_eq_some_iff.mp hdi).1
   obtain ⟨d0, d1⟩ := hd d (List.mem_of_getElem? hdi)
   walk_at "rd"
   refine ⟨by decide +kernel, _, letter_at d0 d1, ?_⟩
   refine ⟨by rw [sizeLine_eq]; show z.length + 1 <= _; omega, sm, h4, by rw [str_snoc_len, hz], fun x hx => ?_⟩
   rcases str_snoc_mem _ _ _ hx with h | h
   ·exact hl x h
   ·omega
  ·rintro σ H2 ⟨z, v2, v3, rfl, sm, h4, hz, hl⟩
   rw [List.length_map, hdl] at hz
   have hN : Nm z := ⟨by omega, by omega, hl⟩
   dsimp only
   walk_at "nx"
   refine ⟨by rw [sizeLine_eq]; decide, fun q1 hq1 => ?_⟩
   have t1 : Same H (upd H2 q1 (.lst [V.int 2, V.int 5])) := sm.trans (Same.new hq1)
   obtain ⟨m, hm0, hm1, hat⟩ : ∃ m : Nat, 2 <= m /\ m <= 5 /\ atI [V.int 2, V.int 5] (if ns.getD 0 0 / 122 % 8 = 3 then 1 else 0) = some (.int m) := by
    split
    ·exact ⟨5, by decide, by decide, rfl⟩
    ·exact ⟨2, by decide, by decide, rfl⟩
   refine ⟨a, ns, 0, rfl, t1.seq hS, _, rfl, ⟨by decide, by decide⟩, by decide, .inr ?_⟩
   refine ⟨_, SqL.of upd_same, _, hat, by rw [sizeLine_eq]; decide, fun q2 hq2 => ⟨by rw [sizeLine_eq]; decide, fun q3 hq3 => ⟨⟨_, SqL.of upd_same⟩, ?_⟩⟩⟩
   obtain ⟨H4, hH4⟩ : ∃ H4, H4 = upd (upd H2 q1 (.lst [V.int 2, V.int 5])) q2 (.lst [V.str z]) := ⟨_, rfl⟩
   rw [<- hH4] at hq3 ⊢
   have t2 : Same H H4 := hH4 ▸ t1.trans (Same.new hq2)
   have hq2' : H4 q2 = some (.lst [V.str z]) := by rw [hH4, upd_same]
   have t3 : Same H4 (upd H4 q3 (.lst (names.map V.str))) := Same.new hq3
   refine CompP.list (xs := names.map V.str) (fun σ => ∃ v, σ = [v, some (.str z)]) (fun v => !decide (v = .str z)) id (SqL.of upd_same) ⟨Option.none, rfl⟩ (by rw [List.length_map, sizeLine_eq]; decide) ?_ ?_
   ·rintro x hx σ H5 R1 R2 ⟨v, rfl⟩ smm k1 k2
    obtain ⟨w', _, rfl⟩ := List.mem_map.mp hx
    walk_at "rd"
    by_cases hw : w' = z
    ·rw [if_neg (fun h => h hw)]
     exact k2 (by simp [hw]) _ _ ⟨_, rfl⟩ (Same.refl _)
    ·rw [if_pos hw]
     exact k1 (by simp [hw]) _ _ ⟨_, rfl⟩ (Same.refl _)
   ·intro Da H' hD smm e
    rw [names_filt] at e
    refine ⟨m, rfl, Da, rfl, _, SqL.of e, fun q4 hq4 => ?_⟩
    rw [cut_none, <- List.map_take]
    have hq2n : H' q2 = some (.lst [V.str z]) := smm _ _ (t3 _ _ hq2')
    refine ⟨[V.str z], by rw [upd_ne (fun h => by rw [h, hq4] at hq2n; cases hq2n)]; exact hq2n, _, upd_same, ?_, fun q5 hq5 => ?_⟩
    ·rw [sizeLine_eq, List.length_map, List.length_take]
     show 1 + _ <= _
     omega
    ·have t4 := (t2.trans t3).trans (smm.trans (Same.new (o := .lst (((names.filter fun x => x != z).take m).map V.str)) hq4))
     exact k q5 (z :: ((names.filter fun x => x != z).take m)) _ (t4.upd (t4.free hq5)) (t4.free hq5) (wares_mk hN hm0 hm1) upd_same
end
end My
namespace My
open PySem L2 PyProof.Rows
section
variable {P : Program} {w : World} {K : Fg_} {mg : Str -> Option Value} {base : Heap} {A : Adr} {D : Fds}
local macro_rules | `(tactic| walk_at "nx") => `(tactic| (rw [ap_seq]; walk_at "rdi"))
theorem at4 {a b c d i : Int} {lo hi : Int} (h0 : 0 <= i) (h1 : i < 4) (ha : Rg lo hi a) (hb : Rg lo hi b) (hc : Rg lo hi c) (hd : Rg lo hi d) : ∃ v, atI [V.int a, V.int b, V.int c, V.int d] i = some (.int v) /\ Rg lo hi v := by
 have h : i = 0 \/ i = 1 \/ i = 2 \/ i = 3 := by omega
 rcases h with h | h | h | h <;> rw [h]
 ·exact ⟨a, rfl, ha⟩
 ·exact ⟨b, rfl, hb⟩
 ·exact ⟨c, rfl, hc⟩
 ·exact ⟨d, rfl, hd⟩
theorem at3 {a b c i : Int} {lo hi : Int} (h0 : 0 <= i) (h1 : i < 3) (ha : Rg lo hi a) (hb : Rg lo hi b) (hc : Rg lo hi c) : ∃ v, atI [V.int a, V.int b, V.int c] i = some (.int v) /\ Rg lo hi v := by
 have h : i = 0 \/ i = 1 \/ i = 2 := by omega
 rcases h with h | h | h <;> rw [h]
 ·exact ⟨a, rfl, ha⟩
 ·exact ⟨b, rfl, hb⟩
 ·exact ⟨c, rfl, hc⟩
theorem rg_mod {lo hi x m : Int} (hm : 0 < m) (hl : lo <= 0) (hh : m - 1 <= hi) : Rg lo hi (x % m) := ⟨by have := Int.emod_nonneg x (show m ≠ 0 by omega); omega, by have := Int.emod_lt_of_pos x hm; omega⟩
theorem ware_at {ws : List Str} {i : Int} (h0 : 0 <= i) (h1 : i < ws.length) : ∃ w, atI (ws.map V.str) i = some (.str w) /\ ws[i.toNat]? = some w := by
 have hj : i.toNat < ws.length := by omega
 refine ⟨ws[i.toNat], ?_, List.getElem?_eq_getElem hj⟩
 have e : ((i.toNat : Nat) : Int) = i := by omega
 have h := atI_nat (xs := ws.map V.str) (j := i.toNat) (v := .str ws[i.toNat]) (by rw [List.getElem?_map, List.getElem?_eq_getElem hj]; rfl)
 rwa [e] at h
theorem ware_ne {ws : List Str} (hu : ws.Nodup) {i j : Nat} {u v : Str} (hi : ws[i]? = some u) (hj : ws[j]? = some v) (h : i ≠ j) : u ≠ v := fun e => by
 subst e
 have h1 := (List.getElem?_eq_some_iff.mp hi)
 have h2 := (List.getElem?_eq_some_iff.mp hj)
 exact h ((List.getElem_inj (xs := ws) hu (h₀ := h1.1) (h₁ := h2.1)).mp (h1.2.trans h2.2.symm))
theorem e9 : (10 : Int) ^ Int.toNat 9 = 1000000000 := by decide
theorem e6 : (10 : Int) ^ Int.toNat 6 = 1000000 := by decide
theorem mul_rg {r f : Int} (hr : Rg 0 1000000000 r) (hf : Rg 0 1000000000 f) : Rg 0 1000000000000000000 (r * f) := by
 refine ⟨Int.mul_nonneg hr.1 hf.1, ?_⟩
 have := Int.mul_le_mul hr.2 hf.2 hf.1 (by decide)
 omega
theorem other_ne {a b L : Int} (a0 : 0 <= a) (a1 : a < L) (b0 : 0 <= b) (b1 : b < L - 1) : (a + 1 + b) % L ≠ a := by
 by_cases h : a + 1 + b < L
 ·rw [Int.emod_eq_of_lt (by omega) h]; omega
 ·have e : (a + 1 + b) % L = (a + 1 + b - L) % L := by
   have := Int.add_emod_right (a + 1 + b - L) L
   rw [Int.sub_add_cancel] at this
   exact this
  rw [e, Int.emod_eq_of_lt (by omega) (by omega)]
  omega
def sp__law_entry (K : Fg_) : Sp := fun vs H Q _ => ∃ (c d n : Int) (wa hd : Addr) (ws : List Str) (kvs : List (Key × V)), vs = [.int c, .int d, .int n, .ref wa, .ref hd] /\ H wa = some (.lst (ws.map V.str)) /\ Wares ws /\ H hd = some (.dK kvs) /\
 (∀ w : Str, ∃ i : Int, 0 <= i /\ (valV kvs (Sum.inr w)).getD (.int 0) = .int i) /\ Rg 0 1000000 d /\ Rg 0 1000000 n /\
 ∀ (t : Addr) (e : Ent) (H' : Hp), Same H H' -> H t = Option.none -> H' t = some (.tup (.str e.word :: e.args .non)) -> e.good -> e.lots = Option.none -> e.day = d -> e.num = n -> Q (.ref t) H'
theorem ok__law_entry (T : Txt w K mg A D) : FnOk P w K mg base CX0 2 A._law_entry D._law_entry ["_law_cell", "_law_day", "_law_number", "_law_wares_here", "_law_held"] (sp__law_entry K) := by
 refine T.F__law_entry.ok sc__law_entry (fun vs H Q E h => ?_) (fun cdv A' outer s0 H vs Q E hr h => ?_)
 ·obtain ⟨c, d, n, wa, hd, ws, kvs, rfl, _⟩ := h; rfl
 ·obtain ⟨c, d, n, wa, hd, ws, kvs, rfl, hwa, hW, hhd, hv, hd0, hn0, k⟩ := h
  refine ⟨_, (pss_cons (ps_asg (pe_call (ok__law_digits (K := K) T) (hr.mono (by decide)) (by rfl) T.m__law_digits T.k__law_digits (b__law_digits T) .nil pass0 (pa_cons (pv 0) (pa_cons (pe_lst (pa_cons pe_int (pa_cons pe_int (pa_cons pe_int (pa_cons (pe_op op_pow pe_int pe_int) (pa_cons (pe_op op_add (pe_op op_pow pe_int pe_int) pe_int) (pa_cons (pe_op op_add (pe_op op_pow pe_int pe_int) pe_int) pa_nil))))))) pa_nil))) (pg_lstK (K := K) (n := 6) rfl (pgs_cons (pg_name (i := 5) sc__law_entry.nd rfl (Or.inl rfl)) (pgs_cons (pg_name (i := 6) sc__law_entry.nd rfl (Or.inl rfl)) (pgs_cons (pg_name (i := 7) sc__law_entry.nd rfl (Or.inl rfl)) (pgs_cons (pg_name (i := 8) sc__law_entry.nd rfl (Or.inl rfl)) (pgs_cons (pg_name (i := 9) sc__law_entry.nd rfl (Or.inl rfl)) (pgs_cons (pg_name (i := 10) sc__law_entry.nd rfl (Or.inl rfl)) pgs_nil))))))))
   (pss_cons (ps_set (i := 11) sc__law_entry.nd rfl (Or.inl rfl) (pe_callB (call_lenK (K := K)) (by rfl) T.b_len (by decide +kernel) (pa_cons (pv 3) pa_nil)))
   (pss_cons (ps_set (i := 12) sc__law_entry.nd rfl (Or.inl rfl) (pe_ix (ix_listK (K := K)) (pv 3) (pe_op op_mod (pv 6) (pv 11)) (fun _ _ => rfl)))
   (pss_cons (ps_set (i := 13) sc__law_entry.nd rfl (Or.inl rfl) (pe_dget2 (hu_of hr) (pv 4) (pv 12) pe_int ⟨rfl, rfl, rfl, rfl⟩))
   (pss_cons (ps_set (i := 8) sc__law_entry.nd rfl (Or.inl rfl) (pe_op op_add (pe_ix (ix_listK (K := K)) (pe_lst (pa_cons (pe_op op_mod (pv 8) pe_int) (pa_cons (pe_op op_mod (pv 8) pe_int) (pa_cons (pe_op op_mod (pv 8) pe_int) (pa_cons (pv 8) pa_nil))))) (pv 7) (fun _ _ => rfl)) pe_int))
   (pss_cons (ps_set (i := 9) sc__law_entry.nd rfl (Or.inl rfl) (pe_ix (ix_listK (K := K)) (pe_lst (pa_cons (pe_op op_mod (pv 9) pe_int) (pa_cons (pe_op op_mod (pv 9) pe_int) (pa_cons (pv 9) pa_nil)))) (pe_op op_mod (pv 8) pe_int) (fun _ _ => rfl)))
   (pss_cons (ps_set (i := 10) sc__law_entry.nd rfl (Or.inl rfl) (pe_ix (ix_listK (K := K)) (pe_lst (pa_cons pe_int (pa_cons (pe_op op_mod (pv 10) pe_int) (pa_cons (pv 10) pa_nil)))) (pe_op op_mod (pe_op op_fdivB (pv 8) pe_int) pe_int) (fun _ _ => rfl)))
   (pss_cons (ps_if (PW.pt (pw_and (pt_cmpR (op_gt) (pv 5) pe_int (nomark _)) (pw_and (pt_cmpR (op_lt) (pv 5) pe_int (nomark _)) (pw_and1 (pt_cmpR (op_gt) (pv 13) pe_int (nomark _)))))) (pss_one (ps_set (i := 8) sc__law_entry.nd rfl (Or.inl rfl) (pe_op op_add pe_int (pe_op op_mod (pv 8) (pe_callB (call_minK rfl) (by rfl) T.b_min (by decide +kernel) (pa_cons (pv 13) (pa_cons (pe_op op_pow pe_int pe_int) pa_nil))))))) pss_nil)
   (pss_cons (ps_if (pt_cmpR (op_eq) (pv 5) pe_int (nomark _)) (pss_cons (ps_set (i := 14) sc__law_entry.nd rfl (Or.inl rfl) (pe_op op_add (pe_op op_mod (pv 10) (pe_op op_pow pe_int pe_int)) pe_int))
    (pss_cons (ps_set (i := 15) sc__law_entry.nd rfl (Or.inl rfl) (pe_ix (ix_listK (K := K)) (pv 3) (pe_op op_mod (pe_op op_add (pe_op op_add (pe_op op_mod (pv 6) (pv 11)) pe_int) (pe_op op_mod (pv 7) (pe_op op_sub (pv 11) pe_int))) (pv 11)) (fun _ _ => rfl)))
    (pss_one (ps_ret (pe_tup (pa_cons pe_str (pa_cons (pv 1) (pa_cons (pv 2) (pa_cons (pv 12) (pa_cons (pv 15) (pa_cons (pe_op op_mod (pv 9) (pe_op op_add (pv 14) pe_int)) (pa_cons (pv 14) pa_nil)))))))))))) pss_nil)
   (pss_cons (ps_if (pt_cmpR (op_gt) (pv 5) pe_int (nomark _)) (pss_one (ps_ret (pe_tup (pa_cons pe_str (pa_cons (pv 1) (pa_cons (pv 2) (pa_cons (pv 12) (pa_cons (pe_op op_add pe_int (pe_op op_mod (pv 9) (pe_ix (ix_listK (K := K)) (pe_lst (pa_cons pe_int (pa_cons pe_int (pa_cons pe_int (pa_cons pe_int pa_nil))))) (pv 7) (fun _ _ => rfl)))) (pa_cons (pe_op op_add pe_int (pe_op op_mod (pv 10) (pe_ix (ix_listK (K := K)) (pe_lst (pa_cons pe_int (pa_cons pe_int (pa_cons pe_int (pa_cons pe_int pa_nil))))) (pv 7) (fun _ _ => rfl)))) pa_nil))))))))) pss_nil)
   (pss_cons (ps_if (pt_cmpR (op_eq) (pv 5) pe_int (nomark _)) (pss_one (ps_ret (pe_tup (pa_cons pe_str (pa_cons (pv 1) (pa_cons (pv 2) (pa_cons (pv 12) (pa_cons (pv 8) (pa_cons (pe_op op_mulU (pv 9) (pv 10)) (pa_cons (pe_op op_sub (pv 1) (pe_op op_mod (pv 10) (pe_op op_add (pv 1) pe_int))) pa_nil)))))))))) pss_nil)
   (pss_cons (ps_if (PW.pt (pw_or (pt_cmpR (op_lt) (pv 5) pe_int (nomark _)) (pw_or1 (pt_cmpR (op_eq) (pv 13) pe_int (nomark _))))) (pss_one (ps_ret (pe_tup (pa_cons pe_str (pa_cons (pv 1) (pa_cons (pv 2) (pa_cons (pv 12) (pa_cons (pv 8) (pa_cons (pv 9) (pa_cons (pv 10) pa_nil)))))))))) pss_nil)
   (pss_cons (ps_if (pt_cmpR (op_lt) (pv 5) pe_int (nomark _)) (pss_one (ps_ret (pe_tup (pa_cons pe_str (pa_cons (pv 1) (pa_cons (pv 2) (pa_cons (pv 12) (pa_cons (pv 8) (pa_cons (pv 9) (pa_cons (pv 10) (pa_cons pe_non pa_nil))))))))))) pss_nil)
   (pss_one (ps_ret (pe_tup (pa_cons pe_str (pa_cons (pv 1) (pa_cons (pv 2) (pa_cons (pv 12) (pa_cons (pv 8) (pa_cons pe_non pa_nil)))))))))))))))))))))), ?_⟩
  simp only [start_eq]
  walk_at "nx"
  refine ⟨⟨by decide, by decide, by decide⟩, ⟨by decide, by decide, by decide⟩, ⟨by decide, by decide, by decide⟩, by rw [sizeLine_eq]; decide, fun p1 hp1 => ?_⟩
  have s1 := Same.new (o := .lst [V.int 16, V.int 6, V.int 4, V.int (10 ^ (9 : Int).toNat), V.int (10 ^ (9 : Int).toNat + 1), V.int (10 ^ (9 : Int).toNat + 1)]) hp1
  refine ⟨c, p1, [16, 6, 4, 1000000000, 1000000001, 1000000001], rfl, SqL.of (by rw [upd_same]; rfl), by unfold CDivB; decide, by decide, fun p2 H2 s2 hp2 h2 => ?_⟩
  have s2 := s1.trans s2
  obtain ⟨kd, ix, sz, pc, pr, ex, hdg, bkd, bix, bsz, bpc, bpr, bex⟩ : ∃ kd ix sz pc pr ex : Int, digs c [16, 6, 4, 1000000000, 1000000001, 1000000001] = [kd, ix, sz, pc, pr, ex] /\ Rg 0 15 kd /\ Rg 0 5 ix /\ Rg 0 3 sz /\ Rg 0 999999999 pc /\ Rg 0 1000000000 pr /\ Rg 0 1000000000 ex :=
   ⟨_, _, _, _, _, _, rfl, rg_mod (by decide) (by decide) (by decide), rg_mod (by decide) (by decide) (by decide), rg_mod (by decide) (by decide) (by decide), rg_mod (by decide) (by decide) (by decide), rg_mod (by decide) (by decide) (by decide), rg_mod (by decide) (by decide) (by decide)⟩
  rw [hdg] at h2
  refine ⟨p2, rfl, _, SqL.of h2, rfl, _, _, rfl, _, _, rfl, _, _, rfl, _, _, rfl, _, _, rfl, _, _, rfl, rfl, ?_⟩
  have hwa := s2 _ _ hwa
  have hhd := s2 _ _ hhd
  walk_at "nx"
  refine ⟨_, .inl (SqL.of hwa), ?_⟩
  rw [List.length_map]
  have hl0 := hW.l0
  have hl1 := hW.l1
  unfold Rg at bkd bix bsz bpc bpr bex hd0 hn0
  have hi0 := Int.emod_nonneg ix (show (ws.length : Int) ≠ 0 by omega)
  have hi1 := Int.emod_lt_of_pos ix (show (0 : Int) < ws.length by omega)
  obtain ⟨w, haw, hgw⟩ := ware_at hi0 hi1
  have hNw : Nm w := hW.n w (List.mem_of_getElem? hgw)
  walk_at "nx"
  refine ⟨by omega, _, SqL.of hwa, _, haw, ?_⟩
  obtain ⟨th, hth0, hth⟩ := hv w
  walk_at "nx"
  refine ⟨.inl ⟨kvs, .inl hhd⟩, _, DGet.k (k := Sum.inr w) hhd, ?_⟩
  rw [hth]
  walk_at "nx"
  refine ⟨by decide, by decide, by decide, by rw [sizeLine_eq]; decide, fun q1 hq1 => ?_⟩
  obtain ⟨p0, hp0, bp0⟩ := at4 (a := pc % 4) (b := pc % 50) (c := pc % 3000) (d := pc) (lo := 0) (hi := 999999999) bsz.1 (by omega) (rg_mod (by decide) (by decide) (by decide)) (rg_mod (by decide) (by decide) (by decide)) (rg_mod (by decide) (by decide) (by decide)) bpc
  refine ⟨_, SqL.of upd_same, _, hp0, _, rfl, ?_⟩
  generalize hH3 : upd H2 q1 _ = H3
  have s3 : Same H2 H3 := hH3 ▸ Same.new hq1
  obtain ⟨p, hp⟩ : ∃ p, p = p0 + 1 := ⟨_, rfl⟩
  rw [<- hp]
  have bp : Rg 1 1000000000 p := by unfold Rg at bp0 ⊢; omega
  walk_at "nx"
  obtain ⟨r, hr', br⟩ := at3 (i := p % 3) (a := pr % 9) (b := pr % 500) (c := pr) (lo := 0) (hi := 1000000000) (Int.emod_nonneg _ (by decide)) (Int.emod_lt_of_pos _ (by decide)) (rg_mod (by decide) (by decide) (by decide)) (rg_mod (by decide) (by decide) (by decide)) bpr
  refine ⟨by decide, by decide, by rw [sizeLine_eq]; decide, fun q2 hq2 => ⟨by decide, _, SqL.of upd_same, _, hr', ?_⟩⟩
  generalize hH4 : upd H3 q2 _ = H4
  have s4 : Same H3 H4 := hH4 ▸ Same.new hq2
  walk_at "nx"
  obtain ⟨f, hf', bf⟩ := at3 (i := p / 3 % 3) (a := 0) (b := ex % 30) (c := ex) (lo := 0) (hi := 1000000000) (Int.emod_nonneg _ (by decide)) (Int.emod_lt_of_pos _ (by decide)) ⟨by decide, by decide⟩ (rg_mod (by decide) (by decide) (by decide)) bex
  refine ⟨by decide, by rw [sizeLine_eq]; decide, fun q3 hq3 => ⟨⟨by decide, by decide⟩, by decide, _, SqL.of upd_same, _, hf', ?_⟩⟩
  generalize hH5 : upd H4 q3 _ = H5
  have s5 : Same H4 H5 := hH5 ▸ Same.new hq3
  have sH : Same H H5 := s2.trans (s3.trans (s4.trans s5))
  have hwa : H5 wa = some (.lst (ws.map V.str)) := s5 _ _ (s4 _ _ (s3 _ _ hwa))
  refine seq_join (fun σ H' => H' = H5 /\ ∃ p', Rg 1 1000000000 p' /\ σ = [some (.int c), some (.int d), some (.int n), some (.ref wa), some (.ref hd), some (.int kd), some (.int ix), some (.int sz), some (.int p'), some (.int r), some (.int f), some (.int ws.length), some (.str w), some (.int th), none, none]) (by walk_at "mono") ?_ ?_
  ·walk_at "rdi"
   have stay : ∃ p', Rg 1 1000000000 p' /\ p = p' := ⟨p, bp, rfl⟩
   split
   ·split
    ·split
     ·refine ⟨⟨by decide, by decide, by decide⟩, ?_, _, ?_, rfl⟩
      ·split
       ·decide
       ·assumption
      ·rw [e9]
       split
       ·unfold Rg
        have h1 := Int.emod_nonneg p (show (1000000000 : Int) ≠ 0 by decide)
        have h2 := Int.emod_lt_of_pos p (show (0 : Int) < 1000000000 by decide)
        omega
       ·unfold Rg
        have h1 := Int.emod_nonneg p (show th ≠ 0 by omega)
        have h2 := Int.emod_lt_of_pos p (show 0 < th by omega)
        omega
     ·exact stay
    ·exact stay
   ·exact stay
  ·rintro σ' H' ⟨rfl, p', bp', rfl⟩
   have bB : Base d n w := ⟨hd0.1, hd0.2, hn0.1, hn0.2, hNw⟩
   have brf : Rg 0 1000000000000000000 (r * f) := mul_rg br bf
   have bp1 := bp'
   have br1 := br
   have bf1 := bf
   unfold Rg at bp' br bf
   walk_at "nx"
   by_cases h15 : kd = 15
   ·rw [if_pos h15]
    walk_at "nx"
    refine ⟨⟨by decide, by decide, by decide⟩, by decide, ?_⟩
    rw [e6]
    obtain ⟨wh, hwh⟩ : ∃ wh, wh = f % 1000000 + 1 := ⟨_, rfl⟩
    have bwh : Rg 1 1000000 wh := by
     have h1 := Int.emod_nonneg f (show (1000000 : Int) ≠ 0 by decide)
     have h2 := Int.emod_lt_of_pos f (show (0 : Int) < 1000000 by decide)
     unfold Rg; omega
    rw [<- hwh]
    have hb0 := Int.emod_nonneg sz (show (ws.length : Int) - 1 ≠ 0 by omega)
    have hb1 := Int.emod_lt_of_pos sz (show (0 : Int) < (ws.length : Int) - 1 by omega)
    have hj0 := Int.emod_nonneg (ix % ws.length + 1 + sz % ((ws.length : Int) - 1)) (show (ws.length : Int) ≠ 0 by omega)
    have hj1 := Int.emod_lt_of_pos (ix % ws.length + 1 + sz % ((ws.length : Int) - 1)) (show (0 : Int) < ws.length by omega)
    have hne := other_ne hi0 hi1 hb0 hb1
    obtain ⟨u, hau, hgu⟩ := ware_at hj0 hj1
    have huw : u ≠ w := ware_ne hW.u hgu hgw (by omega)
    walk_at "nx"
    refine ⟨by omega, by omega, by omega, _, SqL.of hwa, _, hau, ?_⟩
    have hs0 := Int.emod_nonneg r (show wh + 1 ≠ 0 by unfold Rg at bwh; omega)
    have hs1 := Int.emod_lt_of_pos r (show 0 < wh + 1 by unfold Rg at bwh; omega)
    refine ⟨by unfold Rg at bwh; omega, by rw [sizeLine_eq]; decide, fun t ht => ?_⟩
    exact k t (.part d n w u (r % (wh + 1)) wh) _ (sH.upd (sH.free ht)) (sH.free ht) upd_same ⟨bB, hW.n u (List.mem_of_getElem? hgu), huw, bwh, ⟨hs0, by omega⟩⟩ rfl rfl rfl
   rw [if_neg h15]
   walk_at "nx"
   by_cases h11 : kd > 11
   ·rw [if_pos h11]
    obtain ⟨m1, hm1, bm1⟩ := at4 (i := sz) (a := 3) (b := 3) (c := 10) (d := 1000) (lo := 1) (hi := 1000) bsz.1 (by omega) ⟨by decide, by decide⟩ ⟨by decide, by decide⟩ ⟨by decide, by decide⟩ ⟨by decide, by decide⟩
    obtain ⟨m2, hm2, bm2⟩ := at4 (i := sz) (a := 3) (b := 5) (c := 10) (d := 1000) (lo := 1) (hi := 1000) bsz.1 (by omega) ⟨by decide, by decide⟩ ⟨by decide, by decide⟩ ⟨by decide, by decide⟩ ⟨by decide, by decide⟩
    unfold Rg at bm1 bm2
    have g0 := Int.emod_nonneg r (show m1 ≠ 0 by omega)
    have g1 := Int.emod_lt_of_pos r (show 0 < m1 by omega)
    have g2 := Int.emod_nonneg f (show m2 ≠ 0 by omega)
    have g3 := Int.emod_lt_of_pos f (show 0 < m2 by omega)
    refine ⟨by rw [sizeLine_eq]; decide, fun q4 hq4 => ⟨_, SqL.of upd_same, _, hm1, _, rfl, by omega, by rw [sizeLine_eq]; decide, fun q5 hq5 => ⟨_, SqL.of upd_same, _, hm2, _, rfl, by omega, by rw [sizeLine_eq]; decide, fun t ht => ?_⟩⟩⟩
    have sH2 := sH.trans ((Same.new (o := .lst [V.int 3, V.int 3, V.int 10, V.int 1000]) hq4).trans (Same.new (o := .lst [V.int 3, V.int 5, V.int 10, V.int 1000]) hq5))
    exact k t (.split d n w (1 + r % m1) (1 + f % m2)) _ (sH2.upd (sH2.free ht)) (sH2.free ht) upd_same ⟨bB, ⟨by omega, by omega⟩, ⟨by omega, by omega⟩⟩ rfl rfl rfl
   rw [if_neg h11]
   walk_at "nx"
   by_cases h6 : kd = 6
   ·rw [if_pos h6]
    have g0 := Int.emod_nonneg f (show d + 1 ≠ 0 by omega)
    have g1 := Int.emod_lt_of_pos f (show 0 < d + 1 by omega)
    refine ⟨CMulU.l (by omega) (by omega), by omega, by rw [sizeLine_eq]; decide, fun t ht => ?_⟩
    exact k t (.gift d n w p' (r * f) (d - f % (d + 1))) _ (sH.upd (sH.free ht)) (sH.free ht) upd_same ⟨bB, bp1, brf, ⟨by omega, by omega⟩⟩ rfl rfl rfl
   rw [if_neg h6]
   walk_at "nx"
   have buy : (7 : Nat) <= sizeLine /\ ∀ t, H' t = Option.none -> Q (.ref t) (upd H' t (.tup [V.str (Str.ofString "buy"), V.int d, V.int n, V.str w, V.int p', V.int r, V.int f])) :=
    ⟨by rw [sizeLine_eq]; decide, fun t ht => k t (.buy d n w p' r f) _ (sH.upd (sH.free ht)) (sH.free ht) upd_same ⟨bB, bp1, br1, bf1⟩ rfl rfl rfl⟩
   by_cases h7 : kd < 6
   ·rw [if_pos h7]; exact buy
   rw [if_neg h7]
   by_cases h8 : th = 0
   ·rw [if_pos h8]; exact buy
   rw [if_neg h8]
   walk_at "nx"
   by_cases h9 : kd < 10
   ·rw [if_pos h9]
    refine ⟨by rw [sizeLine_eq]; decide, fun t ht => ?_⟩
    exact k t (.sell d n w p' r f Option.none) _ (sH.upd (sH.free ht)) (sH.free ht) upd_same ⟨bB, bp1, br1, bf1, trivial⟩ rfl rfl rfl
   rw [if_neg h9]
   refine ⟨by rw [sizeLine_eq]; decide, fun t ht => ?_⟩
   exact k t (.give d n w p' Option.none) _ (sH.upd (sH.free ht)) (sH.free ht) upd_same ⟨bB, bp1, trivial⟩ rfl rfl rfl
end
end My
namespace My
open PySem L2 PyProof.Rows
section
variable {P : Program} {w : World} {K : Fg_} {mg : Str -> Option Value} {base : Heap} {A : Adr} {D : Fds}
theorem inv61 : ∀ b : Fin 61, b.val ≠ 0 -> ∃ v : Fin 61, b.val * v.val % 61 = 1 := by decide +kernel
theorem unlike61 {b i j : Nat} (b0 : 1 <= b) (b1 : b <= 60) (hi : i <= 60) (hj : j <= 60) (h : i * b % 61 = j * b % 61) : i = j := by
 obtain ⟨v, hv⟩ := inv61 ⟨b, by omega⟩ (by show b ≠ 0; omega)
 have hv : b * v.val % 61 = 1 := hv
 have key : ∀ x, x <= 60 -> x = (x * b % 61) * v.val % 61 := fun x hx => by
  rw [Nat.mod_mul_mod, Nat.mul_assoc, Nat.mul_mod, hv, Nat.mul_one, Nat.mod_mod, Nat.mod_eq_of_lt (by omega)]
 rw [key i hi, key j hj, h]
theorem unlikeI {low b : Int} {i j : Nat} (b0 : 1 <= b) (b1 : b <= 60) (hi : i < 60) (hj : j < 60) (h : low + ((i : Int) + 1) * b % 61 = low + ((j : Int) + 1) * b % 61) : i = j := by
 obtain ⟨n, rfl⟩ : ∃ n : Nat, b = n := ⟨b.toNat, by omega⟩
 have h1 : ((i : Int) + 1) * n % 61 = ((j : Int) + 1) * n % 61 := by omega
 have h2 : (i + 1) * n % 61 = (j + 1) * n % 61 := by exact_mod_cast h1
 have := unlike61 (b := n) (i := i + 1) (j := j + 1) (by omega) (by omega) (by omega) (by omega) h2
 omega
end
end My
namespace My
open PySem L2 PyProof.Rows
section
variable {P : Program} {w : World} {K : Fg_} {mg : Str -> Option Value} {base : Heap} {A : Adr} {D : Fds}
local macro_rules | `(tactic| walk_at "nx") => `(tactic| ((try dsimp only); rw [ap_seq]; walk_at "rdi"))
abbrev EL := List (Addr × Ent)
def refsE (es : EL) : List V := es.map fun r => V.ref r.1
def EntAt (A : Adr) (H : Hp) (es : EL) : Prop := ∀ r ∈ es, IsE A H r.1 r.2
theorem EntAt.same {H H' : Hp} {es : EL} (h : EntAt A H es) (s : Same H H') : EntAt A H' es := fun r hr => (h r hr).same s
theorem refsE_len (es : EL) : (refsE es).length = es.length := by unfold refsE; rw [List.length_map]
theorem refsE_get {rs : EL} {i : Nat} {y : V} (h : (refsE rs)[i]? = some y) : ∃ r, rs[i]? = some r /\ y = .ref r.1 := by
 unfold refsE at h
 rw [List.getElem?_map] at h
 cases e : rs[i]? with
 | none => rw [e] at h; cases h
 | some r => rw [e] at h; exact ⟨r, rfl, (Option.some.inj h).symm⟩
theorem ints_ofE {f : Addr × Ent -> Int} {rs : EL} : ∀ {acc : List V}, acc.length = rs.length -> (∀ (i : Nat) v, acc[i]? = some v -> ∃ l, rs[i]? = some l /\ v = .int (f l)) -> acc = (rs.map f).map V.int := by
 intro acc hlen h
 refine List.ext_getElem? fun i => ?_
 rw [List.getElem?_map, List.getElem?_map]
 by_cases hi : i < acc.length
 ·obtain ⟨l, h1, h2⟩ := h i _ (List.getElem?_eq_getElem hi)
  rw [List.getElem?_eq_getElem hi, h2, h1]
  rfl
 ·rw [List.getElem?_eq_none (by omega), List.getElem?_eq_none (by omega)]
  rfl
theorem num_comp (T : Txt w K mg A D) {H : Hp} {q : Addr} {es : EL} {Q : VK} {σ : L2.St} (hq : H q = some (.lst (refsE es))) (hE : EntAt A H es) (hl : es.length <= 100)
  (k : ∀ D H', H D = Option.none -> Same H H' -> H' D = some (.lst ((es.map fun l => l.2.num).map V.int)) -> Q (.ref D) H') : CompP [Option.none] (Itl K q) (gName 0) tNoIf (tFld K (tVar 0) "number") σ H Q := by
 refine CompP.listE (K := K) (fun σ => ∃ a, σ = [a]) (fun i v _ => ∃ l, es[i]? = some l /\ v = .int l.2.num) (SqL.of hq) ⟨_, rfl⟩ (by rw [refsE_len, sizeLine_eq]; omega) ?_ ?_
 ·rintro Da i x hx σ H5 R ⟨_, rfl⟩ sm hD _ kk
  obtain ⟨l, hl', rfl⟩ := refsE_get hx
  obtain ⟨dx, nv, hx', hn⟩ := (hE l (List.mem_of_getElem? hl')).same sm
  have hC := ce_all T l.2
  walk_at "rdi"
  exact ⟨_, dx, _, hx', hC.c, hC.n, _, look_number l.2 nv, kk _ _ H5 ⟨_, rfl⟩ (Same.refl _) fun H' _ => ⟨l, hl', rfl⟩⟩
 ·intro Da H' acc hD sm hA hlen hF
  rw [ints_ofE (f := fun l => l.2.num) (by rw [hlen, refsE_len]) hF] at hA
  exact k Da H' hD sm hA
theorem zipM {g : TG} {tb : TS} {D : Ends} {σ : L2.St} {H : Hp} {a b : Addr} {xs ys : List V} (Pv : Nat -> L2.St -> Hp -> Prop) (n : Nat) (hn1 : n <= xs.length) (hn2 : n <= ys.length) (hend : xs.length <= n \/ ys.length <= n) (h0 : Pv 0 σ H) (hl : ∀ i σ H, i <= n -> Pv i σ H -> SqL K H a xs /\ SqL K H b ys)
  (hs : ∀ i x y σ H p, xs[i]? = some x -> ys[i]? = some y -> Pv i σ H -> H p = Option.none -> g (.ref p) σ (upd H p (.tup [x, y])) fun σ2 H2 => tb { D with nx := Pv (i + 1), ct := Pv (i + 1), bk := D.nx } σ2 H2) (hd : ∀ σ H, Pv n σ H -> D.nx σ H) : ForP (Itz K a b) g tb D σ H := by
 refine ⟨fun i m σ H => m = n - i /\ i <= n /\ Pv i σ H, ⟨n, by simp, Nat.zero_le _, h0⟩, ?_⟩
 rintro i m σ H ⟨rfl, hi, p⟩
 obtain ⟨q1, q2⟩ := hl i σ H hi p
 by_cases hlt : i < n
 ·have h1 : i < xs.length := by omega
  have h2 : i < ys.length := by omega
  refine .inr ⟨⟨xs, ys, xs[i], ys[i], q1, q2, by simp, by simp⟩, Pv (i + 1), fun σ' H' p' => ⟨n - (i + 1), by omega, rfl, hlt, p'⟩, fun v H' y => ?_⟩
  obtain ⟨pp, x, y, hp, rfl, rfl, e1, e2⟩ := y
  exact hs i x y σ _ pp (e1 xs q1) (e2 ys q2) p hp
 ·have e : i = n := by omega
  subst e
  exact .inl ⟨⟨xs, ys, q1, q2, hend⟩, hd σ H p⟩
def sp_refuse_twice (K : Fg_) : Sp := fun vs H Q _ => ∃ (a : Addr) (ns : List Int), vs = [.ref a] /\ SqL K H a (ns.map V.int) /\ ns.length < 64 /\ ns.Nodup /\ ∀ H', Same H H' -> Q .non H'
theorem ok_refuse_twice (T : Txt w K mg A D) : FnOk P w K mg base CX0 1 A.refuse_twice D.refuse_twice ["numbers"] (sp_refuse_twice K) := by
 refine T.F_refuse_twice.ok sc_refuse_twice (fun vs H Q E h => ?_) (fun cdv A' outer s0 H vs Q E hr h => ?_)
 ·obtain ⟨a, ns, rfl, _⟩ := h; rfl
 ·obtain ⟨a, ns, rfl, hS, hl, hu, k⟩ := h
  refine ⟨_, (pss_cons (ps_set (i := 1) sc_refuse_twice.nd rfl (Or.inl rfl) (pe_callB (call_sortIK (K := K)) (by rfl) T.b_sorted (by decide +kernel) (pa_cons (pv 0) pa_nil)))
   (pss_one (ps_for PassesOwn.never rfl (pi_zip (K := K) (by rfl) T.b_zip (pa_cons (pv 1) (pa_cons (pe_slice (sl_listK (K := K)) (pv 1) (po_some pe_int) po_none) pa_nil))) (pg_tupK (K := K) (n := 2) rfl (pgs_cons (pg_name (i := 2) sc_refuse_twice.nd rfl (Or.inl rfl)) (pgs_cons (pg_name (i := 3) sc_refuse_twice.nd rfl (Or.inl rfl)) pgs_nil)))
    (pss_one (ps_if (pt_cmpR (op_eq) (pv 2) (pv 3) (nomark _)) (pss_one (ps_never)) pss_nil))))), ?_⟩
  simp only [start_eq]
  walk_at "nx"
  refine ⟨ns, hS, hl, fun p ms hp hpm hord => ?_⟩
  have hms : ms.Nodup := hpm.nodup_iff.mpr hu
  have S1 := Same.new (o := .lst (ms.map V.int)) hp
  have h1 : (upd H p (.lst (ms.map V.int))) p = some (.lst (ms.map V.int)) := upd_same
  generalize upd H p (.lst (ms.map V.int)) = H1 at S1 h1
  try dsimp only
  rw [ap_for]
  walk_at "rdi"
  refine ⟨_, SqL.of h1, fun pc hpc => ?_⟩
  rw [show cutV (ms.map V.int) (some 1) Option.none = (ms.drop 1).map V.int by rw [List.map_drop]; exact cut_from (ms.map V.int) 1]
  have S2 := S1.trans (Same.new (o := .lst ((ms.drop 1).map V.int)) hpc)
  have h2 : (upd H1 pc (.lst ((ms.drop 1).map V.int))) pc = some (.lst ((ms.drop 1).map V.int)) := upd_same
  have h2p := Same.new (o := .lst ((ms.drop 1).map V.int)) hpc _ _ h1
  generalize upd H1 pc (.lst ((ms.drop 1).map V.int)) = H2 at S2 h2 h2p
  refine ⟨⟨_, SqL.of h2p⟩, ⟨_, SqL.of h2⟩, ?_⟩
  refine zipM (K := K) (a := p) (b := pc) (xs := ms.map V.int) (ys := (ms.drop 1).map V.int) (fun i σ Hx => (∃ v2 v3, σ = [some (.ref a), some (.ref p), v2, v3]) /\ Same H2 Hx) (ms.length - 1) (by rw [List.length_map]; omega) (by rw [List.length_map, List.length_drop]; omega) (.inr (by rw [List.length_map, List.length_drop]; omega))
   ⟨⟨_, _, rfl⟩, Same.refl _⟩ (fun i σ Hx _ ⟨_, s⟩ => ⟨s.seq (SqL.of h2p), s.seq (SqL.of h2)⟩) ?_ ?_
  ·rintro i x y σ H3 pt hx hy ⟨⟨v2, v3, rfl⟩, s3⟩ hpt
   rw [List.getElem?_map] at hx hy
   obtain ⟨m1, hm1, rfl⟩ := Option.map_eq_some_iff.mp hx
   obtain ⟨m2, hm2, rfl⟩ := Option.map_eq_some_iff.mp hy
   rw [List.getElem?_drop] at hm2
   have hne : m1 ≠ m2 := by
    obtain ⟨q1, e1⟩ := List.getElem?_eq_some_iff.mp hm1
    obtain ⟨q2, e2⟩ := List.getElem?_eq_some_iff.mp hm2
    have := List.pairwise_iff_getElem.mp hms i (1 + i) q1 q2 (by omega)
    rw [e1, e2] at this
    exact this
   have S3 := s3.trans (Same.new (o := .tup [V.int m1, V.int m2]) hpt)
   have h3 : (upd H3 pt (.tup [V.int m1, V.int m2])) pt = some (.tup [V.int m1, V.int m2]) := upd_same
   generalize upd H3 pt (.tup [V.int m1, V.int m2]) = H4 at S3 h3
   walk_at "rdi"
   refine ⟨_, SqT.of h3, rfl, _, _, rfl, _, _, rfl, rfl, ?_⟩
   refine ⟨rfl, ?_⟩
   rw [if_neg (fun e => hne (by cases e; rfl))]
   exact S3
  ·rintro σ H3 ⟨⟨v2, v3, rfl⟩, s3⟩
   exact k _ (S2.trans s3)
end
end My
namespace My
open PySem L2 PyProof.Rows
section
variable {P : Program} {w : World} {K : Fg_} {mg : Str -> Option Value} {base : Heap} {A : Adr} {D : Fds}
local macro_rules | `(tactic| walk_at "nx") => `(tactic| ((try dsimp only); rw [ap_seq]; walk_at "rdi"))
def sp_place_of (A : Adr) : Sp := fun vs H Q _ => ∃ (x : Addr) (e : Ent), vs = [.ref x] /\ IsE A H x e /\ ∀ t, H t = Option.none -> Q (.ref t) (upd H t (.tup [.int e.day, .int e.num]))
theorem ok_place_of (T : Txt w K mg A D) : FnOk P w K mg base CX0 1 A.place_of D.place_of ["entry"] (sp_place_of A) := by
 refine T.F_place_of.ok sc_place_of (fun vs H Q E h => ?_) (fun cdv A' outer s0 H vs Q E hr h => ?_)
 ·obtain ⟨x, e, rfl, _⟩ := h; rfl
 ·obtain ⟨x, e, rfl, ⟨dx, nv, hx, hn⟩, k⟩ := h
  refine ⟨_, (pss_one (ps_ret (pe_tup (pa_cons (pe_fldK (K := K) (pv 0) rfl) (pa_cons (pe_fldK (K := K) (pv 0) rfl) pa_nil))))), ?_⟩
  have hC := ce_all T e
  walk_at "rda"
  exact ⟨_, dx, _, hx, hC.c, hC.d, _, look_day e nv, _, dx, _, hx, hC.c, hC.n, _, look_number e nv, by rw [sizeLine_eq]; decide, fun t ht => k t ht⟩
def toIe : V -> Int
 | .int i => i
 | _ => 0
def kfE (H : Hp) : V -> List Int
 | .ref b => match H b with
  | some (.ins _ _ fs) => [toIe ((fs.lookup (Str.ofString "day")).getD .non), toIe ((fs.lookup (Str.ofString "number")).getD .non)]
  | _ => []
 | _ => []
theorem kfE_at {H : Hp} {b : Addr} {e : Ent} (h : IsE A H b e) : kfE H (.ref b) = [e.day, e.num] := by
 obtain ⟨dx, nv, hx, _⟩ := h
 unfold kfE
 dsimp only
 rw [hx]
 dsimp only
 rw [look_day, look_number]
 rfl
def BfE (d e : Ent) : Prop := d.day < e.day \/ (d.day = e.day /\ d.num < e.num)
theorem BfE.asym {d e : Ent} (h : BfE d e) (h' : BfE e d) : False := by
 unfold BfE at h h'
 omega
theorem lex_bfe {d e : Ent} (h : lexB [d.day, d.num] [e.day, e.num] false = true) (hn : d.num ≠ e.num) : BfE d e := by
 rw [lexB] at h
 by_cases e1 : d.day = e.day
 ·rw [if_pos e1, lexB, if_neg hn] at h
  exact .inr ⟨e1, of_decide_eq_true h⟩
 ·rw [if_neg e1] at h
  exact .inl (of_decide_eq_true h)
theorem bfe_eq {l k : List Ent} (h : l.Perm k) (h1 : l.Pairwise BfE) (h2 : k.Pairwise BfE) : l = k := List.Perm.eq_of_pairwise (fun a b _ _ x y => (x.asym y).elim) h1 h2 h
theorem perm_pull' {α : Type} {f : α -> V} : ∀ {zs ys : List V}, zs.Perm ys -> ∀ {rs : List α}, ys = rs.map f -> ∃ rs' : List α, zs = rs'.map f /\ rs'.Perm rs := by
 intro zs ys h
 induction h with
 | nil => intro rs e; exact ⟨[], rfl, by cases rs with | nil => exact .nil | cons _ _ => cases e⟩
 | cons x _ ih =>
  intro rs e
  cases rs with
  | nil => cases e
  | cons r rs =>
   rw [List.map_cons] at e
   obtain ⟨e1, e2⟩ := List.cons.inj e
   obtain ⟨rs', a1, a2⟩ := ih e2
   exact ⟨r :: rs', by rw [List.map_cons, <- a1, e1], a2.cons r⟩
 | swap x y l =>
  intro rs e
  cases rs with
  | nil => cases e
  | cons r rs => cases rs with
   | nil => cases e
   | cons r2 rs =>
    rw [List.map_cons, List.map_cons] at e
    obtain ⟨e1, e2⟩ := List.cons.inj e
    obtain ⟨e3, e4⟩ := List.cons.inj e2
    exact ⟨r2 :: r :: rs, by rw [List.map_cons, List.map_cons, e1, e3, e4], .swap _ _ _⟩
 | trans _ _ ih1 ih2 =>
  intro rs e
  obtain ⟨r2, a1, a2⟩ := ih2 e
  obtain ⟨r3, b1, b2⟩ := ih1 a1
  exact ⟨r3, b1, b2.trans a2⟩
def sp_in_order (A : Adr) : Sp := fun vs H Q _ => ∃ (q : Addr) (es : EL), vs = [.ref q] /\ H q = some (.lst (refsE es)) /\ EntAt A H es /\ es.length < 64 /\ (es.map (·.2.num)).Nodup /\
 ∀ p es' H', Same H H' -> H p = Option.none -> H' p = some (.lst (refsE es')) -> es'.Perm es -> (es'.map (·.2)).Pairwise BfE -> Q (.ref p) H'
theorem ok_in_order (T : Txt w K mg A D) : FnOk P w K mg base CX0 4 A.in_order D.in_order ["entries"] (sp_in_order A) := by
 refine T.F_in_order.ok sc_in_order (fun vs H Q E h => ?_) (fun cdv A' outer s0 H vs Q E hr h => ?_)
 ·obtain ⟨q, es, rfl, _⟩ := h; rfl
 ·obtain ⟨q, es, rfl, hq, hE, hl, hu, k⟩ := h
  refine ⟨_, (pss_cons (ps_expr (pe_call (ok_refuse_twice (K := K) T) (hr.mono (by decide)) (by rfl) T.m_refuse_twice T.k_refuse_twice (b_refuse_twice T) .nil pass0 (pa_cons (pe_comp (cap := [Option.none]) (N' := ["entry"]) rfl (by walk_at "compok") (pi_listK (K := K) (pv 0)) (fun _ _ _ _ => (pg_name (i := 0) (show (["entry"] : List Str).Nodup from by decide +kernel) rfl (Or.inl rfl) (Or.inr rfl))) (fun _ _ _ _ => pts_nil) (fun _ _ _ _ => (pe_fldK (K := K) (pv 0) rfl))) pa_nil)))
   (pss_one (ps_ret (pe_sortKeyK (K := K) (by rfl) (pe_sortKey (ok_place_of (K := K) T) (hr.mono (by decide)) (b_place_of T) (by rfl) T.b_sorted (by decide +kernel) (by rfl) T.m_place_of (pa_cons (pv 0) pa_nil)))))), ?_⟩
  simp only [start_eq]
  walk_at "nx"
  refine ⟨⟨_, SqL.of hq⟩, num_comp T hq hE (by omega) fun D1 H1 hD1 s1 h1 => ?_⟩
  refine ⟨D1, _, rfl, SqL.of h1, by rw [List.length_map]; exact hl, hu, fun H2 s2 => ?_⟩
  have S2 := s1.trans s2
  have hE2 := hE.same S2
  walk_at "rdi"
  refine ⟨_, SqL.of (S2 _ _ hq), by rw [refsE_len]; exact hl, kfE H2, fun y hy => ?_, fun p zs H3 s3 hn hz hperm hord => ?_⟩
  ·obtain ⟨o, ho, rfl⟩ := List.mem_map.mp hy
   rw [kfE_at (hE2 o ho)]
   refine ⟨by simp, fun H5 s5 R hR => ⟨o.1, o.2, rfl, (hE2 o ho).same s5, fun t ht => hR t _ (Same.new ht) ?_⟩⟩
   rw [kfE_at (hE2 o ho)]
   exact upd_same
  ·obtain ⟨os, rfl, hpm⟩ := perm_pull' (f := fun r : Addr × Ent => V.ref r.1) hperm rfl
   have hou : es.Pairwise fun a b => a.2.num ≠ b.2.num := List.pairwise_map.mp hu
   have hou' : os.Pairwise fun a b => a.2.num ≠ b.2.num := by
    have : (os.map fun r => r.2.num).Nodup := (hpm.map fun r => r.2.num).nodup_iff.mpr hu
    exact List.pairwise_map.mp this
   have hor := hord 2 (fun y hy => by
    obtain ⟨r, hr, rfl⟩ := List.mem_map.mp hy
    rw [kfE_at (hE2 r hr)]
    rfl) (by
    refine List.pairwise_map.mpr (List.pairwise_map.mpr (List.Pairwise.imp_of_mem (fun {a b} ha hb hne z => hne ?_) hou))
    rw [kfE_at (hE2 a ha), kfE_at (hE2 b hb)] at z
    exact (List.cons.inj (List.cons.inj z).2).1)
   refine k p os H3 (S2.trans s3) (S2.free hn) hz hpm ?_
   refine List.pairwise_map.mpr (List.Pairwise.imp_of_mem (fun {a b} ha hb h => ?_) ((List.pairwise_map.mp hor).and hou'))
   have h1 := h.1
   rw [kfE_at (hE2 a (hpm.mem_iff.mp ha)), kfE_at (hE2 b (hpm.mem_iff.mp hb))] at h1
   exact lex_bfe h1 h.2
end
end My
namespace My
open PySem L2 PyProof.Rows
section
variable {P : Program} {w : World} {K : Fg_} {mg : Str -> Option Value} {base : Heap} {A : Adr} {D : Fds}
def Ent.rest : Ent -> List V
 | .buy _ _ _ p r f => [.int p, .int r, .int f]
 | .sell _ _ _ p r f _ => [.int p, .int r, .int f]
 | .gift _ _ _ p c s => [.int p, .int c, .int s]
 | .give _ _ _ p _ => [.int p]
 | .split _ _ _ m f => [.int m, .int f]
 | .part _ _ _ u s t => [.str u, .int s, .int t]
def lotW (r : Addr × Int × Int) : Str := strI r.2.1 ++ Str.ofString ":" ++ strI r.2.2
def nwO : Option Rs -> List Str
 | Option.none => []
 | some rs => rs.map lotW
def Ent.ws (e : Ent) : List V := [.int e.day, .int e.num, .str e.word, .str e.ware] ++ e.rest ++ (nwO e.lots).map V.str
def sV : V -> Str
 | .int i => strI i
 | .str z => z
 | _ => Str.empty
def rowT (ws : List V) : Str := Txt.join (Str.ofString " ") (ws.map sV) ++ Str.ofString "\n"
def showT (os : List Ent) : Str := Txt.join (Str.ofString "") (os.map fun e => rowT e.ws)
def textT (os : List Ent) : Str := os.foldl (fun t e => t ++ rowT e.ws) (Str.ofString "")
theorem str_assoc (a b c : Str) : a ++ b ++ c = a ++ (b ++ c) := by
 show Str.mk (a.cps ++ b.cps ++ c.cps) = Str.mk (a.cps ++ (b.cps ++ c.cps))
 rw [Array.append_assoc]
theorem str_len (a b : Str) : (a ++ b).length = a.length + b.length := by
 show (a.cps ++ b.cps).size = _
 rw [Array.size_append]; rfl
theorem nil_cps : (Str.ofString "").cps = #[] := by decide +kernel
theorem fold_cps : ∀ (xs : List Str) (a : Array _), xs.foldl (fun acc p => acc ++ (Str.ofString "").cps ++ p.cps) a = (xs.foldl (fun (t : Str) x => t ++ x) ⟨a⟩).cps
 | [], a => rfl
 | x :: xs, a => by
  rw [List.foldl_cons, List.foldl_cons, fold_cps xs, nil_cps, Array.append_empty]
  rfl
theorem str_nil (x : Str) : Str.ofString "" ++ x = x := by
 show Str.mk ((Str.ofString "").cps ++ x.cps) = x
 rw [nil_cps, Array.empty_append]
theorem join_cat (xs : List Str) : Txt.join (Str.ofString "") xs = xs.foldl (fun t x => t ++ x) (Str.ofString "") := by
 cases xs with
 | nil =>
  show Str.mk Str.empty.cps = Str.ofString ""
  have : (Str.ofString "").cps = Str.empty.cps := by rw [nil_cps]; rfl
  rw [<- this]
 | cons x xs =>
  show Str.mk (xs.foldl (fun acc p => acc ++ (Str.ofString "").cps ++ p.cps) x.cps) = _
  rw [fold_cps, List.foldl_cons, str_nil]
theorem text_show (os : List Ent) : showT os = textT os := by
 unfold showT textT
 rw [join_cat, List.foldl_map]
def WordV (v : V) : Prop := (∃ i : Int, v = .int i /\ i.natAbs < 2 ^ 300) \/ ∃ z : Str, v = .str z /\ z.length <= 1000
theorem sV_len {v : V} (h : WordV v) : (sV v).length <= 1000 := by
 rcases h with ⟨i, rfl, hi⟩ | ⟨z, rfl, hz⟩
 ·exact Nat.le_trans (strI_len hi) (by decide)
 ·exact hz
theorem sum_words : ∀ {ws : List V}, (∀ v ∈ ws, WordV v) -> ((ws.map sV).map (·.length)).sum <= 1000 * ws.length
 | [], _ => Nat.zero_le _
 | v :: ws, h => by
  have h1 := sV_len (h v List.mem_cons_self)
  have h2 := sum_words fun x hx => h x (List.mem_cons_of_mem _ hx)
  rw [List.map_cons, List.map_cons, List.sum_cons, List.length_cons]
  omega
theorem row_len {ws : List V} (h : ∀ v ∈ ws, WordV v) : (rowT ws).length <= 1001 * ws.length + 1 := by
 have h1 := sum_words h
 have h2 := StrLaws.join_length_le (Str.ofString " ") (ws.map sV)
 have e1 : (Str.ofString " ").length = 1 := by decide +kernel
 have e2 : (Str.ofString "\n").length = 1 := by decide +kernel
 rw [List.length_map, e1] at h2
 have h3 : (Txt.join (Str.ofString " ") (ws.map sV)).length <= ((ws.map sV).map (·.length)).sum + ws.length * 1 := by
  have e3 : Txt.join (Str.ofString " ") (ws.map sV) = Str.join (Str.ofString " ") (ws.map sV) := StrLaws.glued_eq_join _ _
  rw [e3]
  exact h2
 unfold rowT
 rw [str_len, e2]
 omega
theorem big_small {i : Int} (h : i.natAbs <= 1000000000000000000) : i.natAbs < 2 ^ 300 := Nat.lt_of_le_of_lt h (by decide)
theorem word_int {i : Int} (h0 : 0 <= i) (h1 : i <= 1000000000000000000) : WordV (.int i) := .inl ⟨i, rfl, big_small (by omega)⟩
theorem nm_word {z : Str} (h : Nm z) : WordV (.str z) := .inr ⟨z, rfl, Nat.le_trans h.2.1 (by decide)⟩
theorem lotW_len {p : Int} {rs : Rs} (h : GoodN rs p) (hp : p <= 1000000000) {r : Addr × Int × Int} (hr : r ∈ rs) : (lotW r).length <= 1000 := by
 obtain ⟨b0, b1, b2, b3⟩ := h.b r hr
 have h1 := strI_len (big_small (i := r.2.1) (by omega))
 have h2 := strI_len (big_small (i := r.2.2) (by omega))
 unfold lotW
 rw [str_len, str_len]
 have e : (Str.ofString ":").length = 1 := by decide +kernel
 omega
theorem good_o {e : Ent} (h : e.good) : ∃ p, p <= 1000000000 /\ GoodO p e.lots := by
 cases e with
 | sell d n w p r f o => exact ⟨p, h.2.1.2, h.2.2.2.2⟩
 | give d n w p o => exact ⟨p, h.2.1.2, h.2.2⟩
 | _ => exact ⟨0, by decide, trivial⟩
theorem rest_ok {e : Ent} (h : e.good) : (∀ v ∈ e.rest, WordV v) /\ e.rest.length <= 3 := by
 have key : ∀ {l : List V}, (∀ v ∈ l, WordV v) -> ∀ {v : V}, WordV v -> ∀ x ∈ v :: l, WordV x := fun hl _ hv x hx => by
  rcases List.mem_cons.mp hx with rfl | hx
  ·exact hv
  ·exact hl x hx
 have nl : ∀ v ∈ ([] : List V), WordV v := fun v hv => (List.not_mem_nil hv).elim
 cases e with
 | buy d n w p r f =>
  obtain ⟨_, ⟨a1, a2⟩, ⟨b1, b2⟩, c1, c2⟩ := h
  exact ⟨key (key (key nl (word_int (by omega) (by omega))) (word_int (by omega) (by omega))) (word_int (by omega) (by omega)), by simp [Ent.rest]⟩
 | sell d n w p r f o =>
  obtain ⟨_, ⟨a1, a2⟩, ⟨b1, b2⟩, ⟨c1, c2⟩, _⟩ := h
  exact ⟨key (key (key nl (word_int (by omega) (by omega))) (word_int (by omega) (by omega))) (word_int (by omega) (by omega)), by simp [Ent.rest]⟩
 | gift d n w p c s =>
  obtain ⟨b, ⟨a1, a2⟩, ⟨b1, b2⟩, c1, c2⟩ := h
  have := b.d1
  exact ⟨key (key (key nl (word_int (by omega) (by omega))) (word_int (by omega) (by omega))) (word_int (by omega) (by omega)), by simp [Ent.rest]⟩
 | give d n w p o =>
  obtain ⟨_, ⟨a1, a2⟩, _⟩ := h
  exact ⟨key nl (word_int (by omega) (by omega)), by simp [Ent.rest]⟩
 | split d n w m f =>
  obtain ⟨_, ⟨a1, a2⟩, b1, b2⟩ := h
  exact ⟨key (key nl (word_int (by omega) (by omega))) (word_int (by omega) (by omega)), by simp [Ent.rest]⟩
 | part d n w u s t =>
  obtain ⟨_, hu, _, ⟨a1, a2⟩, b1, b2⟩ := h
  exact ⟨key (key (key nl (word_int (by omega) (by omega))) (word_int (by omega) (by omega))) (nm_word hu), by simp [Ent.rest]⟩
theorem good_base {e : Ent} (h : e.good) : Base e.day e.num e.ware := by cases e <;> exact h.1
theorem kind_word (e : Ent) : WordV (.str e.word) := .inr ⟨_, rfl, by cases e <;> (simp only [Ent.word]; decide +kernel)⟩
theorem nwO_ok {e : Ent} (h : e.good) : (∀ z ∈ nwO e.lots, z.length <= 1000) /\ (nwO e.lots).length <= 5 := by
 obtain ⟨p, hp, ho⟩ := good_o h
 cases e0 : e.lots with
 | none => exact ⟨fun z hz => (List.not_mem_nil hz).elim, Nat.zero_le _⟩
 | some rs =>
  rw [e0] at ho
  refine ⟨fun z hz => ?_, ?_⟩
  ·obtain ⟨r, hr, rfl⟩ := List.mem_map.mp hz
   exact lotW_len ho hp hr
  ·show (rs.map lotW).length <= 5
   rw [List.length_map]
   exact ho.l
theorem ws_ok {e : Ent} (h : e.good) : (∀ v ∈ e.ws, WordV v) /\ e.ws.length <= 12 := by
 obtain ⟨r1, r2⟩ := rest_ok h
 obtain ⟨n1, n2⟩ := nwO_ok h
 have b := good_base h
 unfold Ent.ws
 refine ⟨fun v hv => ?_, ?_⟩
 ·rcases List.mem_append.mp hv with hv | hv
  ·rcases List.mem_append.mp hv with hv | hv
   ·have h1 := b.d0; have h2 := b.d1; have h3 := b.n0; have h4 := b.n1
    simp only [List.mem_cons, List.not_mem_nil, or_false] at hv
    rcases hv with rfl | rfl | rfl | rfl
    ·exact word_int h1 (by omega)
    ·exact word_int h3 (by omega)
    ·exact kind_word e
    ·exact nm_word b.w
   ·exact r1 v hv
  ·obtain ⟨z, hz, rfl⟩ := List.mem_map.mp hv
   exact .inr ⟨z, rfl, n1 z hz⟩
 ·rw [List.length_append, List.length_append, List.length_map]
  show 4 + _ + _ <= 12
  omega
theorem rowE_len {e : Ent} (h : e.good) : (rowT e.ws).length <= 12013 := by
 obtain ⟨h1, h2⟩ := ws_ok h
 have := row_len h1
 have : 1001 * e.ws.length <= 1001 * 12 := Nat.mul_le_mul_left _ h2
 omega
theorem text_len : ∀ (os : List Ent), (∀ e ∈ os, e.good) -> (os.map fun e => (rowT e.ws).length).sum <= 12013 * os.length
 | [], _ => Nat.zero_le _
 | e :: os, h => by
  have h1 := rowE_len (h e List.mem_cons_self)
  have h2 := text_len os fun x hx => h x (List.mem_cons_of_mem _ hx)
  rw [List.map_cons, List.sum_cons, List.length_cons]
  omega
def Ent.nml : Ent -> Bool
 | .sell .. => true
 | .give .. => true
 | _ => false
theorem args_form (e : Ent) (nt : V) : (e.nml = true /\ e.args nt = [.int e.day, .int e.num, .str e.ware] ++ e.rest ++ [nt]) \/ (e.nml = false /\ e.lots = Option.none /\ e.args nt = [.int e.day, .int e.num, .str e.ware] ++ e.rest) := by
 cases e with
 | sell => exact .inl ⟨rfl, rfl⟩
 | give => exact .inl ⟨rfl, rfl⟩
 | _ => exact .inr ⟨rfl, rfl, rfl⟩
theorem nml_in (e : Ent) : inV (V.str e.word) [V.str (Str.ofString "sell"), V.str (Str.ofString "give")] = e.nml := by
 cases e <;> (simp only [Ent.word, Ent.nml]; decide +kernel)
end
end My
namespace My
open PySem L2 PyProof.Rows
section
variable {P : Program} {w : World} {K : Fg_} {mg : Str -> Option Value} {base : Heap} {A : Adr} {D : Fds}
local macro_rules | `(tactic| walk_at "nx") => `(tactic| ((try dsimp only); rw [ap_seq]; walk_at "rdi"))
def lwV (H : Hp) : V -> V
 | .ref b => match H b with
  | some (.tup [.int i, .int j]) => .str (strI i ++ Str.ofString ":" ++ strI j)
  | _ => .non
 | _ => .non
theorem lwV_at {H : Hp} {r : Addr × Int × Int} (h : H r.1 = some (.tup [.int r.2.1, .int r.2.2])) : lwV H (.ref r.1) = .str (lotW r) := by
 unfold lwV
 dsimp only
 rw [h]
 rfl
theorem lw_map {H : Hp} : ∀ {rs : Rs}, Lots H rs -> (refs rs).map (lwV H) = (rs.map lotW).map V.str
 | [], _ => rfl
 | r :: rs, h => by
  have h1 := lwV_at (h r List.mem_cons_self)
  have h2 := lw_map (rs := rs) fun x hx => h x (List.mem_cons_of_mem _ hx)
  unfold refs at h2 ⊢
  rw [List.map_cons, List.map_cons, List.map_cons, List.map_cons, h1, h2]
def sp_words_of_named (K : Fg_) : Sp := fun vs H Q _ => ∃ (v : V) (o : Option Rs) (p : Int), vs = [v] /\ NT H v o /\ GoodO p o /\ p <= 1000000000 /\
 ∀ q H', Same H H' -> H q = Option.none -> H' q = some (.lst ((nwO o).map V.str)) -> Q (.ref q) H'
theorem ok_words_of_named (T : Txt w K mg A D) : FnOk P w K mg base CX0 1 A.words_of_named D.words_of_named ["named"] (sp_words_of_named K) := by
 refine T.F_words_of_named.ok sc_words_of_named (fun vs H Q E h => ?_) (fun cdv A' outer s0 H vs Q E hr h => ?_)
 ·obtain ⟨v, o, p, rfl, _⟩ := h; rfl
 ·obtain ⟨v, o, p, rfl, hn, hg, hp, k⟩ := h
  refine ⟨_, (pss_one (ps_ret (pe_ifExp (pt_cmpR (op_isN) (pv 0) pe_non (nomark _)) (pe_lst pa_nil) (pe_comp (cap := [Option.none, Option.none]) (N' := ["lot", "pieces"]) rfl (by walk_at "compok") (pi_tupK (K := K) (pv 0)) (fun _ _ _ _ => (pg_tupK (K := K) (n := 2) rfl (pgs_cons (pg_name (i := 0) (show (["lot", "pieces"] : List Str).Nodup from by decide +kernel) rfl (Or.inl rfl) (Or.inr rfl)) (pgs_cons (pg_name (i := 1) (show (["lot", "pieces"] : List Str).Nodup from by decide +kernel) rfl (Or.inl rfl) (Or.inr rfl)) pgs_nil)))) (fun _ _ _ _ => pts_nil) (fun _ _ _ _ => (pe_fstrII (pv 0) (pv 1))))))), ?_⟩
  cases o with
  | none =>
   cases hn
   walk_at "rda"
   exact ⟨Nat.zero_le _, fun q hq => k q _ (Same.new hq) hq upd_same⟩
  | some rs =>
   obtain ⟨l, rfl, hl, hL⟩ := hn
   have hg : GoodN rs p := hg
   walk_at "rda"
   refine ⟨⟨_, SqT.of hl⟩, ?_⟩
   refine CompP.tupF (fun σ => ∃ a b, σ = [a, b]) (lwV H) (SqT.of hl) ⟨_, _, rfl⟩ (by rw [refs_len, sizeLine_eq]; have := hg.l; omega) ?_ ?_
   ·rintro x hx σ H5 R ⟨_, _, rfl⟩ sm kk
    obtain ⟨r, hr, rfl⟩ := List.mem_map.mp hx
    have ht := hL r hr
    obtain ⟨b0, b1, b2, b3⟩ := hg.b r hr
    rw [lwV_at ht] at kk
    walk_at "rdi"
    exact ⟨_, SqT.of (sm _ _ ht), rfl, _, _, rfl, _, _, rfl, rfl, _, rfl, big_small (by omega), _, rfl, big_small (by omega), kk _ _ ⟨_, _, rfl⟩ (Same.refl _)⟩
   ·intro D H' hD s e
    rw [lw_map hL] at e
    exact k D H' s hD e
def sp_row_of_words (K : Fg_) : Sp := fun vs H Q _ => ∃ (q : Addr) (ws : List V), vs = [.ref q] /\ H q = some (.lst ws) /\ (∀ v ∈ ws, WordV v) /\ ws.length <= 12 /\ ∀ H', Same H H' -> Q (.str (rowT ws)) H'
theorem sV_map : ∀ ws : List V, (ws.filter fun _ => true).map (fun v => V.str (sV v)) = (ws.map sV).map V.str := fun ws => by
 rw [List.filter_eq_self.mpr fun _ _ => rfl, List.map_map]
 rfl
theorem ok_row_of_words (T : Txt w K mg A D) : FnOk P w K mg base CX0 1 A.row_of_words D.row_of_words ["words"] (sp_row_of_words K) := by
 refine T.F_row_of_words.ok sc_row_of_words (fun vs H Q E h => ?_) (fun cdv A' outer s0 H vs Q E hr h => ?_)
 ·obtain ⟨q, ws, rfl, _⟩ := h; rfl
 ·obtain ⟨q, ws, rfl, hq, hw, hl, k⟩ := h
  refine ⟨_, (pss_one (ps_ret (pe_op op_add_str (pe_bmK (K := K) PySem.F.plainAttrs_str PySem.F.slot_str_join PySem.F.type_str_join mt_join pe_str (pa_cons (pe_comp (cap := [Option.none]) (N' := ["word"]) rfl (by walk_at "compok") (pi_listK (K := K) (pv 0)) (fun _ _ _ _ => (pg_name (i := 0) (show (["word"] : List Str).Nodup from by decide +kernel) rfl (Or.inl rfl) (Or.inr rfl))) (fun _ _ _ _ => pts_nil) (fun _ _ _ _ => (pe_callTy call_strV (by rfl) T.b_str (by decide +kernel) (pa_cons (pv 0) pa_nil)))) pa_nil)) pe_str))), ?_⟩
  walk_at "rda"
  refine ⟨rfl, ⟨_, SqL.of hq⟩, ?_⟩
  refine CompP.list (K := K) (xs := ws) (fun σ => ∃ a, σ = [a]) (fun _ => true) (fun v => .str (sV v)) (SqL.of hq) ⟨_, rfl⟩ (by rw [sizeLine_eq]; omega) ?_ ?_
  ·rintro x hx σ H5 R1 R2 ⟨_, rfl⟩ sm k1 k2
   walk_at "rdi"
   rcases hw x hx with ⟨i, rfl, hi⟩ | ⟨z, rfl, hz⟩
   ·exact .inl ⟨i, rfl, hi, k1 rfl _ _ ⟨_, rfl⟩ (Same.refl _)⟩
   ·exact .inr ⟨z, rfl, k1 rfl _ _ ⟨_, rfl⟩ (Same.refl _)⟩
  ·intro D H' hD s e
   rw [sV_map] at e
   have h1 := sum_words hw
   have e1 : (Str.ofString " ").length = 1 := by decide +kernel
   have e2 : (Str.ofString "\n").length = 1 := by decide +kernel
   have h2 := row_len hw
   unfold rowT at h2
   rw [str_len, e2] at h2
   refine ⟨_, D, _, rfl, rfl, e, by rw [List.length_map, e1]; omega, ?_⟩
   exact ⟨_, rfl, by rw [e2, sizeLine_eq]; omega, k H' s⟩
theorem cut_tail (xs ys : List V) : cutV (xs ++ ys) (some (xs.length : Int)) Option.none = ys := by rw [cut_from, List.drop_left]
theorem cut_head (xs ys : List V) : cutV (xs ++ ys) Option.none (some (xs.length : Int)) = xs := by rw [cut_none, List.take_left]
end
end My
namespace My
open PySem L2 PyProof.Rows
section
variable {P : Program} {w : World} {K : Fg_} {mg : Str -> Option Value} {base : Heap} {A : Adr} {D : Fds}
local macro_rules | `(tactic| walk_at "nx") => `(tactic| ((try dsimp only); rw [ap_seq]; walk_at "rdi"))
theorem seq_ix {i : Int} {n : Nat} (h0 : 0 <= i) (h1 : i < n) : seqIndex? i n = some i.toNat := by
 unfold seqIndex?
 have h : ¬ i < 0 := by omega
 simp [h, h0, h1]
theorem seq_genL {t u : TS} {D : Ends} {σ : L2.St} {H : Hp} (P : L2.St -> Hp -> Prop) (k : ∀ σ' H', P σ' H' -> u D σ' H') (h : ∀ N : L2.St -> Hp -> Prop, (∀ σ' H', P σ' H' -> N σ' H') -> t { D with nx := N } σ H) : tSeq t u D σ H := h (u D) k
def sp_words_of_entry (K : Fg_) (A : Adr) : Sp := fun vs H Q _ => ∃ (x : Addr) (e : Ent), vs = [.ref x] /\ IsE A H x e /\ e.good /\ ∀ q H', Same H H' -> H q = Option.none -> H' q = some (.lst e.ws) -> Q (.ref q) H'
theorem ok_words_of_entry (T : Txt w K mg A D) : FnOk P w K mg base CX0 3 A.words_of_entry D.words_of_entry ["entry"] (sp_words_of_entry K A) := by
 refine T.F_words_of_entry.ok sc_words_of_entry (fun vs H Q E h => ?_) (fun cdv A' outer s0 H vs Q E hr h => ?_)
 ·obtain ⟨x, e, rfl, _⟩ := h; rfl
 ·obtain ⟨x, e, rfl, ⟨dx, nv, hx, hn⟩, hg, k⟩ := h
  refine ⟨_, (pss_cons (ps_set (i := 1) sc_words_of_entry.nd rfl (Or.inl rfl) (pe_callTy (call_listK (K := K)) (by rfl) T.b_list (by decide +kernel) (pa_cons (pe_methD0 (pv 0) (.cons T.cl_Buy T.me_Buy_told (ok_Buy_told (K := K) T) (hr.mono (by decide)) (b_Buy_told T) (.cons T.cl_Sell T.me_Sell_told (ok_Sell_told (K := K) T) (hr.mono (by decide)) (b_Sell_told T) (.cons T.cl_Gift T.me_Gift_told (ok_Gift_told (K := K) T) (hr.mono (by decide)) (b_Gift_told T) (.cons T.cl_Give T.me_Give_told (ok_Give_told (K := K) T) (hr.mono (by decide)) (b_Give_told T) (.cons T.cl_Split T.me_Split_told (ok_Split_told (K := K) T) (hr.mono (by decide)) (b_Split_told T) (.cons T.cl_Parting T.me_Parting_told (ok_Parting_told (K := K) T) (hr.mono (by decide)) (b_Parting_told T) .nil)))))) pass0) pa_nil)))
   (pss_cons (ps_set (i := 2) sc_words_of_entry.nd rfl (Or.inl rfl) (pe_bmK (K := K) PySem.F.plainAttrs_list PySem.F.slot_list_pop PySem.F.type_list_pop mt_popAt (pv 1) (pa_cons pe_int pa_nil)))
   (pss_cons (ps_set (i := 3) sc_words_of_entry.nd rfl (Or.inl rfl) (pe_ifExp (pt_cmpR (op_inK (K := K)) (pv 2) (pe_glob (v := V.ref A.v_KINDS_THAT_NAME_LOTS) (by rfl) T.gt_KINDS_THAT_NAME_LOTS rfl) (by with_unfolding_all rfl)) (pe_bm0K (K := K) PySem.F.plainAttrs_list PySem.F.slot_list_pop PySem.F.type_list_pop mt_pop (pv 1)) pe_non))
   (pss_one (ps_ret (pe_op op_cat (pe_op op_cat (pe_op op_cat (pe_slice (sl_listK (K := K)) (pv 1) po_none (po_some pe_int)) (pe_lst (pa_cons (pv 2) pa_nil))) (pe_slice (sl_listK (K := K)) (pv 1) (po_some pe_int) po_none)) (pe_call (ok_words_of_named (K := K) T) (hr.mono (by decide)) (by rfl) T.m_words_of_named T.k_words_of_named (b_words_of_named T) .nil pass0 (pa_cons (pv 3) pa_nil)))))))), ?_⟩
  simp only [start_eq]
  obtain ⟨isT, hkT, hmT⟩ := mem_T A e
  obtain ⟨p, hp, hgo⟩ := good_o hg
  walk_at "nx"
  refine ⟨_, dx, _, hx, _, hmT, look_told e nv, x, e, hkT, rfl, ⟨dx, nv, hx, hn⟩, fun t nt H1 s1 htn h1 hnt => ?_⟩
  refine ⟨t, _, rfl, .inr (SqT.of h1), fun q hq => ?_⟩
  have S2 := s1.trans (Same.new (o := .lst (.str e.word :: e.args nt)) hq)
  have h2 : (upd H1 q (.lst (.str e.word :: e.args nt))) q = some (.lst (.str e.word :: e.args nt)) := upd_same
  have hnt2 := hnt.same (Same.new (o := .lst (.str e.word :: e.args nt)) hq)
  have hqn := s1.free hq
  generalize upd H1 q (.lst (.str e.word :: e.args nt)) = H2 at S2 h2 hnt2
  have ntp : ∀ {xs : List V} {Hx : Hp}, NT Hx nt e.lots -> Hx q = some (.lst xs) -> ∀ ys, NT (upd Hx q (.lst ys)) nt e.lots := fun {xs Hx} h hq ys => by
   revert h
   cases e.lots with
   | none => exact fun h => h
   | some rs =>
    rintro ⟨l, e0, hl, hL⟩
    exact ⟨l, e0, (upd_ne fun z => by rw [z, hq] at hl; cases hl).trans hl, fun r hr => (upd_ne fun z => by have := hL r hr; rw [z, hq] at this; cases this).trans (hL r hr)⟩
  walk_at "nx"
  refine ⟨.inl ⟨rfl, _, SqL.of h2⟩, q, _, 0, 0, _, rfl, rfl, h2, by decide, by decide, seq_ix (i := 0) (by decide) (by rw [List.length_cons]; omega), rfl, ?_⟩
  rw [show (V.str e.word :: e.args nt).eraseIdx 0 = e.args nt from rfl]
  have S3 : Same H (upd H2 q (.lst (e.args nt))) := S2.upd hqn
  have h3 : (upd H2 q (.lst (e.args nt))) q = some (.lst (e.args nt)) := upd_same
  have hnt3 := ntp hnt2 h2 (e.args nt)
  generalize upd H2 q (.lst (e.args nt)) = H3 at S3 h3 hnt3
  try dsimp only
  refine seq_genL (fun σ' H' => ∃ u, σ' = [some (.ref x), some (.ref q), some (.str e.word), some u] /\ Same H H' /\ H' q = some (.lst ([V.int e.day, V.int e.num] ++ (V.str e.ware :: e.rest))) /\ NT H' u e.lots) ?_ ?_
  rotate_left
  ·intro N hN
   walk_at "rdi"
   refine ⟨_, .inr (T.st_KINDS_THAT_NAME_LOTS H3), rfl, rfl, ?_⟩
   rw [nml_in]
   rcases args_form e nt with ⟨hm, ha⟩ | ⟨hm, hlo, ha⟩
   ·rw [if_pos hm]
    rw [ha] at h3
    refine ⟨.inl ⟨rfl, _, SqL.of h3⟩, q, _, nt, rfl, rfl, h3, by simp, hN _ _ ⟨_, rfl, S3.upd hqn, ?_, ntp hnt3 h3 _⟩⟩
    rw [upd_same, List.dropLast_concat]
    rfl
   ·rw [if_neg (by rw [hm]; decide)]
    rw [ha] at h3
    exact hN _ _ ⟨_, rfl, S3, h3, by rw [hlo]; rfl⟩
  rintro σ' H4 ⟨u, rfl, S4, h4, hn4⟩
  try dsimp only
  walk_at "rdi"
  refine ⟨_, SqL.of h4, fun p5 hp5 => ?_⟩
  rw [show cutV ([V.int e.day, V.int e.num] ++ (V.str e.ware :: e.rest)) Option.none (some 2) = [V.int e.day, V.int e.num] from cut_head [V.int e.day, V.int e.num] _]
  have n5 := Same.new (o := .lst [V.int e.day, V.int e.num]) hp5
  have h5 : (upd H4 p5 (.lst [V.int e.day, V.int e.num])) p5 = some (.lst [V.int e.day, V.int e.num]) := upd_same
  generalize upd H4 p5 (.lst [V.int e.day, V.int e.num]) = H5 at n5 h5
  refine ⟨by rw [sizeLine_eq]; decide, fun p6 hp6 => ?_⟩
  have n6 := Same.new (o := .lst [V.str e.word]) hp6
  have h6 : (upd H5 p6 (.lst [V.str e.word])) p6 = some (.lst [V.str e.word]) := upd_same
  have h65 := n6 _ _ h5
  generalize upd H5 p6 (.lst [V.str e.word]) = H6 at n6 h6 h65
  refine ⟨_, h65, _, h6, by rw [sizeLine_eq]; simp, fun p7 hp7 => ?_⟩
  rw [show [V.int e.day, V.int e.num] ++ [V.str e.word] = [V.int e.day, V.int e.num, V.str e.word] from rfl]
  have n7 := Same.new (o := .lst [V.int e.day, V.int e.num, V.str e.word]) hp7
  have h7 : (upd H6 p7 (.lst [V.int e.day, V.int e.num, V.str e.word])) p7 = some (.lst [V.int e.day, V.int e.num, V.str e.word]) := upd_same
  generalize upd H6 p7 (.lst [V.int e.day, V.int e.num, V.str e.word]) = H7 at n7 h7
  have s47 := n5.trans (n6.trans n7)
  refine ⟨_, SqL.of (s47 _ _ h4), fun p8 hp8 => ?_⟩
  rw [show cutV ([V.int e.day, V.int e.num] ++ (V.str e.ware :: e.rest)) (some 2) Option.none = V.str e.ware :: e.rest from cut_tail [V.int e.day, V.int e.num] _]
  have n8 := Same.new (o := .lst (V.str e.ware :: e.rest)) hp8
  have h8 : (upd H7 p8 (.lst (V.str e.ware :: e.rest))) p8 = some (.lst (V.str e.ware :: e.rest)) := upd_same
  have h87 := n8 _ _ h7
  generalize upd H7 p8 (.lst (V.str e.ware :: e.rest)) = H8 at n8 h8 h87
  have hrl := (rest_ok hg).2
  refine ⟨_, h87, _, h8, by rw [sizeLine_eq]; simp; omega, fun p9 hp9 => ?_⟩
  have n9 := Same.new (o := .lst ([V.int e.day, V.int e.num, V.str e.word] ++ (V.str e.ware :: e.rest))) hp9
  have h9 : (upd H8 p9 (.lst ([V.int e.day, V.int e.num, V.str e.word] ++ (V.str e.ware :: e.rest)))) p9 = some (.lst ([V.int e.day, V.int e.num, V.str e.word] ++ (V.str e.ware :: e.rest))) := upd_same
  generalize upd H8 p9 (.lst ([V.int e.day, V.int e.num, V.str e.word] ++ (V.str e.ware :: e.rest))) = H9 at n9 h9
  have s49 := s47.trans (n8.trans n9)
  refine ⟨u, e.lots, p, rfl, hn4.same s49, hgo, hp, fun pw H10 s10 hpw h10 => ?_⟩
  have hnl := (nwO_ok hg).2
  try dsimp only
  walk_at "rdi"
  refine ⟨_, s10 _ _ h9, _, h10, by rw [sizeLine_eq, List.length_map]; simp; omega, fun pz hpz => ?_⟩
  refine k pz _ ((S4.trans (s49.trans s10)).trans (Same.new hpz)) ((S4.trans (s49.trans s10)).free hpz) ?_
  rw [upd_same]
  rfl
end
end My
namespace My
open PySem L2 PyProof.Rows
section
variable {P : Program} {w : World} {K : Fg_} {mg : Str -> Option Value} {base : Heap} {A : Adr} {D : Fds}
local macro_rules | `(tactic| walk_at "nx") => `(tactic| ((try dsimp only); rw [ap_seq]; walk_at "rdi"))
theorem strs_ofE {f : Ent -> Str} {rs : EL} : ∀ {acc : List V}, acc.length = rs.length -> (∀ (i : Nat) v, acc[i]? = some v -> ∃ l, rs[i]? = some l /\ v = .str (f l.2)) -> acc = ((rs.map (·.2)).map f).map V.str := by
 intro acc hlen h
 refine List.ext_getElem? fun i => ?_
 rw [List.getElem?_map, List.getElem?_map, List.getElem?_map]
 by_cases hi : i < acc.length
 ·obtain ⟨l, h1, h2⟩ := h i _ (List.getElem?_eq_getElem hi)
  rw [List.getElem?_eq_getElem hi, h2, h1]
  rfl
 ·rw [List.getElem?_eq_none (by omega), List.getElem?_eq_none (by omega)]
  rfl
def sp_shown_entries (A : Adr) : Sp := fun vs H Q _ => ∃ (q : Addr) (es : EL), vs = [.ref q] /\ H q = some (.lst (refsE es)) /\ EntAt A H es /\ (∀ r ∈ es, r.2.good) /\ es.length < 64 /\ (es.map (·.2.num)).Nodup /\
 ∀ os H', Same H H' -> os.Perm (es.map (·.2)) -> os.Pairwise BfE -> Q (.str (showT os)) H'
theorem ok_shown_entries (T : Txt w K mg A D) : FnOk P w K mg base CX0 5 A.shown_entries D.shown_entries ["entries"] (sp_shown_entries A) := by
 refine T.F_shown_entries.ok sc_shown_entries (fun vs H Q E h => ?_) (fun cdv A' outer s0 H vs Q E hr h => ?_)
 ·obtain ⟨q, es, rfl, _⟩ := h; rfl
 ·obtain ⟨q, es, rfl, hq, hE, hg, hl, hu, k⟩ := h
  refine ⟨_, (pss_one (ps_ret (pe_bmK (K := K) PySem.F.plainAttrs_str PySem.F.slot_str_join PySem.F.type_str_join mt_join pe_str (pa_cons (pe_comp (cap := [Option.none]) (N' := ["entry"]) rfl (by walk_at "compok") (pi_listK (K := K) (pe_call (ok_in_order (K := K) T) (hr.mono (by decide)) (by rfl) T.m_in_order T.k_in_order (b_in_order T) .nil pass0 (pa_cons (pv 0) pa_nil))) (fun _ _ _ _ => (pg_name (i := 0) (show (["entry"] : List Str).Nodup from by decide +kernel) rfl (Or.inl rfl) (Or.inr rfl))) (fun _ _ _ _ => pts_nil) (fun _ _ _ _ => (pe_call (ok_row_of_words (K := K) T) (hr.mono (by decide)) (by rfl) T.m_row_of_words T.k_row_of_words (b_row_of_words T) .nil pass0 (pa_cons (pe_call (ok_words_of_entry (K := K) T) (hr.mono (by decide)) (by rfl) T.m_words_of_entry T.k_words_of_entry (b_words_of_entry T) .nil pass0 (pa_cons (pv 0) pa_nil)) pa_nil)))) pa_nil)))), ?_⟩
  walk_at "rda"
  refine ⟨rfl, ?_⟩
  refine ⟨q, es, rfl, hq, hE, hl, hu, fun p os H1 s1 hpn h1 hpm hord => ?_⟩
  have hol : os.length = es.length := hpm.length_eq
  have hE1 : EntAt A H1 os := fun r hr => (hE r (hpm.mem_iff.mp hr)).same s1
  have hgo : ∀ r ∈ os, r.2.good := fun r hr => hg r (hpm.mem_iff.mp hr)
  refine ⟨p, rfl, ⟨_, SqL.of h1⟩, ?_⟩
  refine CompP.listE (K := K) (fun σ => ∃ a, σ = [a]) (fun i v _ => ∃ l, os[i]? = some l /\ v = .str (rowT l.2.ws)) (SqL.of h1) ⟨_, rfl⟩ (by rw [refsE_len, sizeLine_eq]; omega) ?_ ?_
  ·rintro Da i x hx σ H5 R ⟨_, rfl⟩ sm hD _ kk
   obtain ⟨l, hl', rfl⟩ := refsE_get hx
   have hlm := List.mem_of_getElem? hl'
   walk_at "rdi"
   refine ⟨l.1, l.2, rfl, (hE1 l hlm).same sm, hgo l hlm, fun q2 H6 s6 hq2 h6 => ?_⟩
   obtain ⟨w1, w2⟩ := ws_ok (hgo l hlm)
   exact ⟨q2, _, rfl, h6, w1, w2, fun H7 s7 => kk _ _ H7 ⟨_, rfl⟩ (s6.trans s7) fun H' _ => ⟨l, hl', rfl⟩⟩
  ·intro Da H' acc hD sm hA hlen hF
   rw [strs_ofE (f := fun e => rowT e.ws) (by rw [hlen, refsE_len]) hF] at hA
   have ht := text_len (os.map (·.2)) fun e he => by
    obtain ⟨r, hr, rfl⟩ := List.mem_map.mp he
    exact hgo r hr
   rw [List.length_map] at ht
   refine ⟨_, Da, _, rfl, rfl, hA, ?_, k _ H' (s1.trans sm) (hpm.map (·.2)) hord⟩
   have e0 : (Str.ofString "").length = 0 := by decide +kernel
   rw [e0, List.map_map, Nat.mul_zero, Nat.add_zero]
   exact Nat.le_trans ht (by omega)
end
end My
namespace My
open PySem L2 PyProof.Rows
section
variable {P : Program} {w : World} {K : Fg_} {mg : Str -> Option Value} {base : Heap} {A : Adr} {D : Fds}
local macro_rules | `(tactic| walk_at "nx") => `(tactic| (rw [ap_seq]; walk_at "rdi"))
theorem sIx_m1 (n d : Nat) : HT.sIx n d (some (-1)) = n - 1 := by
 unfold HT.sIx
 simp
 omega
theorem but_last (pre : List V) (x : V) : cutV (pre ++ [x]) Option.none (some (-1)) = pre := by
 unfold cutV
 rw [HT.sIx_none, sIx_m1, List.drop_zero, List.length_append]
 show (pre ++ [x]).take (pre.length + 1 - 1 - 0) = pre
 rw [Nat.add_sub_cancel, Nat.sub_zero, List.take_left]
theorem but_last_ne (pre : List V) (x : V) : ¬ (HT.sIx (pre ++ [x]).length 0 Option.none = 0 /\ HT.sIx (pre ++ [x]).length (pre ++ [x]).length (some (-1)) = (pre ++ [x]).length) := fun h => by
 have h1 := h.2
 rw [sIx_m1, List.length_append, List.length_singleton] at h1
 omega
def sp__law_with_named (K : Fg_) : Sp := fun vs H Q _ => ∃ (t : Addr) (c : Int) (e : Ent), vs = [.ref t, .int c] /\ H t = some (.tup (.str e.word :: e.args .non)) /\ e.good /\ e.lots = Option.none /\
 ∀ (t' : Addr) (e' : Ent) (H' : Hp), Same H H' -> TupE H' t' e' -> e'.good -> e'.day = e.day -> e'.num = e.num -> Q (.ref t') H'
structure CanL (xs pre : List V) (p : Int) (mk : Rs -> Ent) (dd nn : Int) : Prop where
 x : xs = pre ++ [.non]
 p4 : atI xs 4 = some (.int p)
 l : pre.length <= 7
 n : pre ≠ []
 pp : 1 <= p
 g : ∀ rs, GoodN rs p -> (mk rs).good
 o : ∀ rs, (mk rs).lots = some rs
 e : ∀ rs nt, .str (mk rs).word :: (mk rs).args nt = pre ++ [nt]
 dn : ∀ rs, (mk rs).day = dd /\ (mk rs).num = nn
theorem ok__law_with_named (T : Txt w K mg A D) : FnOk P w K mg base CX0 1 A._law_with_named D._law_with_named ["_law_told", "_law_cell"] (sp__law_with_named K) := by
 refine T.F__law_with_named.ok sc__law_with_named (fun vs H Q E h => ?_) (fun cdv A' outer s0 H vs Q E hr h => ?_)
 ·obtain ⟨t, c, e, rfl, _⟩ := h; rfl
 ·obtain ⟨t, c, e, rfl, ht, hg, ho, k⟩ := h
  refine ⟨_, (pss_cons (ps_if (PW.pt (pw_or (pt_cmpR (op_notInK (K := K)) (pe_ix (ix_tupK (K := K)) (pv 0) pe_int (fun _ _ => rfl)) (pe_tup (pa_cons pe_str (pa_cons pe_str pa_nil))) (by with_unfolding_all rfl)) (pw_or1 (pt_cmpR (op_eq) (pe_op op_mod (pv 1) pe_int) pe_int (nomark _))))) (pss_one (ps_ret (pv 0))) pss_nil)
   (pss_cons (ps_set (i := 2) sc__law_with_named.nd rfl (Or.inl rfl) (pe_ix (ix_tupK (K := K)) (pv 0) pe_int (fun _ _ => rfl)))
   (pss_cons (ps_set (i := 3) sc__law_with_named.nd rfl (Or.inl rfl) (pe_lst pa_nil))
   (pss_cons (ps_for PassesOwn.never rfl (pi_range1 (by rfl) T.b_range (pa_cons (pe_op op_add pe_int (pe_op op_mod (pe_op op_fdivB (pv 1) pe_int) pe_int)) pa_nil)) (pg_name (i := 4) sc__law_with_named.nd rfl (Or.inl rfl))
    (pss_cons (ps_set (i := 5) sc__law_with_named.nd rfl (Or.inl rfl) (pe_op op_add pe_int (pe_op op_mod (pe_op op_fdivB (pv 1) (pe_op op_add (pe_op op_mulU pe_int (pv 4)) pe_int)) (pv 2))))
    (pss_cons (ps_if (pt_cmpR (op_eq) (pv 4) (pe_op op_mod (pe_op op_fdivB (pv 1) pe_int) pe_int) (nomark _)) (pss_one (ps_set (i := 5) sc__law_with_named.nd rfl (Or.inl rfl) (pv 2))) pss_nil)
    (pss_cons (ps_if (pt_cmpR (op_gt) (pv 2) pe_int (nomark _)) (pss_cons (ps_expr (pe_bmK (K := K) PySem.F.plainAttrs_list PySem.F.slot_list_append PySem.F.type_list_append mt_append (pv 3) (pa_cons (pe_tup (pa_cons (pe_op op_add (pe_op op_mod (pv 1) (pe_op op_pow pe_int pe_int)) (pe_op op_mulU (pv 4) (pe_op op_add pe_int (pe_op op_mod (pe_op op_fdivB (pv 1) pe_int) pe_int)))) (pa_cons (pv 5) pa_nil))) pa_nil)))
     (pss_one (ps_set (i := 2) sc__law_with_named.nd rfl (Or.inl rfl) (pe_op op_sub (pv 2) (pv 5))))) pss_nil)
    (pss_one (ps_if (pt_cmpR (op_eq) (pv 2) pe_int (nomark _)) (pss_one (ps_ret (pe_op (op_catTK (K := K)) (pe_slice (sl_tupK (K := K)) (pv 0) po_none (po_some (pe_un un_neg pe_int))) (pe_tup (pa_cons (pe_callTy (call_tupleK (K := K)) (by rfl) T.b_tuple (by decide +kernel) (pa_cons (pv 3) pa_nil)) pa_nil))))) pss_nil))))))
   (pss_one (ps_ret (pv 0))))))), ?_⟩
  simp only [start_eq]
  walk_at "nx"
  refine ⟨_, SqT.of ht, .str e.word, atI_nat (j := 0) rfl, by rw [sizeLine_eq]; decide, fun q hq => ⟨_, .inr (SqT.of upd_same), rfl, rfl, ?_⟩⟩
  have s1 := Same.new (o := .tup [V.str (Str.ofString "sell"), V.str (Str.ofString "give")]) hq
  have told : Q (.ref t) (upd H q (.tup [V.str (Str.ofString "sell"), V.str (Str.ofString "give")])) := k t e _ s1 ⟨.non, s1 _ _ ht, by rw [ho]; rfl⟩ hg rfl rfl
  obtain ⟨xs, hxs⟩ : ∃ xs, xs = V.str e.word :: e.args .non := ⟨_, rfl⟩
  have main : inV (V.str e.word) [V.str (Str.ofString "sell"), V.str (Str.ofString "give")] = true -> ∃ pre p mk, CanL xs pre p mk e.day e.num := by
   intro hin
   cases e with
   | sell d n w p r f o => exact ⟨[.str "sell", .int d, .int n, .str w, .int p, .int r, .int f], p, fun rs => .sell d n w p r f (some rs), hxs, by rw [hxs]; rfl, by simp, by simp, hg.2.1.1, fun rs h => ⟨hg.1, hg.2.1, hg.2.2.1, hg.2.2.2.1, h⟩, fun _ => rfl, fun _ _ => rfl, fun _ => ⟨rfl, rfl⟩⟩
   | give d n w p o => exact ⟨[.str "give", .int d, .int n, .str w, .int p], p, fun rs => .give d n w p (some rs), hxs, by rw [hxs]; rfl, by simp, by simp, hg.2.1.1, fun rs h => ⟨hg.1, hg.2.1, h⟩, fun _ => rfl, fun _ _ => rfl, fun _ => ⟨rfl, rfl⟩⟩
   | buy => exact absurd (show inV (V.str (Str.ofString "buy")) _ = true from hin) (by decide +kernel)
   | gift => exact absurd (show inV (V.str (Str.ofString "gift")) _ = true from hin) (by decide +kernel)
   | split => exact absurd (show inV (V.str (Str.ofString "split")) _ = true from hin) (by decide +kernel)
   | part => exact absurd (show inV (V.str (Str.ofString "part")) _ = true from hin) (by decide +kernel)
  rw [<- hxs] at ht
  by_cases hin : inV (V.str e.word) [V.str (Str.ofString "sell"), V.str (Str.ofString "give")] = false
  ·rw [if_pos hin]; exact told
  rw [if_neg hin]
  refine ⟨by decide, ?_⟩
  by_cases h3 : c % 3 = 0
  ·rw [if_pos h3]; exact told
  rw [if_neg h3]
  obtain ⟨pre, p, mk, hc⟩ := main (by simpa using hin)
  clear main told
  generalize upd H q _ = H1 at s1
  walk_at "nx"
  refine ⟨_, SqT.of (s1 _ _ ht), _, hc.p4, ?_⟩
  walk_at "nx"
  refine ⟨by rw [sizeLine_eq]; decide, fun lp hlp => ?_⟩
  have hlpn : H lp = Option.none := s1.free hlp
  rw [ap_seq, ap_for]
  walk_at "rdi"
  obtain ⟨N, hN, hN4⟩ : ∃ N : Nat, (N : Int) = c / 3 % 5 /\ N <= 4 := by
   have h1 := Int.emod_nonneg (c / 3) (show (5 : Int) ≠ 0 by decide)
   have h2 := Int.emod_lt_of_pos (c / 3) (show (0 : Int) < 5 by decide)
   exact ⟨(c / 3 % 5).toNat, by omega, by omega⟩
  rw [<- hN]
  refine ⟨⟨by decide, by decide⟩, by decide, by omega, by omega, ?_⟩
  rw [show (1 + (N : Int)).toNat = N + 1 by omega]
  obtain ⟨st, hst, st0, st1⟩ : ∃ st : Int, st = 1 + c / 11 % 9 /\ 1 <= st /\ st <= 9 := by
   have h1 := Int.emod_nonneg (c / 11) (show (9 : Int) ≠ 0 by decide)
   have h2 := Int.emod_lt_of_pos (c / 11) (show (0 : Int) < 9 by decide)
   exact ⟨_, rfl, by omega, by omega⟩
  obtain ⟨b, hb, b0, b1⟩ : ∃ b : Int, b = c % 10 ^ Int.toNat 5 /\ 0 <= b /\ b < 100000 := ⟨_, rfl, Int.emod_nonneg _ (by decide), Int.emod_lt_of_pos _ (by decide)⟩
  refine ForP.range (fun i σ H2 => ∃ rs left v4 v5, σ = [some (.ref t), some (.int c), some (.int left), some (.ref lp), v4, v5] /\ Same H H2 /\ H2 lp = some (.lst (refs rs)) /\ Lots H2 rs /\ 1 <= left /\ left <= p /\ left + (rs.map (·.2.2)).sum = p /\ rs.length = i /\ (∀ r ∈ rs, 1 <= r.2.2 /\ r.2.2 <= p) /\ rs.map (·.2.1) = (List.range i).map (fun (j : Nat) => b + (j : Int) * st) /\ i <= N)
   ⟨[], p, Option.none, Option.none, rfl, s1.upd hlpn, upd_same, (fun r hr => by cases hr), hc.pp, Int.le_refl _, by simp, rfl, (fun r hr => by cases hr), rfl, Nat.zero_le _⟩ ?_ ?_
  ·rintro i σ H2 hi ⟨rs, left, v4, v5, rfl, s2, hl, hL, l0, l1, hsum, hlen, hb2, hnum, hiN⟩
   rw [ap_name]
   simp only [List.set_cons_zero, List.set_cons_succ, Int.zero_add]
   walk_at "nx"
   have g0 := Int.emod_nonneg (c / (7 * (i : Int) + 5)) (show left ≠ 0 by omega)
   have g1 := Int.emod_lt_of_pos (c / (7 * (i : Int) + 5)) (show 0 < left by omega)
   refine ⟨CMulU.l (by decide) (by decide), ⟨by omega, Nat.lt_of_le_of_lt (show (7 * (i : Int) + 5).natAbs <= 100 by omega) (by decide)⟩, by omega, ?_⟩
   refine seq_join (fun σ H' => H' = H2 /\ ∃ so, 1 <= so /\ so <= left /\ (i = N -> so = left) /\ σ = [some (.ref t), some (.int c), some (.int left), some (.ref lp), some (.int i), some (.int so)]) (by walk_at "mono") ?_ ?_
   ·walk_at "rdi"
    refine ⟨⟨by decide, by decide⟩, by decide, ?_⟩
    rw [<- hN]
    by_cases hk : (i : Int) = N
    ·rw [if_pos hk]
     exact ⟨left, by omega, Int.le_refl _, fun _ => rfl, rfl⟩
    ·rw [if_neg hk]
     exact ⟨_, by omega, by omega, fun h => absurd h (by omega), rfl⟩
   ·rintro σ' H' ⟨rfl, so, so0, so1, so2, rfl⟩
    walk_at "nx"
    rw [if_pos (by omega)]
    walk_at "nx"
    refine ⟨tyL (SqL.of hl), ⟨by decide, by decide, by decide⟩, by decide, ⟨by decide, by decide⟩, by decide, CMulU.l (by omega) (by omega), by rw [sizeLine_eq]; decide, fun q1 hq1 => ?_⟩
    rw [<- hst, <- hb]
    have hne : lp ≠ q1 := fun h => by rw [h, hq1] at hl; cases hl
    refine ⟨refs rs, by rw [upd_ne hne]; exact hl, by rw [refs_len, sizeLine_eq]; omega, ?_⟩
    obtain ⟨rs', hrs'⟩ : ∃ rs' : Rs, rs' = rs ++ [(q1, b + i * st, so)] := ⟨_, rfl⟩
    have hrf : refs rs ++ [V.ref q1] = refs rs' := by rw [hrs']; unfold refs; rw [List.map_append]; rfl
    rw [hrf]
    generalize hH3 : upd (upd H' q1 _) lp (.lst (refs rs')) = H3
    have s3 : Same H H3 := hH3 ▸ (s2.upd (s2.free hq1)).upd hlpn
    have h3l : H3 lp = some (.lst (refs rs')) := by rw [<- hH3, upd_same]
    have h3L : Lots H3 rs' := by
     intro r hr
     rw [hrs'] at hr
     rcases List.mem_append.mp hr with h | h
     ·have h2 := hL r h
      rw [<- hH3, upd_ne (fun z => by rw [z, hl] at h2; cases h2), upd_ne (fun z => by rw [z, hq1] at h2; cases h2)]
      exact h2
     ·rw [List.mem_singleton.mp h, <- hH3, upd_ne hne.symm, upd_same]
    have hsum' : (rs'.map (·.2.2)).sum = (rs.map (·.2.2)).sum + so := by rw [hrs', List.map_append, List.sum_append]; simp
    have hlen' : rs'.length = i + 1 := by rw [hrs', List.length_append, hlen]; rfl
    have hb2' : ∀ r ∈ rs', 1 <= r.2.2 /\ r.2.2 <= p := by
     intro r hr
     rw [hrs'] at hr
     rcases List.mem_append.mp hr with h | h
     ·exact hb2 r h
     ·rw [List.mem_singleton.mp h]; exact ⟨so0, by show so <= p; omega⟩
    have hnum' : rs'.map (·.2.1) = (List.range (i + 1)).map (fun (j : Nat) => b + (j : Int) * st) := by
     rw [hrs', List.map_append, hnum, List.range_succ, List.map_append]; rfl
    by_cases h0 : left - so = 0
    ·rw [if_pos h0]
     have hG : GoodN rs' p := by
      refine ⟨by omega, fun r hr => ?_, ?_, by omega⟩
      ·have h1 : r.2.1 ∈ rs'.map (·.2.1) := List.mem_map.mpr ⟨r, hr, rfl⟩
       rw [hnum'] at h1
       obtain ⟨j, hj, e⟩ := List.mem_map.mp h1
       have hj := List.mem_range.mp hj
       have m0 : 0 <= (j : Int) * st := Int.mul_nonneg (by omega) (by omega)
       have m1 : (j : Int) * st <= 4 * 9 := Int.mul_le_mul (by omega) st1 (by omega) (by decide)
       exact ⟨by omega, by omega, hb2' r hr⟩
      ·rw [hnum']
       refine List.pairwise_map.mpr (List.nodup_range.imp fun {a a'} h e => h ?_)
       have e2 : (a : Int) * st = (a' : Int) * st := by omega
       have := Int.eq_of_mul_eq_mul_right (show st ≠ 0 by omega) e2
       omega
     have ht := hc.x ▸ ht
     refine ⟨_, SqT.of (s3 _ _ ht), but_last_ne _ _, fun p1 hp1 => ?_⟩
     rw [but_last]
     have t1 := Same.new (o := .tup pre) hp1
     refine ⟨refs rs', .inl ⟨SqL.of (t1 _ _ h3l), fun p2 hp2 => ⟨by rw [sizeLine_eq]; decide, fun p3 hp3 => ?_⟩⟩⟩
     have t2 := Same.new (o := .tup (refs rs')) hp2
     have t3 := Same.new (o := .tup [V.ref p2]) hp3
     have hl7 := hc.l
     refine ⟨p1, p3, pre, [.ref p2], rfl, rfl, SqT.of (t3 _ _ (t2 _ _ upd_same)), SqT.of upd_same, hc.n, by rw [sizeLine_eq, List.length_singleton]; omega, (fun h => by cases h), fun _ p4 hp4 => ?_⟩
     have t4 := Same.new (o := .tup (pre ++ [V.ref p2])) hp4
     have tt := t1.trans (t2.trans (t3.trans t4))
     refine k p4 (mk rs') _ (s3.trans tt) ⟨.ref p2, by rw [upd_same, hc.e], ?_⟩ (hc.g rs' hG) (hc.dn rs').1 (hc.dn rs').2
     rw [hc.o]
     exact ⟨p2, rfl, t4 _ _ (t3 _ _ upd_same), h3L.same tt⟩
    ·rw [if_neg h0]
     exact ⟨s3, rs', h3l, h3L, by omega, by omega, by omega, hlen', hb2', hnum', by
      rcases Nat.lt_or_ge i N with h | h
      ·omega
      ·exact absurd (so2 (by omega)) (by omega)⟩
  ·rintro σ H2 ⟨rs, left, v4, v5, rfl, s2, hl, hL, l0, l1, hsum, hlen, hb2, hnum, hiN⟩
   exact absurd hiN (by omega)
end
end My
namespace My
open PySem L2 PyProof.Rows
section
variable {P : Program} {w : World} {K : Fg_} {mg : Str -> Option Value} {base : Heap} {A : Adr} {D : Fds}
noncomputable def sig__law_any (T : Txt w K mg A D) (cdv : Value) (A' : Around) (outer : List Env) (s0 : Shared) (H : Hp) (E : XK) (hr : Room 2 (A'.deeper (envOfC "_law_any" (defScope s__law_any) s0.heap.objs.size A._law_any cdv))) :
  { t : TS // PSs (cxOf CX0 P w K mg base ["_law_script", "_law_most", "_law_wares_here", "_law_by", "_law_low", "_law_told", "_law_k", "_law_cell", "_law_small", "_law_great", "_law_kind_here", "_law_more", "_law_day", "_law_held", "_law_row"] "_law_any" (defScope s__law_any) A._law_any cdv A' outer s0 H E).nox (defBody s__law_any) t } :=
 ⟨_, (pss_cons (ps_set (i := 2) sc__law_any.nd rfl (Or.inl rfl) (pe_call (ok__law_wares (K := K) T) (hr.mono (by decide)) (by rfl) T.m__law_wares T.k__law_wares (b__law_wares T) .nil pass0 (pa_cons (pv 0) pa_nil)))
   (pss_cons (ps_set (i := 3) sc__law_any.nd rfl (Or.inl rfl) (pe_op op_add pe_int (pe_op op_mod (pe_call (ok__law_cell_at (K := K) T) (hr.mono (by decide)) (by rfl) T.m__law_cell_at T.k__law_cell_at (b__law_cell_at T) .nil pass0 (pa_cons (pv 0) (pa_cons pe_int pa_nil))) pe_int)))
   (pss_cons (ps_set (i := 4) sc__law_any.nd rfl (Or.inl rfl) (pe_op op_mod (pe_op op_fdivB (pe_call (ok__law_cell_at (K := K) T) (hr.mono (by decide)) (by rfl) T.m__law_cell_at T.k__law_cell_at (b__law_cell_at T) .nil pass0 (pa_cons (pv 0) (pa_cons pe_int pa_nil))) pe_int) (pe_op op_pow pe_int pe_int)))
   (pss_cons (ps_set (i := 5) sc__law_any.nd rfl (Or.inl rfl) (pe_lst pa_nil))
   (pss_cons (ps_for PassesOwn.never rfl (pi_enum (K := K) (by rfl) T.b_enumerate (pa_cons (pe_slice (sl_listK (K := K)) (pe_call (ok__law_cells (K := K) T) (hr.mono (by decide)) (by rfl) T.m__law_cells T.k__law_cells (b__law_cells T) .nil pass0 (pa_cons (pv 0) pa_nil)) po_none (po_some (pv 1))) pa_nil)) (pg_tupK (K := K) (n := 2) rfl (pgs_cons (pg_name (i := 6) sc__law_any.nd rfl (Or.inl rfl)) (pgs_cons (pg_name (i := 7) sc__law_any.nd rfl (Or.inl rfl)) pgs_nil)))
    (pss_cons (ps_asg (pe_call (ok__law_digits (K := K) T) (hr.mono (by decide)) (by rfl) T.m__law_digits T.k__law_digits (b__law_digits T) .nil pass0 (pa_cons (pv 7) (pa_cons (pe_lst (pa_cons pe_int (pa_cons (pe_op op_add (pe_op op_pow pe_int pe_int) pe_int) (pa_cons pe_int (pa_cons pe_int pa_nil))))) pa_nil))) (pg_lstK (K := K) (n := 4) rfl (pgs_cons (pg_name (i := 8) sc__law_any.nd rfl (Or.inl rfl)) (pgs_cons (pg_name (i := 9) sc__law_any.nd rfl (Or.inl rfl)) (pgs_cons (pg_name (i := 10) sc__law_any.nd rfl (Or.inl rfl)) (pgs_cons (pg_name (i := 11) sc__law_any.nd rfl (Or.inl rfl)) pgs_nil))))))
    (pss_cons (ps_set (i := 12) sc__law_any.nd rfl (Or.inl rfl) (pe_ix (ix_listK (K := K)) (pe_lst (pa_cons (pv 8) (pa_cons (pv 9) (pa_cons (pe_op op_mod (pv 9) pe_int) pa_nil)))) (pv 10) (fun _ _ => rfl)))
    (pss_cons (ps_set (i := 13) sc__law_any.nd rfl (Or.inl rfl) (pe_ix (ix_listK (K := K)) (pe_lst (pa_cons pe_dnewK (pa_cons (pe_disp (pps_cons (pe_ix (ix_listK (K := K)) (pv 2) pe_int (fun _ _ => rfl)) (pe_op op_pow pe_int pe_int) (pps_cons (pe_ix (ix_listK (K := K)) (pv 2) pe_int (fun _ _ => rfl)) pe_int (pps_cons (pe_ix (ix_listK (K := K)) (pv 2) pe_int (fun _ _ => rfl)) (pe_op op_add pe_int (pv 8)) pps_nil))) rfl rfl (List.cons_ne_nil _ _) (Nat.le_of_ble_eq_true rfl)) pa_nil))) (pe_callTy call_int1 (by rfl) T.b_int (by decide +kernel) (pa_cons (pe_cmpR (op_gt) (pv 11) pe_int (nomark _)) pa_nil)) (fun _ _ => rfl)))
    (pss_cons (ps_set (i := 14) sc__law_any.nd rfl (Or.inl rfl) (pe_call (ok__law_entry (K := K) T) (hr.mono (by decide)) (by rfl) T.m__law_entry T.k__law_entry (b__law_entry T) .nil pass0 (pa_cons (pe_op op_fdivB (pv 7) pe_int) (pa_cons (pv 12) (pa_cons (pe_op op_add (pv 4) (pe_op op_mod (pe_op op_mulU (pe_op op_add (pv 6) pe_int) (pv 3)) pe_int)) (pa_cons (pv 2) (pa_cons (pv 13) pa_nil)))))))
    (pss_one (ps_expr (pe_bmK (K := K) PySem.F.plainAttrs_list PySem.F.slot_list_append PySem.F.type_list_append mt_append (pv 5) (pa_cons (pe_call (ok__law_with_named (K := K) T) (hr.mono (by decide)) (by rfl) T.m__law_with_named T.k__law_with_named (b__law_with_named T) .nil pass0 (pa_cons (pv 14) (pa_cons (pe_op op_fdivB (pv 7) pe_int) pa_nil))) pa_nil)))))))))
   (pss_one (ps_ret (pv 5))))))))⟩
end
end My
namespace My
open PySem L2 PyProof.Rows
section
variable {P : Program} {w : World} {K : Fg_} {mg : Str -> Option Value} {base : Heap} {A : Adr} {D : Fds}
def ToldN (H : Hp) (tl : EL) : Prop := ∀ r ∈ tl, TupE H r.1 r.2 /\ r.2.good
theorem ToldN.same {H H' : Hp} {tl : EL} (h : ToldN H tl) (s : Same H H') : ToldN H' tl := fun r hr => ⟨(h r hr).1.same s, (h r hr).2⟩
end
end My
namespace My
open PySem L2 PyProof.Rows
section
variable {P : Program} {w : World} {K : Fg_} {mg : Str -> Option Value} {base : Heap} {A : Adr} {D : Fds}
local macro_rules | `(tactic| walk_at "nx") => `(tactic| ((try dsimp only); rw [ap_seq]; walk_at "rdi"))
theorem held_ok (w0 w1 w2 : Str) {a b c : Int} (ha : 0 <= a) (hc : 0 <= c) (hb : 0 <= b := by decide) (w : Str) : ∃ i : Int, 0 <= i /\ (valV (mergeK [] [(Sum.inr w0, V.int a), (Sum.inr w1, V.int b), (Sum.inr w2, V.int c)]) (Sum.inr w : Key)).getD (.int 0) = .int i := by
 show ∃ i : Int, 0 <= i /\ (valV (putK (putK (putK [] (Sum.inr w0) (V.int a)) (Sum.inr w1) (V.int b)) (Sum.inr w2) (V.int c)) (Sum.inr w : Key)).getD (.int 0) = .int i
 rw [valV_put, valV_put, valV_put]
 split
 ·exact ⟨c, hc, rfl⟩
 ·split
  ·exact ⟨b, hb, rfl⟩
  ·split
   ·exact ⟨a, ha, rfl⟩
   ·exact ⟨0, Int.le_refl _, rfl⟩
theorem tup_put {H : Hp} {q t : Addr} {e : Ent} {xs ys : List V} (hq : H q = some (.lst xs)) (h : TupE H t e) : TupE (upd H q (.lst ys)) t e := by
 have key : ∀ {b : Addr} {zs : List V}, H b = some (.tup zs) -> (upd H q (.lst ys)) b = some (.tup zs) := fun hb => (upd_ne fun z => by rw [z, hq] at hb; cases hb).trans hb
 obtain ⟨nt, ht, hn⟩ := h
 refine ⟨nt, key ht, ?_⟩
 revert hn
 cases e.lots with
 | none => exact fun h => h
 | some rs =>
  rintro ⟨l, e0, hl, hL⟩
  exact ⟨l, e0, key hl, fun r hr => key (hL r hr)⟩
structure Lp (B H : Hp) (pt : Addr) (tl : EL) (low by' : Int) (i : Nat) : Prop where
 s : Same B H
 l : H pt = some (.lst (refsE tl))
 t : ToldN H tl
 n : tl.length = i
 m : ∀ (j : Nat) r, tl[j]? = some r -> r.2.num = low + ((j : Int) + 1) * by' % 61
theorem Lp.same {B H H' : Hp} {pt : Addr} {tl : EL} {low by' : Int} {i : Nat} (h : Lp B H pt tl low by' i) (s : Same H H') : Lp B H' pt tl low by' i := ⟨h.s.trans s, s _ _ h.l, h.t.same s, h.n, h.m⟩
def sp__law_any (K : Fg_) : Sp := fun vs H Q _ => ∃ (a : Addr) (ns : List Int) (m : Nat), vs = [.ref a, .int m] /\ SqL K H a (ns.map V.int) /\ ns.length <= 63 /\ m <= 60 /\
 ∀ p (tl : EL) H', Same H H' -> H p = Option.none -> H' p = some (.lst (refsE tl)) -> ToldN H' tl -> tl.length <= m -> (tl.map (·.2.num)).Nodup -> Q (.ref p) H'
theorem ok__law_any (T : Txt w K mg A D) : FnOk P w K mg base CX0 3 A._law_any D._law_any ["_law_script", "_law_most"] (sp__law_any K) := by
 refine T.F__law_any.ok sc__law_any (fun vs H Q E h => ?_) (fun cdv A' outer s0 H vs Q E hr h => ?_)
 ·obtain ⟨a, ns, m, rfl, _⟩ := h; rfl
 ·obtain ⟨a, ns, m, rfl, hS, hl, hm, k⟩ := h
  refine ⟨(sig__law_any (base := base) T cdv A' outer s0 H E hr).1, (sig__law_any (base := base) T cdv A' outer s0 H E hr).2, ?_⟩
  unfold sig__law_any
  simp only [start_eq]
  walk_at "nx"
  refine ⟨a, ns, rfl, hS, fun wa ws H1 s1 hwan hW hwa => ?_⟩
  walk_at "nx"
  refine ⟨a, ns, 2, rfl, s1.seq hS, _, rfl, by decide, ?_⟩
  obtain ⟨by', hby⟩ : ∃ b, b = 1 + ns.getD 2 0 % 60 := ⟨_, rfl⟩
  have bby : 1 <= by' /\ by' <= 60 := by omega
  rw [<- hby]
  walk_at "nx"
  refine ⟨a, ns, 2, rfl, s1.seq hS, _, rfl, ⟨by decide, by decide⟩, ⟨by decide, by decide, by decide⟩, by decide, ?_⟩
  obtain ⟨low, hlow⟩ : ∃ low, low = ns.getD 2 0 / 60 % 10 ^ Int.toNat 5 := ⟨_, rfl⟩
  have bl : 0 <= low /\ low < 100000 := by rw [hlow]; exact ⟨Int.emod_nonneg _ (by decide), Int.emod_lt_of_pos _ (by decide)⟩
  rw [<- hlow]
  walk_at "nx"
  refine ⟨by rw [sizeLine_eq]; decide, fun pt hpt => ?_⟩
  have S1 := s1.trans (Same.new (o := .lst []) hpt)
  have h1t : (upd H1 pt (.lst [])) pt = some (.lst []) := upd_same
  have hwa1 := Same.new (o := .lst []) hpt _ _ hwa
  have hBt := s1.free hpt
  have n1 := Same.new (o := .lst []) hpt
  generalize upd H1 pt (.lst []) = H1' at S1 h1t hwa1 n1
  try dsimp only
  rw [ap_seq, ap_for]
  walk_at "rdi"
  refine ⟨a, ns, rfl, S1.seq hS, hl, fun p1 H2 s2 hp1 h2 => ?_⟩
  refine ⟨p1, rfl, _, SqL.of h2, fun q1 hq1 => ⟨⟨_, SqL.of upd_same⟩, ?_⟩⟩
  rw [cut_none, <- List.map_take]
  have hcs : ((cells ns).take m).length <= m := by rw [List.length_take]; omega
  generalize (cells ns).take m = cs at hcs
  have s3 := s2.trans (Same.new (o := .lst (cs.map V.int)) hq1)
  have hq1s : (upd H2 q1 (.lst (cs.map V.int))) q1 = some (.lst (cs.map V.int)) := upd_same
  have hnt : q1 ≠ pt := fun e => by rw [e, s2 _ _ h1t] at hq1; cases hq1
  have L3 : Lp H1 (upd H2 q1 (.lst (cs.map V.int))) pt [] low by' 0 := ⟨n1.trans s3, s3 _ _ h1t, fun r h => (List.not_mem_nil h).elim, rfl, fun j r h => by simp at h⟩
  generalize upd H2 q1 _ = H3 at s3 hq1s L3
  have hwa3 := s3 _ _ hwa1
  have hS3 := (S1.trans s3).seq hS
  have hB3 : ∀ {Hx : Hp}, Same H3 Hx -> True := fun _ => trivial
  refine ForP.enum (K := K) (a := q1) (xs := cs.map V.int) (fun i σ H4 => ∃ (tl : EL) (v6 v7 v8 v9 v10 v11 v12 v13 v14 : Option V), σ = [some (.ref a), some (.int m), some (.ref wa), some (.int by'), some (.int low), some (.ref pt), v6, v7, v8, v9, v10, v11, v12, v13, v14] /\ Lp H1 H4 pt tl low by' i /\ H4 q1 = some (.lst (cs.map V.int)))
   ⟨[], _, _, _, _, _, _, _, _, _, rfl, L3, hq1s⟩ (fun i σ H4 _ ⟨_, _, _, _, _, _, _, _, _, _, _, _, h⟩ => SqL.of h) ?_ ?_
  ·rintro i y σ H4 pe hi ⟨tl, v6, v7, v8, v9, v10, v11, v12, v13, v14, rfl, L4, hq4⟩ hpe
   obtain ⟨c, rfl, hci⟩ := map_get hi
   have hil : i < cs.length := (List.getElem?_eq_some_iff.mp hci).1
   have n5 := Same.new (o := .tup [V.int i, V.int c]) hpe
   have L5 := L4.same n5
   have hq5 := n5 _ _ hq4
   walk_at "rdi"
   refine ⟨_, SqT.of upd_same, rfl, _, _, rfl, _, _, rfl, rfl, ?_⟩
   generalize upd H4 pe _ = H5 at L5 hq5
   walk_at "nx"
   refine ⟨⟨by decide, by decide, by decide⟩, by rw [sizeLine_eq]; decide, fun p2 hp2 => ?_⟩
   have n6 := Same.new (o := .lst [V.int 4, V.int (10 ^ Int.toNat 6 + 1), V.int 3, V.int 3]) hp2
   refine ⟨c, p2, [4, 1000001, 3, 3], rfl, SqL.of (by rw [upd_same]; rfl), by unfold CDivB; decide, by decide, fun p3 H6 t6 hp3 h6 => ?_⟩
   have L6 := (L5.same n6).same t6
   have hq6 := t6 _ _ (n6 _ _ hq5)
   obtain ⟨sm, gr, kd, mo, hdg, bsm, bgr, bkd, bmo⟩ : ∃ sm gr kd mo, digs c [4, 1000001, 3, 3] = [sm, gr, kd, mo] /\ (0 <= sm /\ sm < 4) /\ (0 <= gr /\ gr < 1000001) /\ (0 <= kd /\ kd < 3) /\ (0 <= mo /\ mo < 3) := ⟨_, _, _, _, rfl, by omega, by omega, by omega, by omega⟩
   rw [hdg] at h6
   refine ⟨p3, rfl, _, SqL.of h6, rfl, _, _, rfl, _, _, rfl, _, _, rfl, _, _, rfl, rfl, ?_⟩
   walk_at "nx"
   refine ⟨by decide, by rw [sizeLine_eq]; decide, fun p4 hp4 => ?_⟩
   obtain ⟨day, hday, bday⟩ : ∃ day : Int, atI [V.int sm, V.int gr, V.int (gr % 30)] kd = some (.int day) /\ (0 <= day /\ day <= 1000000) := by
    rcases (show kd = 0 \/ kd = 1 \/ kd = 2 by omega) with e | e | e <;> rw [e]
    ·exact ⟨sm, rfl, by omega⟩
    ·exact ⟨gr, rfl, by omega⟩
    ·exact ⟨gr % 30, rfl, by omega⟩
   refine ⟨_, SqL.of upd_same, _, hday, ?_⟩
   have n7 := Same.new (o := .lst [V.int sm, V.int gr, V.int (gr % 30)]) hp4
   have L7 := L6.same n7
   have hq7 := n7 _ _ hq6
   generalize upd H6 p4 _ = H7 at L7 hq7
   walk_at "nx"
   intro p8 hp8
   have n8 := Same.new (o := .dK []) hp8
   have hd8 : (upd H7 p8 (.dK [])) p8 = some (.dK []) := upd_same
   have L8 := L7.same n8
   have hq8 := n8 _ _ hq7
   generalize upd H7 p8 (.dK []) = H8 at L8 hq8 hd8
   obtain ⟨w0, w1, w2, wr, hws⟩ : ∃ w0 w1 w2 wr, ws = w0 :: w1 :: w2 :: wr := by
    have := hW.l0
    cases ws with
    | nil => simp at this
    | cons w0 r => cases r with
     | nil => simp at this
     | cons w1 r => cases r with
      | nil => simp at this
      | cons w2 r => exact ⟨w0, w1, w2, r, rfl⟩
   intro pd hpd
   have t8 := Same.new (o := .dK []) hpd
   have hwa8 := t8 _ _ (L8.s _ _ hwa)
   rw [hws] at hwa8
   simp only [tPairs]
   walk_at "rdi"
   refine ⟨_, SqL.of hwa8, .str w0, atI_nat (j := 0) rfl, ⟨by decide, by decide, by decide⟩, _, SqL.of hwa8, .str w1, atI_nat (j := 1) rfl, _, SqL.of hwa8, .str w2, atI_nat (j := 2) rfl, upd_same, [(Sum.inr w0, .int (10 ^ Int.toNat 9)), (Sum.inr w1, .int 50), (Sum.inr w2, .int (3 + sm))], rfl, by simp, ?_⟩
   rw [upd_upd]
   obtain ⟨kd9, hkd9⟩ : ∃ k, k = mergeK [] [(Sum.inr w0, V.int (10 ^ Int.toNat 9)), (Sum.inr w1, V.int 50), (Sum.inr w2, V.int (3 + sm))] := ⟨_, rfl⟩
   rw [<- hkd9]
   have n9 := Same.new (o := .dK kd9) hpd
   have hd9 : (upd H8 pd (.dK kd9)) pd = some (.dK kd9) := upd_same
   have L9 := L8.same n9
   have hq9 := n9 _ _ hq8
   have hd89 := n9 _ _ hd8
   generalize upd H8 pd (.dK kd9) = H9 at L9 hq9 hd9 hd89
   refine ⟨by rw [sizeLine_eq]; decide, fun p10 hp10 => .inr ?_⟩
   have n10 := Same.new (o := .lst [V.ref p8, V.ref pd]) hp10
   have h10 : (upd H9 p10 (.lst [V.ref p8, V.ref pd])) p10 = some (.lst [V.ref p8, V.ref pd]) := upd_same
   have L10 := L9.same n10
   have hq10 := n10 _ _ hq9
   have hdA := n10 _ _ hd89
   have hdB := n10 _ _ hd9
   generalize upd H9 p10 (.lst [V.ref p8, V.ref pd]) = H10 at L10 hq10 h10 hdA hdB
   obtain ⟨hd, kvs, hix, hhd, hok⟩ : ∃ (hd : Addr) (kvs : List (Key × V)), atI [V.ref p8, V.ref pd] (if 0 < mo then 1 else 0) = some (.ref hd) /\ H10 hd = some (.dK kvs) /\ ∀ w : Str, ∃ i : Int, 0 <= i /\ (valV kvs (Sum.inr w)).getD (.int 0) = .int i := by
    by_cases q : 0 < mo
    ·rw [if_pos q]
     exact ⟨pd, kd9, rfl, hdB, by rw [hkd9]; exact held_ok w0 w1 w2 (by decide) (by omega)⟩
    ·rw [if_neg q]
     exact ⟨p8, [], rfl, hdA, fun w => ⟨0, Int.le_refl _, rfl⟩⟩
   refine ⟨_, SqL.of h10, _, hix, ?_⟩
   have bn : 0 <= low + ((i : Int) + 1) * by' % 61 /\ low + ((i : Int) + 1) * by' % 61 <= 1000000 := by
    have := Int.emod_nonneg (((i : Int) + 1) * by') (show (61 : Int) ≠ 0 by decide)
    have := Int.emod_lt_of_pos (((i : Int) + 1) * by') (show (0 : Int) < 61 by decide)
    omega
   walk_at "nx"
   refine ⟨⟨by decide, by decide⟩, CMulU.r (by omega) (by omega), by decide, _, day, low + ((i : Int) + 1) * by' % 61, wa, hd, ws, kvs, rfl, L10.s _ _ hwa, hW, hhd, hok, ⟨bday.1, bday.2⟩, ⟨bn.1, bn.2⟩, fun t e H11 s11 htn ht hg ho hed hen => ?_⟩
   have L11 := L10.same s11
   have hq11 := s11 _ _ hq10
   refine ⟨.inl ⟨rfl, _, SqL.of L11.l⟩, ⟨by decide, by decide⟩, t, _, e, rfl, ht, hg, ho, fun t' e' H12 s12 hT' hg' hd' hn' => ?_⟩
   have L12 := L11.same s12
   have hq12 := s12 _ _ hq11
   refine ⟨_, L12.l, by rw [refsE_len, L12.n, sizeLine_eq]; omega, tl ++ [(t', e')], ⟨L12.s.upd hpt, ?_, fun r hr => ?_, by rw [List.length_append, L12.n]; rfl, fun j r hj => ?_⟩, (upd_ne hnt).trans hq12⟩
   ·rw [upd_same]; unfold refsE; rw [List.map_append]; rfl
   ·rcases List.mem_append.mp hr with hr | hr
    ·exact ⟨tup_put L12.l (L12.t r hr).1, (L12.t r hr).2⟩
    ·obtain rfl := List.mem_singleton.mp hr
     exact ⟨tup_put L12.l hT', hg'⟩
   ·by_cases hjl : j < tl.length
    ·rw [List.getElem?_append_left hjl] at hj
     exact L12.m j r hj
    ·rw [List.getElem?_append_right (by omega)] at hj
     have hj0 : j - tl.length = 0 := by
      have := (List.getElem?_eq_some_iff.mp hj).1
      simp at this
      omega
     rw [hj0] at hj
     cases hj
     have : j = i := by have := L12.n; omega
     rw [this]
     exact hn'.trans hen
  ·rintro σ H4 ⟨tl, v6, v7, v8, v9, v10, v11, v12, v13, v14, rfl, L4, hq4⟩
   rw [List.length_map] at L4
   have htl : tl.length <= 60 := by rw [L4.n]; omega
   have hnd : (tl.map (·.2.num)).Nodup := by
    refine List.pairwise_map.mpr (List.pairwise_iff_getElem.mpr fun i j hi hj hij => ?_)
    rw [L4.m i _ (List.getElem?_eq_getElem hi), L4.m j _ (List.getElem?_eq_getElem hj)]
    intro e
    have := unlikeI bby.1 bby.2 (by omega) (by omega) e
    omega
   walk_at "rda"
   exact k pt tl H4 (s1.trans L4.s) (s1.free hpt) L4.l L4.t (by rw [L4.n]; exact hcs) hnd
end
end My
namespace My
open PySem L2 PyProof.Rows
section
variable {P : Program} {w : World} {K : Fg_} {mg : Str -> Option Value} {base : Heap} {A : Adr} {D : Fds}
local macro_rules | `(tactic| walk_at "nx") => `(tactic| ((try dsimp only); rw [ap_seq]; walk_at "rdi"))
theorem row_head (e : Ent) (nt : V) : V.str e.word :: e.args nt = [.str e.word, .int e.day, .int e.num, .str e.ware] ++ (e.rest ++ (if e.nml then [nt] else [])) := by cases e <;> rfl
theorem ats (e : Ent) (nt : V) : atI (V.str e.word :: e.args nt) 0 = some (.str e.word) /\ atI (V.str e.word :: e.args nt) 1 = some (.int e.day) /\ atI (V.str e.word :: e.args nt) 2 = some (.int e.num) /\ atI (V.str e.word :: e.args nt) 3 = some (.str e.ware) := by cases e <;> exact ⟨rfl, rfl, rfl, rfl⟩
theorem nml_word (e : Ent) : (e.word = Str.ofString "sell" \/ e.word = Str.ofString "give") ↔ e.nml = true := by
 cases e with
 | sell => exact ⟨fun _ => rfl, fun _ => .inl rfl⟩
 | give => exact ⟨fun _ => rfl, fun _ => .inr rfl⟩
 | _ => exact ⟨fun h => absurd h (by simp only [Ent.word]; decide +kernel), fun h => by cases h⟩
theorem rest_cut (e : Ent) (nt : V) : cutV (V.str e.word :: e.args nt) (some 4) Option.none = e.rest ++ (if e.nml then [nt] else []) := by
 rw [row_head]
 exact cut_tail [.str e.word, .int e.day, .int e.num, .str e.ware] _
theorem rest_ne (e : Ent) (nt : V) : ¬ (HT.sIx (V.str e.word :: e.args nt).length 0 (some 4) = 0 /\ HT.sIx (V.str e.word :: e.args nt).length (V.str e.word :: e.args nt).length Option.none = (V.str e.word :: e.args nt).length) := fun h => by
 have h1 := h.1
 rw [show (4 : Int) = ((4 : Nat) : Int) from rfl, HT.sIx_nat, row_head, List.length_append] at h1
 simp at h1
theorem ws_strs (e : Ent) : (e.ws.map sV).map V.str = ([V.str (strI e.day), V.str (strI e.num), V.str e.word, V.str e.ware] ++ (e.rest.map sV).map V.str) ++ (nwO e.lots).map V.str := by
 have h : ((nwO e.lots).map V.str).map sV = nwO e.lots := by rw [List.map_map]; exact List.map_id _
 unfold Ent.ws
 rw [List.map_append, List.map_append, List.map_append, List.map_append, h]
 rfl
theorem textT_len : ∀ (os : List Ent) (t : Str), (os.foldl (fun t e => t ++ rowT e.ws) t).length = t.length + (os.map fun e => (rowT e.ws).length).sum
 | [], t => by simp
 | e :: os, t => by
  rw [List.foldl_cons, textT_len os, str_len, List.map_cons, List.sum_cons]
  omega
theorem textT_snoc (os : List Ent) (e : Ent) : textT (os ++ [e]) = textT os ++ rowT e.ws := by
 unfold textT
 rw [List.foldl_append]
 rfl
def sp__law_text (K : Fg_) : Sp := fun vs H Q _ => ∃ (p : Addr) (tl : EL), vs = [.ref p] /\ H p = some (.lst (refsE tl)) /\ ToldN H tl /\ tl.length <= 60 /\ ∀ H', Same H H' -> Q (.str (textT (tl.map (·.2)))) H'
theorem ok__law_text (T : Txt w K mg A D) : FnOk P w K mg base CX0 1 A._law_text D._law_text ["_law_told"] (sp__law_text K) := by
 refine T.F__law_text.ok sc__law_text (fun vs H Q E h => ?_) (fun cdv A' outer s0 H vs Q E hr h => ?_)
 ·obtain ⟨p, tl, rfl, _⟩ := h; rfl
 ·obtain ⟨p, tl, rfl, hp, hT, hl, k⟩ := h
  refine ⟨_, (pss_cons (ps_set (i := 1) sc__law_text.nd rfl (Or.inl rfl) pe_str)
   (pss_cons (ps_for PassesOwn.never rfl (pi_listK (K := K) (pv 0)) (pg_name (i := 2) sc__law_text.nd rfl (Or.inl rfl))
    (pss_cons (ps_set (i := 3) sc__law_text.nd rfl (Or.inl rfl) (pe_lst (pa_cons (pe_callTy call_strV (by rfl) T.b_str (by decide +kernel) (pa_cons (pe_ix (ix_tupK (K := K)) (pv 2) pe_int (fun _ _ => rfl)) pa_nil)) (pa_cons (pe_callTy call_strV (by rfl) T.b_str (by decide +kernel) (pa_cons (pe_ix (ix_tupK (K := K)) (pv 2) pe_int (fun _ _ => rfl)) pa_nil)) (pa_cons (pe_ix (ix_tupK (K := K)) (pv 2) pe_int (fun _ _ => rfl)) (pa_cons (pe_ix (ix_tupK (K := K)) (pv 2) pe_int (fun _ _ => rfl)) pa_nil))))))
    (pss_cons (ps_set (i := 4) sc__law_text.nd rfl (Or.inl rfl) (pe_callTy (call_listK (K := K)) (by rfl) T.b_list (by decide +kernel) (pa_cons (pe_slice (sl_tupK (K := K)) (pv 2) (po_some pe_int) po_none) pa_nil)))
    (pss_cons (ps_set (i := 5) sc__law_text.nd rfl (Or.inl rfl) pe_non)
    (pss_cons (ps_if (PW.pt (pw_or (pt_cmpR (op_eq) (pe_ix (ix_tupK (K := K)) (pv 2) pe_int (fun _ _ => rfl)) pe_str (nomark _)) (pw_or1 (pt_cmpR (op_eq) (pe_ix (ix_tupK (K := K)) (pv 2) pe_int (fun _ _ => rfl)) pe_str (nomark _))))) (pss_one (ps_set (i := 5) sc__law_text.nd rfl (Or.inl rfl) (pe_bm0K (K := K) PySem.F.plainAttrs_list PySem.F.slot_list_pop PySem.F.type_list_pop mt_pop (pv 4)))) pss_nil)
    (pss_cons (ps_set (i := 3) sc__law_text.nd rfl (Or.inl rfl) (pe_op op_cat (pv 3) (pe_comp (cap := [Option.none]) (N' := ["_law_thing"]) rfl (by walk_at "compok") (pi_listK (K := K) (pv 4)) (fun _ _ _ _ => (pg_name (i := 0) (show (["_law_thing"] : List Str).Nodup from by decide +kernel) rfl (Or.inl rfl) (Or.inr rfl))) (fun _ _ _ _ => pts_nil) (fun _ _ _ _ => (pe_callTy call_strV (by rfl) T.b_str (by decide +kernel) (pa_cons (pv 0) pa_nil))))))
    (pss_cons (ps_if (pt_cmpR (op_notN) (pv 5) pe_non (nomark _)) (pss_one (ps_set (i := 3) sc__law_text.nd rfl (Or.inl rfl) (pe_op op_cat (pv 3) (pe_comp (cap := [Option.none, Option.none]) (N' := ["_law_lot", "_law_some"]) rfl (by walk_at "compok") (pi_tupK (K := K) (pv 5)) (fun _ _ _ _ => (pg_tupK (K := K) (n := 2) rfl (pgs_cons (pg_name (i := 0) (show (["_law_lot", "_law_some"] : List Str).Nodup from by decide +kernel) rfl (Or.inl rfl) (Or.inr rfl)) (pgs_cons (pg_name (i := 1) (show (["_law_lot", "_law_some"] : List Str).Nodup from by decide +kernel) rfl (Or.inl rfl) (Or.inr rfl)) pgs_nil)))) (fun _ _ _ _ => pts_nil) (fun _ _ _ _ => (pe_op op_add_str (pe_op op_add_str (pe_callTy call_strV (by rfl) T.b_str (by decide +kernel) (pa_cons (pv 0) pa_nil)) pe_str) (pe_callTy call_strV (by rfl) T.b_str (by decide +kernel) (pa_cons (pv 1) pa_nil)))))))) pss_nil)
    (pss_one (ps_set (i := 1) sc__law_text.nd rfl (Or.inl rfl) (pe_op op_add_str (pe_op op_add_str (pv 1) (pe_bmK (K := K) PySem.F.plainAttrs_str PySem.F.slot_str_join PySem.F.type_str_join mt_join pe_str (pa_cons (pv 3) pa_nil))) pe_str))))))))))
   (pss_one (ps_ret (pv 1))))), ?_⟩
  simp only [start_eq]
  walk_at "nx"
  try dsimp only
  rw [ap_seq, ap_for]
  walk_at "rdi"
  refine ⟨⟨_, SqL.of hp⟩, ?_⟩
  refine ForP.list (K := K) (a := p) (xs := refsE tl) (fun i σ Hx => ∃ (v2 v3 v4 v5 : Option V), σ = [some (.ref p), some (.str (textT ((tl.map (·.2)).take i))), v2, v3, v4, v5] /\ Same H Hx)
   ⟨_, _, _, _, rfl, Same.refl _⟩ (fun i σ Hx _ ⟨_, _, _, _, _, s⟩ => s.seq (SqL.of hp)) ?_ ?_
  ·rintro i x σ H1 hx ⟨v2, v3, v4, v5, rfl, s1⟩
   obtain ⟨r, hr', rfl⟩ := refsE_get hx
   obtain ⟨⟨nt, ht, hnt⟩, hg⟩ := (hT.same s1) r (List.mem_of_getElem? hr')
   obtain ⟨a0, a1, a2, a3⟩ := ats r.2 nt
   have hb := good_base hg
   have hd0 := hb.d0
   have hd1 := hb.d1
   have hn0 := hb.n0
   have hn1 := hb.n1
   walk_at "rdi"
   walk_at "nx"
   refine ⟨_, SqT.of ht, _, a1, .inl ⟨_, rfl, big_small (by omega), _, SqT.of ht, _, a2, .inl ⟨_, rfl, big_small (by omega), _, SqT.of ht, _, a0, _, SqT.of ht, _, a3, by rw [sizeLine_eq]; decide, fun p2 hp2 => ?_⟩⟩⟩
   have n2 := Same.new (o := .lst [V.str (strI r.2.day), V.str (strI r.2.num), V.str r.2.word, V.str r.2.ware]) hp2
   have h2 : (upd H1 p2 (.lst [V.str (strI r.2.day), V.str (strI r.2.num), V.str r.2.word, V.str r.2.ware])) p2 = some (.lst [V.str (strI r.2.day), V.str (strI r.2.num), V.str r.2.word, V.str r.2.ware]) := upd_same
   generalize upd H1 p2 (.lst [V.str (strI r.2.day), V.str (strI r.2.num), V.str r.2.word, V.str r.2.ware]) = H2 at n2 h2
   have hp2n := s1.free hp2
   walk_at "nx"
   refine ⟨_, SqT.of (n2 _ _ ht), rest_ne r.2 nt, fun p3 hp3 => ?_⟩
   rw [rest_cut]
   have n3 := Same.new (o := .tup (r.2.rest ++ (if r.2.nml then [nt] else []))) hp3
   have h3 : (upd H2 p3 (.tup (r.2.rest ++ (if r.2.nml then [nt] else [])))) p3 = some (.tup (r.2.rest ++ (if r.2.nml then [nt] else []))) := upd_same
   generalize upd H2 p3 (.tup (r.2.rest ++ (if r.2.nml then [nt] else []))) = H3 at n3 h3
   refine ⟨_, .inr (SqT.of h3), fun p4 hp4 => ?_⟩
   have n4 := Same.new (o := .lst (r.2.rest ++ (if r.2.nml then [nt] else []))) hp4
   have h4 : (upd H3 p4 (.lst (r.2.rest ++ (if r.2.nml then [nt] else [])))) p4 = some (.lst (r.2.rest ++ (if r.2.nml then [nt] else []))) := upd_same
   generalize upd H3 p4 (.lst (r.2.rest ++ (if r.2.nml then [nt] else []))) = H4 at n4 h4
   have s14 := n2.trans (n3.trans n4)
   have S4 := s1.trans s14
   have h4w := (n3.trans n4) _ _ h2
   have ht4 := s14 _ _ ht
   have hnt4 := hnt.same s14
   have hp4n : H p4 = Option.none := (s1.trans (n2.trans n3)).free hp4
   have hp14 : H1 p4 = Option.none := (n2.trans n3).free hp4
   have hne : p2 ≠ p4 := fun z => by have := n3 _ _ h2; rw [z, hp4] at this; cases this
   walk_at "nx"
   try dsimp only
   refine seq_genL (fun σ' H' => ∃ u, σ' = [some (.ref p), some (.str (textT ((tl.map (·.2)).take i))), some (.ref r.1), some (.ref p2), some (.ref p4), some u] /\ Same H H' /\ H' p4 = some (.lst r.2.rest) /\ H' p2 = some (.lst [V.str (strI r.2.day), V.str (strI r.2.num), V.str r.2.word, V.str r.2.ware]) /\ NT H' u r.2.lots) ?_ ?_
   rotate_left
   ·intro N hN
    walk_at "rdi"
    refine ⟨_, SqT.of ht4, _, a0, rfl, ?_⟩
    have pop : r.2.nml = true -> tyV K "list" (.ref p4) H4 /\ rPop (.ref p4) [] H4 fun x H' => N [some (.ref p), some (.str (textT ((tl.map (·.2)).take i))), some (.ref r.1), some (.ref p2), some (.ref p4), some x] H' := fun hm => by
     rw [hm] at h4
     refine ⟨.inl ⟨rfl, _, SqL.of h4⟩, p4, _, nt, rfl, rfl, h4, by simp, hN _ _ ⟨_, rfl, S4.upd hp4n, ?_, (upd_ne hne).trans h4w, ?_⟩⟩
     ·rw [upd_same, if_pos rfl, List.dropLast_concat]
     ·exact hnt.same (s14.upd hp14)
    by_cases hs : r.2.word = Str.ofString "sell"
    ·rw [if_pos (congrArg V.str hs)]
     exact pop ((nml_word _).mp (.inl hs))
    rw [if_neg fun z => hs (V.str.inj z)]
    refine ⟨_, SqT.of ht4, _, a0, rfl, ?_⟩
    by_cases hv : r.2.word = Str.ofString "give"
    ·rw [if_pos (congrArg V.str hv)]
     exact pop ((nml_word _).mp (.inr hv))
    rw [if_neg fun z => hv (V.str.inj z)]
    rcases args_form r.2 nt with ⟨hm, _⟩ | ⟨hm, hlo, _⟩
    ·exact absurd ((nml_word _).mpr hm) (fun q => q.elim hs hv)
    ·rw [hm, if_neg (by decide), List.append_nil] at h4
     exact hN _ _ ⟨_, rfl, S4, h4, h4w, by rw [hlo]; rfl⟩
   rintro σ' H5 ⟨u, rfl, S5, h5, h5w, hn5⟩
   obtain ⟨r1, r2⟩ := rest_ok hg
   obtain ⟨w1, w2⟩ := ws_ok hg
   have hnl := (nwO_ok hg).2
   obtain ⟨pp, hpp, hgo⟩ := good_o hg
   try dsimp only
   walk_at "nx"
   refine ⟨⟨_, SqL.of h5⟩, ?_⟩
   refine CompP.list (K := K) (xs := r.2.rest) (fun σ => ∃ a, σ = [a]) (fun _ => true) (fun v => .str (sV v)) (SqL.of h5) ⟨_, rfl⟩ (by rw [sizeLine_eq]; omega) ?_ ?_
   ·rintro x hx σ H6 R1 R2 ⟨_, rfl⟩ sm k1 k2
    walk_at "rdi"
    rcases r1 x hx with ⟨j, rfl, hj⟩ | ⟨z, rfl, hz⟩
    ·exact .inl ⟨j, rfl, hj, k1 rfl _ _ ⟨_, rfl⟩ (Same.refl _)⟩
    ·exact .inr ⟨z, rfl, k1 rfl _ _ ⟨_, rfl⟩ (Same.refl _)⟩
   intro D6 H6 hD6 s6 h6
   rw [sV_map] at h6
   refine ⟨p2, D6, _, _, rfl, rfl, s6 _ _ h5w, h6, by rw [sizeLine_eq, List.length_map, List.length_map]; simp; omega, fun p7 hp7 => ?_⟩
   obtain ⟨W0, hW0⟩ : ∃ W0, W0 = [V.str (strI r.2.day), V.str (strI r.2.num), V.str r.2.word, V.str r.2.ware] ++ (r.2.rest.map sV).map V.str := ⟨_, rfl⟩
   have hWl : W0.length <= 7 := by rw [hW0, List.length_append, List.length_map, List.length_map]; simp; omega
   rw [<- hW0]
   have n7 := Same.new (o := .lst W0) hp7
   have h7 : (upd H6 p7 (.lst W0)) p7 = some (.lst W0) := upd_same
   generalize upd H6 p7 (.lst W0) = H7 at n7 h7
   have S7 := S5.trans (s6.trans n7)
   have hn7 := hn5.same (s6.trans n7)
   try dsimp only
   refine seq_genL (fun σ' H' => ∃ pw, σ' = [some (.ref p), some (.str (textT ((tl.map (·.2)).take i))), some (.ref r.1), some (.ref pw), some (.ref p4), some u] /\ Same H H' /\ H' pw = some (.lst ((r.2.ws.map sV).map V.str))) ?_ ?_
   rotate_left
   ·intro N hN
    have hws := ws_strs r.2
    rw [<- hW0] at hws
    walk_at "rdi"
    cases hlo : r.2.lots with
    | none =>
     rw [hlo] at hn7 hws
     have hu : u = .non := hn7
     subst hu
     rw [if_neg (by simp)]
     exact hN _ _ ⟨p7, rfl, S7, by rw [hws, h7]; exact congrArg (fun z => some (HO.lst z)) (List.append_nil _).symm⟩
    | some rs =>
     rw [hlo] at hn7 hws hgo
     obtain ⟨l, rfl, hl7, hL⟩ := hn7
     have hgo : GoodN rs pp := hgo
     rw [if_pos (by simp)]
     refine ⟨l, rfl, ⟨_, SqT.of hl7⟩, ?_⟩
     refine CompP.tupF (fun σ => ∃ a b, σ = [a, b]) (lwV H7) (SqT.of hl7) ⟨_, _, rfl⟩ (by rw [refs_len, sizeLine_eq]; have := hgo.l; omega) ?_ ?_
     ·rintro x hx σ H8 R ⟨_, _, rfl⟩ sm kk
      obtain ⟨q, hq, rfl⟩ := List.mem_map.mp hx
      have htq := hL q hq
      obtain ⟨b0, b1, b2, b3⟩ := hgo.b q hq
      have b4 := strI_len (big_small (i := q.2.1) (by omega))
      have b5 := strI_len (big_small (i := q.2.2) (by omega))
      have e1 : (Str.ofString ":").length = 1 := by decide +kernel
      rw [lwV_at htq] at kk
      walk_at "rdi"
      exact ⟨_, SqT.of (sm _ _ htq), rfl, _, _, rfl, _, _, rfl, rfl, .inl ⟨_, rfl, big_small (by omega), by rw [e1, sizeLine_eq]; omega, .inl ⟨_, rfl, big_small (by omega), by rw [str_len, e1, sizeLine_eq]; omega, kk _ _ ⟨_, _, rfl⟩ (Same.refl _)⟩⟩⟩
     ·intro D8 H8 hD8 s8 h8
      rw [lw_map hL] at h8
      refine ⟨p7, D8, _, _, rfl, rfl, s8 _ _ h7, h8, by rw [List.length_map, List.length_map, sizeLine_eq]; have := hgo.l; omega, fun p9 hp9 => hN _ _ ⟨p9, rfl, (S7.trans s8).trans (Same.new hp9), ?_⟩⟩
      rw [upd_same, hws]
      rfl
   rintro σ' H8 ⟨pw, rfl, S8, h8⟩
   have hgt : ∀ e ∈ (tl.map (·.2)).take i, e.good := fun e he => by
    obtain ⟨q, hq, rfl⟩ := List.mem_map.mp (List.mem_of_mem_take he)
    exact (hT q hq).2
   have l1 : (textT ((tl.map (·.2)).take i)).length <= 12013 * 60 := by
    unfold textT
    rw [textT_len]
    have q1 := text_len _ hgt
    have q2 : ((tl.map (·.2)).take i).length <= 60 := by rw [List.length_take, List.length_map]; omega
    have q3 : (Str.ofString "").length = 0 := by decide +kernel
    have q4 := Nat.mul_le_mul_left 12013 q2
    omega
   have e1 : (Str.ofString " ").length = 1 := by decide +kernel
   have e2 : (Str.ofString "\n").length = 1 := by decide +kernel
   have l2 := sum_words w1
   have l3 := row_len w1
   have l4 := l3
   unfold rowT at l4
   rw [str_len, e2] at l4
   have hgr : (tl.map (·.2))[i]? = some r.2 := by rw [List.getElem?_map, hr']; rfl
   try dsimp only
   walk_at "rdi"
   refine ⟨rfl, _, h8, by rw [List.length_map, e1]; omega, by rw [sizeLine_eq]; omega, by rw [str_len, e2, sizeLine_eq]; omega, ?_, S8⟩
   rw [List.take_add_one, hgr]
   exact ((textT_snoc _ r.2).trans (str_assoc _ _ _).symm).symm
  ·rintro σ H1 ⟨v2, v3, v4, v5, rfl, s1⟩
   rw [refsE_len, <- List.length_map (f := fun r : Addr × Ent => r.2), List.take_length]
   walk_at "rda"
   exact k H1 s1
end
end My
namespace My
open PySem L2 PyProof.Rows
section
variable {P : Program} {w : World} {K : Fg_} {mg : Str -> Option Value} {base : Heap} {A : Adr} {D : Fds}
local macro_rules | `(tactic| walk_at "nx") => `(tactic| ((try dsimp only); rw [ap_seq]; walk_at "rdi"))
def sp__law_turned (K : Fg_) : Sp := fun vs H Q _ => ∃ (q : Addr) (es : EL) (c : Int), vs = [.ref q, .int c] /\ H q = some (.lst (refsE es)) /\ es.length <= 100 /\
 ∀ p es' H', Same H H' -> H p = Option.none -> H' p = some (.lst (refsE es')) -> es'.Perm es -> Q (.ref p) H'
theorem ok__law_turned (T : Txt w K mg A D) : FnOk P w K mg base CX0 1 A._law_turned D._law_turned ["_law_row", "_law_cell"] (sp__law_turned K) := by
 refine T.F__law_turned.ok sc__law_turned (fun vs H Q E h => ?_) (fun cdv A' outer s0 H vs Q E hr h => ?_)
 ·obtain ⟨q, es, c, rfl, _⟩ := h; rfl
 ·obtain ⟨q, es, c, rfl, hq, hl, k⟩ := h
  refine ⟨_, (pss_cons (ps_set (i := 2) sc__law_turned.nd rfl (Or.inl rfl) (pe_lst pa_nil))
   (pss_cons (ps_for PassesOwn.never rfl (pi_range1 (by rfl) T.b_range (pa_cons (pe_callB (call_lenK (K := K)) (by rfl) T.b_len (by decide +kernel) (pa_cons (pv 0) pa_nil)) pa_nil)) (pg_name (i := 3) sc__law_turned.nd rfl (Or.inl rfl))
    (pss_one (ps_expr (pe_bmK (K := K) PySem.F.plainAttrs_list PySem.F.slot_list_insert PySem.F.type_list_insert mt_insert (pv 2) (pa_cons (pe_op op_mod (pe_op op_fdivB (pv 1) (pe_op op_add (pe_op op_mulU pe_int (pv 3)) pe_int)) (pe_op op_add (pe_callB (call_lenK (K := K)) (by rfl) T.b_len (by decide +kernel) (pa_cons (pv 2) pa_nil)) pe_int)) (pa_cons (pe_ix (ix_listK (K := K)) (pv 0) (pv 3) (fun _ _ => rfl)) pa_nil))))))
   (pss_one (ps_ret (pv 2))))), ?_⟩
  simp only [start_eq]
  walk_at "nx"
  refine ⟨by rw [sizeLine_eq]; decide, fun pt hpt => ?_⟩
  have S1 := Same.new (o := .lst []) hpt
  have h1 : (upd H pt (.lst [])) pt = some (.lst []) := upd_same
  generalize upd H pt (.lst []) = H1 at S1 h1
  try dsimp only
  rw [ap_seq, ap_for]
  walk_at "rdi"
  refine ⟨_, .inl (SqL.of (S1 _ _ hq)), by omega, by rw [refsE_len]; omega, ?_⟩
  rw [refsE_len, Int.toNat_natCast]
  refine ForP.range (lo := 0) (n := es.length) (fun i σ Hx => ∃ (tl : EL) (v3 : Option V), σ = [some (.ref q), some (.int c), some (.ref pt), v3] /\ Same H Hx /\ Hx pt = some (.lst (refsE tl)) /\ tl.Perm (es.take i))
   ⟨[], _, rfl, S1, h1, .refl _⟩ ?_ ?_
  ·rintro i σ Hx hi ⟨tl, v3, rfl, Sx, hx, hpm⟩
   obtain ⟨r, hgr⟩ : ∃ r, es[i]? = some r := ⟨_, List.getElem?_eq_getElem hi⟩
   have htl : tl.length = i := by rw [hpm.length_eq, List.length_take]; omega
   walk_at "rdi"
   refine ⟨.inl ⟨rfl, _, SqL.of hx⟩, CMulU.l (by decide) (by decide), ⟨by omega, by
    have : (3 * (0 + (i : Int)) + 1).natAbs <= 1000 := by omega
    exact Nat.lt_of_le_of_lt this (by decide)⟩, _, .inl (SqL.of hx), ?_⟩
   rw [refsE_len]
   have b1 := Int.emod_nonneg (c / (3 * (0 + (i : Int)) + 1)) (show ((tl.length : Int) + 1) ≠ 0 by omega)
   have b2 := Int.emod_lt_of_pos (c / (3 * (0 + (i : Int)) + 1)) (show 0 < ((tl.length : Int) + 1) by omega)
   obtain ⟨n0, hn0⟩ : ∃ n0 : Nat, c / (3 * (0 + (i : Int)) + 1) % ((tl.length : Int) + 1) = n0 := ⟨(c / (3 * (0 + (i : Int)) + 1) % ((tl.length : Int) + 1)).toNat, by omega⟩
   rw [hn0] at b2 ⊢
   refine ⟨by omega, _, SqL.of (Sx _ _ hq), .ref r.1, ?_, ?_⟩
   ·show atI (refsE es) (0 + (i : Int)) = _
    rw [show (0 + (i : Int)) = ((i : Nat) : Int) by omega]
    refine atI_nat ?_
    unfold refsE
    rw [List.getElem?_map, hgr]
    rfl
   refine ⟨pt, refsE tl, (n0 : Int), .ref r.1, rfl, rfl, hx, by omega, by rw [refsE_len]; omega, by omega, by rw [refsE_len, sizeLine_eq]; omega, Sx.upd hpt, tl.take n0 ++ r :: tl.drop n0, ?_, ?_⟩
   ·rw [upd_same, Int.toNat_natCast]
    unfold refsE
    rw [List.map_append, List.map_cons, List.map_take, List.map_drop]
   ·rw [List.take_add_one, hgr]
    refine List.Perm.trans ?_ (hpm.append_right _)
    refine List.perm_middle.trans ?_
    rw [List.take_append_drop]
    exact (List.perm_append_singleton _ _).symm
  ·rintro σ Hx ⟨tl, v3, rfl, Sx, hx, hpm⟩
   walk_at "rda"
   rw [List.take_length] at hpm
   exact k pt tl Hx Sx hpt hx hpm
end
end My
namespace My
open PySem L2 PyProof.Rows
section
variable {P : Program} {w : World} {K : Fg_} {mg : Str -> Option Value} {base : Heap} {A : Adr} {D : Fds}
theorem strI_signs {i : Int} (h : 0 <= i) : ∀ c ∈ (strI i).cps.toList, 48 <= c /\ c <= 57 := by
 obtain ⟨m, em⟩ := Int.eq_ofNat_of_zero_le h
 subst em
 intro c hc
 unfold strI at hc
 rw [PySem.W.KIN.signs_num] at hc
 obtain ⟨ch, g2, e⟩ := List.mem_map.mp hc
 rw [<- e]
 exact digit_range (Nat.isDigit_of_mem_toDigits (by decide) (by decide) g2)
def Clean (z : Str) : Prop := 32 ∉ z.cps.toList /\ 10 ∉ z.cps.toList
theorem clean_int {i : Int} (h : 0 <= i) : Clean (strI i) := ⟨fun m => by have := strI_signs h 32 m; omega, fun m => by have := strI_signs h 10 m; omega⟩
theorem clean_nm {z : Str} (h : Nm z) : Clean z := ⟨fun m => by have := h.2.2 32 m; omega, fun m => by have := h.2.2 10 m; omega⟩
theorem clean_app {a b : Str} (ha : Clean a) (hb : Clean b) : Clean (a ++ b) := by
 have e : (a ++ b).cps.toList = a.cps.toList ++ b.cps.toList := by
  show (a.cps ++ b.cps).toList = _
  rw [Array.toList_append]
 unfold Clean
 rw [e]
 exact ⟨fun m => (List.mem_append.mp m).elim ha.1 hb.1, fun m => (List.mem_append.mp m).elim ha.2 hb.2⟩
theorem clean_colon : Clean (Str.ofString ":") := by unfold Clean; decide +kernel
theorem clean_word (e : Ent) : Clean e.word := by
 unfold Clean
 cases e <;> (simp only [Ent.word]; decide +kernel)
theorem clean_lot {rs : Rs} {p : Int} (h : GoodN rs p) {r : Addr × Int × Int} (hr : r ∈ rs) : Clean (lotW r) := by
 obtain ⟨b0, b1, b2, b3⟩ := h.b r hr
 exact clean_app (clean_app (clean_int b0) clean_colon) (clean_int (by omega))
theorem rest_clean {e : Ent} (h : e.good) : ∀ v ∈ e.rest, Clean (sV v) := by
 have key : ∀ {l : List V}, (∀ v ∈ l, Clean (sV v)) -> ∀ {v : V}, Clean (sV v) -> ∀ x ∈ v :: l, Clean (sV x) := fun hl _ hv x hx => by
  rcases List.mem_cons.mp hx with rfl | hx
  ·exact hv
  ·exact hl x hx
 have nl : ∀ v ∈ ([] : List V), Clean (sV v) := fun v hv => (List.not_mem_nil hv).elim
 have i : ∀ {n : Int}, 0 <= n -> Clean (sV (.int n)) := fun h => clean_int h
 cases e with
 | buy d n w p r f =>
  obtain ⟨_, ⟨a1, a2⟩, ⟨b1, b2⟩, c1, c2⟩ := h
  exact key (key (key nl (i (by omega))) (i (by omega))) (i (by omega))
 | sell d n w p r f o =>
  obtain ⟨_, ⟨a1, a2⟩, ⟨b1, b2⟩, ⟨c1, c2⟩, _⟩ := h
  exact key (key (key nl (i (by omega))) (i (by omega))) (i (by omega))
 | gift d n w p c s =>
  obtain ⟨b, ⟨a1, a2⟩, ⟨b1, b2⟩, c1, c2⟩ := h
  exact key (key (key nl (i (by omega))) (i (by omega))) (i (by omega))
 | give d n w p o =>
  obtain ⟨_, ⟨a1, a2⟩, _⟩ := h
  exact key nl (i (by omega))
 | split d n w m f =>
  obtain ⟨_, ⟨a1, a2⟩, b1, b2⟩ := h
  exact key (key nl (i (by omega))) (i (by omega))
 | part d n w u s t =>
  obtain ⟨_, hu, _, ⟨a1, a2⟩, b1, b2⟩ := h
  exact key (key (key nl (i (by omega))) (i (by omega))) (clean_nm hu)
theorem ws_clean {e : Ent} (h : e.good) : ∀ z ∈ e.ws.map sV, Clean z := fun z hz => by
 obtain ⟨v, hv, rfl⟩ := List.mem_map.mp hz
 have b := good_base h
 unfold Ent.ws at hv
 rcases List.mem_append.mp hv with hv | hv
 ·rcases List.mem_append.mp hv with hv | hv
  ·simp only [List.mem_cons, List.not_mem_nil, or_false] at hv
   rcases hv with rfl | rfl | rfl | rfl
   ·exact clean_int b.d0
   ·exact clean_int b.n0
   ·exact clean_word e
   ·exact clean_nm b.w
  ·exact rest_clean h v hv
 ·obtain ⟨y, hy, rfl⟩ := List.mem_map.mp hv
  obtain ⟨p, _, ho⟩ := good_o h
  show Clean y
  cases e0 : e.lots with
  | none => rw [e0] at hy; exact (List.not_mem_nil hy).elim
  | some rs =>
   rw [e0] at hy ho
   obtain ⟨r, hr, rfl⟩ := List.mem_map.mp hy
   exact clean_lot ho hr
def bodyT (e : Ent) : Str := Txt.join (Str.ofString " ") (e.ws.map sV)
theorem sign_blank : Str.ofString " " = ⟨#[32]⟩ := by decide +kernel
theorem sign_feed : Str.ofString "\n" = ⟨#[10]⟩ := by decide +kernel
theorem body_split {e : Ent} (h : e.good) : Txt.split (bodyT e) (Str.ofString " ") = e.ws.map sV := by
 unfold bodyT
 rw [sign_blank]
 refine split_join (fun z => ?_) fun p hp => (ws_clean h p hp).1
 have := congrArg List.length z
 rw [List.length_map] at this
 unfold Ent.ws at this
 simp at this
theorem join_clean {c d : Nat} (hcd : c ≠ d) : ∀ {ps : List Str}, (∀ p ∈ ps, c ∉ p.cps.toList) -> c ∉ (Str.join ⟨#[d]⟩ ps).cps.toList
 | [], _ => fun m => (List.not_mem_nil (show c ∈ ([] : List Nat) from m)).elim
 | [p], h => h p List.mem_cons_self
 | p :: q :: r, h => by
  rw [join_two]
  intro m
  rcases List.mem_append.mp m with m | m
  ·exact h p List.mem_cons_self m
  ·rcases List.mem_cons.mp m with m | m
   ·exact hcd m
   ·exact join_clean hcd (ps := q :: r) (fun x hx => h x (List.mem_cons_of_mem _ hx)) m
theorem body_line {e : Ent} (h : e.good) : 10 ∉ (bodyT e).cps.toList := by
 unfold bodyT
 rw [sign_blank, show Txt.join ⟨#[32]⟩ (e.ws.map sV) = Str.join ⟨#[32]⟩ (e.ws.map sV) from StrLaws.glued_eq_join _ _]
 exact join_clean (by decide) fun p hp => (ws_clean h p hp).2
theorem text_join : ∀ os : List Ent, (os.map fun e => rowT e.ws).foldr (fun x t => x ++ t) (Str.ofString "") = Str.join (Str.ofString "\n") (os.map bodyT ++ [Str.ofString ""])
 | [] => rfl
 | [e] => by
  show rowT e.ws ++ Str.ofString "" = bodyT e ++ Str.ofString "\n" ++ Str.ofString ""
  rfl
 | e :: f :: os => by
  have ih := text_join (f :: os)
  rw [List.map_cons, List.foldr_cons, ih]
  show rowT e.ws ++ Str.join (Str.ofString "\n") (bodyT f :: (os.map bodyT ++ [Str.ofString ""])) = bodyT e ++ Str.ofString "\n" ++ Str.join (Str.ofString "\n") (bodyT f :: (os.map bodyT ++ [Str.ofString ""]))
  rfl
theorem fold_lr : ∀ (xs : List Str) (t : Str), xs.foldl (fun t x => t ++ x) t = t ++ xs.foldr (fun x t => x ++ t) (Str.ofString "")
 | [], t => by
  show t = t ++ Str.ofString ""
  have : (t ++ Str.ofString "").cps = t.cps := by
   show t.cps ++ (Str.ofString "").cps = _
   rw [nil_cps, Array.append_empty]
  exact (Str.ext' this).symm
 | x :: xs, t => by
  rw [List.foldl_cons, fold_lr xs, List.foldr_cons, str_assoc]
theorem text_split {os : List Ent} (h : ∀ e ∈ os, e.good) : Txt.split (textT os) (Str.ofString "\n") = os.map bodyT ++ [Str.ofString ""] := by
 have e1 : textT os = Txt.join ⟨#[10]⟩ (os.map bodyT ++ [Str.ofString ""]) := by
  have e2 : textT os = (os.map fun e => rowT e.ws).foldl (fun t x => t ++ x) (Str.ofString "") := by
   unfold textT
   rw [List.foldl_map]
  rw [e2, fold_lr, str_nil, text_join, sign_feed]
  exact (StrLaws.glued_eq_join _ _).symm
 rw [e1, sign_feed]
 refine split_join (by simp) fun p hp => ?_
 rcases List.mem_append.mp hp with hp | hp
 ·obtain ⟨e, he, rfl⟩ := List.mem_map.mp hp
  exact body_line (h e he)
 ·rw [List.mem_singleton.mp hp, nil_cps]
  simp
end
end My
namespace My
open PySem L2 PyProof.Rows
section
variable {P : Program} {w : World} {K : Fg_} {mg : Str -> Option Value} {base : Heap} {A : Adr} {D : Fds}
def l2 (rs : Rs) : List (Int × Int) := rs.map (·.2)
def SmO : Option Rs -> Option Rs -> Prop
 | Option.none, Option.none => True
 | some rs, some rs' => l2 rs' = l2 rs
 | _, _ => False
theorem l2_map {β : Type} {f : Addr × Int × Int -> β} (g : Int × Int -> β) (hf : ∀ r, f r = g r.2) {rs rs' : Rs} (h : l2 rs' = l2 rs) : rs'.map f = rs.map f := by
 have e : ∀ l : Rs, l.map f = (l2 l).map g := fun l => by
  unfold l2
  rw [List.map_map]
  exact List.map_congr_left fun r _ => hf r
 rw [e, e, h]
theorem l2_good {rs rs' : Rs} {p : Int} (h : l2 rs' = l2 rs) (hg : GoodN rs p) : GoodN rs' p := by
 refine ⟨?_, fun r hr => ?_, ?_, ?_⟩
 ·have := congrArg List.length h
  unfold l2 at this
  rw [List.length_map, List.length_map] at this
  rw [this]
  exact hg.l
 ·have hm : r.2 ∈ l2 rs := by rw [<- h]; exact List.mem_map_of_mem hr
  obtain ⟨q, hq, e⟩ := List.mem_map.mp hm
  rw [<- e]
  exact hg.b q hq
 ·rw [l2_map (fun x => x.1) (fun _ => rfl) h]; exact hg.u
 ·rw [l2_map (fun x => x.2) (fun _ => rfl) h]; exact hg.s
theorem smO_good {o o' : Option Rs} {p : Int} (h : SmO o o') (hg : GoodO p o) : GoodO p o' := by
 cases o with
 | none => cases o' with
  | none => exact hg
  | some _ => exact h.elim
 | some rs => cases o' with
  | none => exact h.elim
  | some rs' => exact l2_good h hg
def Ent.wl (o : Option Rs) : Ent -> Ent
 | .sell d n w p r f _ => .sell d n w p r f o
 | .give d n w p _ => .give d n w p o
 | e => e
theorem wl_args (e : Ent) (o : Option Rs) (nv : V) : (e.wl o).args nv = e.args nv := by cases e <;> rfl
theorem wl_word (e : Ent) (o : Option Rs) : (e.wl o).word = e.word := by cases e <;> rfl
theorem wl_day (e : Ent) (o : Option Rs) : (e.wl o).day = e.day := by cases e <;> rfl
theorem wl_num (e : Ent) (o : Option Rs) : (e.wl o).num = e.num := by cases e <;> rfl
theorem smO_none {o : Option Rs} (h : SmO Option.none o) : o = Option.none := by
 cases o with
 | none => rfl
 | some _ => exact h.elim
theorem wl_lots {e : Ent} {o : Option Rs} (h : SmO e.lots o) : (e.wl o).lots = o := by
 cases e with
 | sell => rfl
 | give => rfl
 | _ => exact (smO_none h).symm
theorem wl_good {e : Ent} {o : Option Rs} (h : SmO e.lots o) (hg : e.good) : (e.wl o).good := by
 cases e with
 | sell => exact ⟨hg.1, hg.2.1, hg.2.2.1, hg.2.2.2.1, smO_good h hg.2.2.2.2⟩
 | give => exact ⟨hg.1, hg.2.1, smO_good h hg.2.2⟩
 | _ => exact hg
theorem smO_nw {o o' : Option Rs} (h : SmO o o') : nwO o' = nwO o := by
 cases o with
 | none => rw [smO_none h]
 | some rs => cases o' with
  | none => exact h.elim
  | some rs' => exact l2_map (f := lotW) (fun x => strI x.1 ++ Str.ofString ":" ++ strI x.2) (fun _ => rfl) h
theorem smO_nt {o o' : Option Rs} (h : SmO o o') : ntD o' = ntD o := by
 cases o with
 | none => rw [smO_none h]
 | some rs => cases o' with
  | none => exact h.elim
  | some rs' => exact congrArg DV.tup (l2_map (f := pairD) (fun x => .tup [.int x.1, .int x.2]) (fun _ => rfl) h)
theorem wl_ws {e : Ent} {o : Option Rs} (h : SmO e.lots o) : (e.wl o).ws = e.ws := by
 have h1 : nwO (e.wl o).lots = nwO e.lots := by rw [wl_lots h]; exact smO_nw h
 unfold Ent.ws
 rw [h1]
 cases e <;> rfl
theorem wl_dvT {e : Ent} {o : Option Rs} (h : SmO e.lots o) : (e.wl o).dvT = e.dvT := by
 cases e with
 | sell => show DV.tup (_ :: [_, _, _, _, _, _, ntD o]) = _; rw [smO_nt h]; rfl
 | give => show DV.tup (_ :: [_, _, _, _, ntD o]) = _; rw [smO_nt h]; rfl
 | _ => rfl
def Alk (e e' : Ent) : Prop := ∃ o, SmO e.lots o /\ e' = e.wl o
theorem Alk.good {e e' : Ent} (h : Alk e e') (hg : e.good) : e'.good := by obtain ⟨o, h, rfl⟩ := h; exact wl_good h hg
theorem Alk.ws {e e' : Ent} (h : Alk e e') : e'.ws = e.ws := by obtain ⟨o, h, rfl⟩ := h; exact wl_ws h
theorem Alk.dvT {e e' : Ent} (h : Alk e e') : e'.dvT = e.dvT := by obtain ⟨o, h, rfl⟩ := h; exact wl_dvT h
theorem Alk.num {e e' : Ent} (h : Alk e e') : e'.num = e.num := by obtain ⟨o, h, rfl⟩ := h; exact wl_num e o
theorem Alk.day {e e' : Ent} (h : Alk e e') : e'.day = e.day := by obtain ⟨o, h, rfl⟩ := h; exact wl_day e o
theorem Alk.word {e e' : Ent} (h : Alk e e') : e'.word = e.word := by obtain ⟨o, h, rfl⟩ := h; exact wl_word e o
theorem lots_of {H : Hp} {rs : Rs} : ∀ {acc : List V}, acc.length = rs.length -> (∀ (i : Nat) v, acc[i]? = some v -> ∃ b r, rs[i]? = some r /\ v = .ref b /\ H b = some (.tup [.int r.2.1, .int r.2.2])) -> ∃ rs' : Rs, acc = refs rs' /\ l2 rs' = l2 rs /\ Lots H rs' := by
 induction rs with
 | nil => intro acc hl _; exact ⟨[], List.eq_nil_of_length_eq_zero hl, rfl, fun r hr => nomatch hr⟩
 | cons r rs ih =>
  intro acc hl h
  cases acc with
  | nil => cases hl
  | cons v acc =>
   obtain ⟨b, r', e1, e2, e3⟩ := h 0 v rfl
   cases Option.some.inj e1
   obtain ⟨rs', a1, a2, a3⟩ := ih (acc := acc) (Nat.succ.inj hl) fun i v hv => h (i + 1) v hv
   refine ⟨(b, r.2) :: rs', by rw [e2, a1]; rfl, ?_, fun q hq => ?_⟩
   ·show r.2 :: l2 rs' = r.2 :: l2 rs
    rw [a2]
   ·rcases List.mem_cons.mp hq with e | hq
    ·subst e; exact e3
    ·exact a3 q hq
theorem sign_colon : Str.ofString ":" = ⟨#[58]⟩ := by decide +kernel
theorem part_lot {r : Addr × Int × Int} (h : 0 <= r.2.1) : Txt.partition (lotW r) (Str.ofString ":") = (strI r.2.1, Str.ofString ":", strI r.2.2) := by
 unfold lotW
 rw [sign_colon]
 exact part_at fun m => by have := strI_signs h 58 m; omega
end
end My
namespace My
open PySem L2 PyProof.Rows
section
variable {P : Program} {w : World} {K : Fg_} {mg : Str -> Option Value} {base : Heap} {A : Adr} {D : Fds}
local macro_rules | `(tactic| walk_at "nx") => `(tactic| ((try dsimp only); rw [ap_seq]; walk_at "rdi"))
theorem lead_ne : ∀ m : Nat, 0 < m -> (Nat.toDigits 10 m).head? ≠ some '0' := fun m => by
 induction m using Nat.strongRecOn with
 | _ m ih =>
  intro h0
  by_cases h : m < 10
  ·rw [Nat.toDigits_of_lt_base h]
   have key : ∀ d : Fin 10, 0 < d.val -> [Nat.digitChar d.val].head? ≠ some '0' := by decide
   exact key ⟨m, h⟩ h0
  ·rw [Nat.toDigits_of_base_le (by decide) (by omega), List.head?_append]
   have h1 := ih (m / 10) (by omega) (by omega)
   cases e : (Nat.toDigits 10 (m / 10)).head? with
   | none => exact (Nat.toDigits_ne_nil (List.head?_eq_none_iff.mp e)).elim
   | some c =>
    rw [e] at h1
    exact h1
theorem starts_at {z : Str} {c : Nat} : Txt.startswith z ⟨#[c]⟩ = true ↔ z.cps.toList[0]? = some c := by
 rw [<- PySem.StrLaws.subAt_one]
 unfold Txt.startswith
 rw [Bool.and_eq_true, decide_eq_true_iff]
theorem sign_0 : Str.ofString "0" = ⟨#[48]⟩ := by decide +kernel
theorem char_48 {c : Char} (h : c.toNat = 48) : c = '0' := Char.ext (UInt32.toNat_inj.mp h)
theorem strI_lead {i : Int} (h : 0 <= i) (hs : Txt.startswith (strI i) (Str.ofString "0") = true) : strI i = Str.ofString "0" := by
 obtain ⟨m, em⟩ := Int.eq_ofNat_of_zero_le h
 subst em
 rw [sign_0] at hs
 have h1 := starts_at.mp hs
 unfold strI at h1
 rw [PySem.W.KIN.signs_num, List.getElem?_map] at h1
 cases e : (Nat.toDigits 10 m)[0]? with
 | none => rw [e] at h1; cases h1
 | some c =>
  rw [e] at h1
  have hc : c = '0' := char_48 (Option.some.inj h1)
  by_cases h0 : 0 < m
  ·exact (lead_ne m h0 (by rw [List.head?_eq_getElem?, e, hc])).elim
  ·have : m = 0 := by omega
   subst this
   decide +kernel
theorem strI_19 {i : Int} (h0 : 0 <= i) (h1 : i <= 1000000000000000000) : 1 <= (strI i).length /\ (strI i).length <= 19 := by
 obtain ⟨m, em⟩ := Int.eq_ofNat_of_zero_le h0
 subst em
 have e : (strI ((m : Nat) : Int)).length = (Nat.toDigits 10 m).length := by
  show (strI ((m : Nat) : Int)).cps.size = _
  rw [<- Array.length_toList]
  unfold strI
  rw [PySem.W.KIN.signs_num, List.length_map]
 rw [e]
 exact ⟨Nat.length_toDigits_pos, (Nat.length_toDigits_le_iff (by decide) (by decide)).mpr (by omega)⟩
def GoodW (v : V) : Prop := (∃ i : Int, v = .int i /\ 0 <= i /\ i <= 1000000000000000000) \/ ∃ z, v = .str z /\ Nm z
def numW : V -> Bool
 | .int _ => true
 | _ => false
theorem goodW_len {v : V} (h : GoodW v) : 1 <= (sV v).length /\ (sV v).length <= 19 := by
 rcases h with ⟨i, rfl, h0, h1⟩ | ⟨z, rfl, hz⟩
 ·exact strI_19 h0 h1
 ·exact ⟨hz.1, Nat.le_trans hz.2.1 (by decide)⟩
theorem goodW_lead {v : V} (h : GoodW v) (hs : Txt.startswith (sV v) (Str.ofString "0") = true) : sV v = Str.ofString "0" := by
 rcases h with ⟨i, rfl, h0, h1⟩ | ⟨z, rfl, hz⟩
 ·exact strI_lead h0 hs
 ·rw [sign_0] at hs
  have h1 := List.mem_of_getElem? (starts_at.mp hs)
  have := hz.2.2 48 h1
  omega
theorem goodW_sign {v : V} (h : GoodW v) {c : Nat} (hc : c ∈ (sV v).cps.toList) : 48 <= c /\ (c <= 57 ↔ numW v = true) := by
 rcases h with ⟨i, rfl, h0, h1⟩ | ⟨z, rfl, hz⟩
 ·have := strI_signs h0 c hc
  exact ⟨this.1, fun _ => rfl, fun _ => this.2⟩
 ·have := hz.2.2 c hc
  exact ⟨by omega, fun z => by omega, fun z => nomatch z⟩
def sp_is_written_number : Sp := fun vs H Q _ => ∃ v : V, vs = [.str (sV v)] /\ GoodW v /\ ∀ H', Same H H' -> Q (.bl (numW v)) H'
theorem ok_is_written_number (T : Txt w K mg A D) : FnOk P w K mg base CX0 1 A.is_written_number D.is_written_number ["word"] sp_is_written_number := by
 refine T.F_is_written_number.ok sc_is_written_number (fun vs H Q E h => ?_) (fun cdv A outer s H vs Q E hr h => ?_)
 ·obtain ⟨v, rfl, _⟩ := h; rfl
 ·obtain ⟨v, rfl, hg, k⟩ := h
  refine ⟨_, (pss_cons (ps_if (PW.pt (pw_or (pt_cmpR (op_eq) (pv 0) pe_str (nomark _)) (pw_or1 (pt_cmpR (op_gt) (pe_callB call_len_str (by rfl) T.b_len (by decide +kernel) (pa_cons (pv 0) pa_nil)) (pe_glob (v := V.int 19) (by rfl) T.g_MOST_FIGURES ⟨_, rfl⟩) (nomark _))))) (pss_one (ps_ret pe_bl)) pss_nil)
   (pss_cons (ps_if (PW.pt (pw_and (pt_val (pe_bmK (K := K) PySem.F.plainAttrs_str PySem.F.slot_str_startswith PySem.F.type_str_startswith mt_startswith (pv 0) (pa_cons pe_str pa_nil))) (pw_and1 (pt_cmpR (op_ne) (pv 0) pe_str (nomark _))))) (pss_one (ps_ret pe_bl)) pss_nil)
   (pss_one (ps_ret (pe_callB (call_allK (K := K) rfl) (by rfl) T.b_all (by decide +kernel) (pa_cons (pe_comp (cap := [Option.none]) (N' := ["sign"]) rfl (by walk_at "compok") (pi_str (pv 0)) (fun _ _ _ _ => (pg_name (i := 0) (show (["sign"] : List Str).Nodup from by decide +kernel) rfl (Or.inl rfl) (Or.inr rfl))) (fun _ _ _ _ => pts_nil) (fun _ _ _ _ => (pe_chain (op_le_str) (op_le_str) pe_str (pv 0) pe_str))) pa_nil)))))), ?_⟩
  obtain ⟨l1, l2⟩ := goodW_len hg
  walk_at "rda"
  have hz : (sV v).length <= sizeLine := by rw [sizeLine_eq]; omega
  have he : ∀ x : Str, x.length = 0 -> sV v ≠ x := fun x hx e => by rw [e] at l1; omega
  rw [if_neg (he _ (by decide +kernel))]
  refine ⟨hz, ?_⟩
  rw [if_neg (by omega)]
  refine ⟨rfl, ?_⟩
  have fin : CompP [Option.none] (Itst (sV v)) (gName 0) tNoIf (tChain rLeS rLeS (tC (V.str (Str.ofString "0"))) (tVar 0) (tC (V.str (Str.ofString "9")))) [some (V.str (sV v))] H fun x H1 => rAll K [x] H1 Q := by
   refine CompP.str (fun σ => ∃ v, σ = [v]) (fun _ => true) (fun _ => .bl (numW v)) ⟨Option.none, rfl⟩ hz ?_ ?_
   ·rintro x hx σ H5 R1 R2 ⟨_, rfl⟩ sm k1 k2
    obtain ⟨c, hc, rfl⟩ := List.mem_map.mp hx
    obtain ⟨c1, c2⟩ := goodW_sign hg hc
    walk_at "rd"
    have ea : (Str.ofString "0").cps.toList = [48] := by decide +kernel
    have ez : (Str.ofString "9").cps.toList = [57] := by decide +kernel
    rw [ea, ez]
    have h1 : ¬ [c] < [48] := fun h => by
     rcases List.cons_lt_cons_iff.mp h with h | h
     ·omega
     ·exact absurd h.2 (List.not_lt_nil _)
    have h2 : decide ([57] < [c]) = !(numW v) := by
     cases hw : numW v with
     | true =>
      have := c2.mpr hw
      refine decide_eq_false fun h => ?_
      rcases List.cons_lt_cons_iff.mp h with h | h
      ·omega
      ·exact absurd h.2 (List.not_lt_nil _)
     | false =>
      refine decide_eq_true (List.cons_lt_cons_iff.mpr (.inl ?_))
      have : ¬ c <= 57 := fun z => by rw [c2.mp z] at hw; cases hw
      omega
    rw [if_pos h1, h2, Bool.not_not]
    exact k1 rfl _ _ ⟨_, rfl⟩ (Same.refl _)
   ·intro Da H' hD sm e
    rw [filt_true] at e
    walk_at "rda"
    refine ⟨(L2.signs (sV v)).map fun _ => numW v, SqL.of (by rw [e, List.map_map]; rfl), ?_⟩
    have : ((L2.signs (sV v)).map fun _ => numW v).all id = numW v := by
     have hl : (L2.signs (sV v)).length = (sV v).length := by simp [L2.signs, Str.length]
     cases hs : L2.signs (sV v) with
     | nil => rw [hs] at hl; simp at hl; omega
     | cons a l => cases numW v <;> simp
    rw [this]
    exact k H' sm
  by_cases hs : Txt.startswith (sV v) (Str.ofString "0") = true
  ·rw [if_pos hs, if_neg (fun z => z (goodW_lead hg hs))]
   exact fin
  ·rw [if_neg hs]
   exact fin
end
end My
namespace My
open PySem L2 PyProof.Rows
section
variable {P : Program} {w : World} {K : Fg_} {mg : Str -> Option Value} {base : Heap} {A : Adr} {D : Fds}
local macro_rules | `(tactic| walk_at "nx") => `(tactic| ((try dsimp only); rw [ap_seq]; walk_at "rdi"))
def sp_value_of_word : Sp := fun vs H Q _ => ∃ v : V, vs = [.str (sV v)] /\ GoodW v /\ ∀ H', Same H H' -> Q v H'
theorem ok_value_of_word (T : Txt w K mg A D) : FnOk P w K mg base CX0 2 A.value_of_word D.value_of_word ["word"] sp_value_of_word := by
 refine T.F_value_of_word.ok sc_value_of_word (fun vs H Q E h => ?_) (fun cdv A outer s H vs Q E hr h => ?_)
 ·obtain ⟨v, rfl, _⟩ := h; rfl
 ·obtain ⟨v, rfl, hg, k⟩ := h
  refine ⟨_, (pss_one (ps_ret (pe_ifExp (pt_val (pe_call (ok_is_written_number (K := K) T) (hr.mono (by decide)) (by rfl) T.m_is_written_number T.k_is_written_number (b_is_written_number T) .nil pass0 (pa_cons (pv 0) pa_nil))) (pe_callTy call_intT (by rfl) T.b_int (by decide +kernel) (pa_cons (pv 0) pa_nil)) (pv 0)))), ?_⟩
  walk_at "rda"
  refine ⟨v, rfl, hg, fun H1 s1 => ?_⟩
  rcases hg with ⟨i, rfl, h0, h1⟩ | ⟨z, rfl, hz⟩
  ·walk_at "rdi"
   rw [if_pos (show numW (V.int i) = true from rfl)]
   exact ⟨i, rfl, h0, big_small (by omega), k H1 s1⟩
  ·walk_at "rdi"
   rw [if_neg (fun z => nomatch z)]
   exact k H1 s1
def sp_lot_of_word (K : Fg_) : Sp := fun vs H Q _ => ∃ r : Addr × Int × Int, vs = [.str (lotW r)] /\ 0 <= r.2.1 /\ r.2.1 <= 1000000 /\ 0 <= r.2.2 /\ r.2.2 <= 1000000000 /\
 ∀ t H', Same H H' -> H t = Option.none -> H' t = some (.tup [.int r.2.1, .int r.2.2]) -> Q (.ref t) H'
theorem ok_lot_of_word (T : Txt w K mg A D) : FnOk P w K mg base CX0 3 A.lot_of_word D.lot_of_word ["word"] (sp_lot_of_word K) := by
 refine T.F_lot_of_word.ok sc_lot_of_word (fun vs H Q E h => ?_) (fun cdv A' outer s0 H vs Q E hr h => ?_)
 ·obtain ⟨r, rfl, _⟩ := h; rfl
 ·obtain ⟨r, rfl, a0, a1, b0, b1, k⟩ := h
  refine ⟨_, (pss_cons (ps_set (i := 1) sc_lot_of_word.nd rfl (Or.inl rfl) (pe_bmK (K := K) PySem.F.plainAttrs_str PySem.F.slot_str_partition PySem.F.type_str_partition mt_partition (pv 0) (pa_cons pe_str pa_nil)))
   (pss_one (ps_ret (pe_tup (pa_cons (pe_call (ok_value_of_word (K := K) T) (hr.mono (by decide)) (by rfl) T.m_value_of_word T.k_value_of_word (b_value_of_word T) .nil pass0 (pa_cons (pe_ix (ix_tupK (K := K)) (pv 1) pe_int (fun _ _ => rfl)) pa_nil)) (pa_cons (pe_call (ok_value_of_word (K := K) T) (hr.mono (by decide)) (by rfl) T.m_value_of_word T.k_value_of_word (b_value_of_word T) .nil pass0 (pa_cons (pe_ix (ix_tupK (K := K)) (pv 1) pe_int (fun _ _ => rfl)) pa_nil)) pa_nil)))))), ?_⟩
  simp only [start_eq]
  walk_at "nx"
  have hl : (lotW r).length <= 1000000 := by
   have l1 := (strI_19 a0 (by omega)).2
   have l2 := (strI_19 b0 (by omega)).2
   have e1 : (Str.ofString ":").length = 1 := by decide +kernel
   unfold lotW
   rw [str_len, str_len, e1]
   omega
  refine ⟨rfl, by decide +kernel, hl, fun p hp => ?_⟩
  rw [part_lot a0]
  have sp := Same.new (o := .tup [.str (strI r.2.1), .str (Str.ofString ":"), .str (strI r.2.2)]) hp
  generalize hH1 : upd H p _ = H1 at *
  have h1 : H1 p = some (.tup [.str (strI r.2.1), .str (Str.ofString ":"), .str (strI r.2.2)]) := by rw [<- hH1]; exact upd_same
  refine ⟨_, SqT.of h1, _, rfl, .int r.2.1, rfl, .inl ⟨_, rfl, a0, by omega⟩, fun H2 s2 => ?_⟩
  refine ⟨_, SqT.of (s2 _ _ h1), _, rfl, .int r.2.2, rfl, .inl ⟨_, rfl, b0, by omega⟩, fun H3 s3 => ?_⟩
  exact ⟨by decide, fun t ht => k t _ (((sp.trans s2).trans s3).trans (Same.new ht)) (((sp.trans s2).trans s3).free ht) upd_same⟩
def sp_named_of_words (K : Fg_) : Sp := fun vs H Q _ => ∃ (q : Addr) (o : Option Rs) (p : Int), vs = [.ref q] /\ H q = some (.lst ((nwO o).map V.str)) /\ GoodO p o /\ 1 <= p /\ p <= 1000000000 /\
 ∀ v o' H', Same H H' -> NL H' v o' -> SmO o o' -> (∀ l, v = .ref l -> H l = Option.none) -> Q v H'
theorem ok_named_of_words (T : Txt w K mg A D) : FnOk P w K mg base CX0 4 A.named_of_words D.named_of_words ["words"] (sp_named_of_words K) := by
 refine T.F_named_of_words.ok sc_named_of_words (fun vs H Q E h => ?_) (fun cdv A' outer s0 H vs Q E hr h => ?_)
 ·obtain ⟨q, o, p, rfl, _⟩ := h; rfl
 ·obtain ⟨q, o, p, rfl, hq, hg, p1, p2, k⟩ := h
  refine ⟨_, (pss_one (ps_ret (pe_ifExp (pt_cmpR (op_eq) (pe_callB (call_lenK (K := K)) (by rfl) T.b_len (by decide +kernel) (pa_cons (pv 0) pa_nil)) pe_int (nomark _)) pe_non (pe_comp (cap := [Option.none]) (N' := ["word"]) rfl (by walk_at "compok") (pi_listK (K := K) (pv 0)) (fun _ _ _ _ => (pg_name (i := 0) (show (["word"] : List Str).Nodup from by decide +kernel) rfl (Or.inl rfl) (Or.inr rfl))) (fun _ _ _ _ => pts_nil) (fun _ _ _ _ => (pe_call (ok_lot_of_word (K := K) T) (hr.mono (by decide)) (by rfl) T.m_lot_of_word T.k_lot_of_word (b_lot_of_word T) .nil pass0 (pa_cons (pv 0) pa_nil))))))), ?_⟩
  cases o with
  | none =>
   have hq : H q = some (.lst []) := hq
   walk_at "rda"
   refine ⟨_, .inl (SqL.of hq), ?_⟩
   rw [if_pos (show ((([] : List V).length : Nat) : Int) = 0 from rfl)]
   exact k .non Option.none H (Same.refl H) rfl True.intro fun l z => nomatch z
  | some rs =>
   have hg : GoodN rs p := hg
   have hq : H q = some (.lst ((rs.map lotW).map V.str)) := hq
   walk_at "rda"
   have hne : rs ≠ [] := fun z => by
    have := hg.s
    rw [z] at this
    have : (0 : Int) = p := this
    omega
   have hlen : ((rs.map lotW).map V.str).length = rs.length := by rw [List.length_map, List.length_map]
   have hpos : 0 < rs.length := List.length_pos_iff.mpr hne
   have hl5 := hg.l
   refine ⟨_, .inl (SqL.of hq), ?_⟩
   rw [if_neg (by rw [hlen]; omega)]
   refine ⟨⟨_, SqL.of hq⟩, ?_⟩
   refine CompP.listE (K := K) (fun σ => ∃ a, σ = [a]) (fun i v H' => ∃ b r, rs[i]? = some r /\ v = .ref b /\ H' b = some (.tup [.int r.2.1, .int r.2.2])) (SqL.of hq) ⟨_, rfl⟩ (by rw [hlen, sizeLine_eq]; omega) ?_ ?_
   ·rintro Da i x hx σ H5 R ⟨_, rfl⟩ sm hD ⟨acc, hA⟩ kk
    rw [List.getElem?_map, List.getElem?_map] at hx
    cases e : rs[i]? with
    | none => rw [e] at hx; cases hx
    | some r =>
     rw [e] at hx
     cases Option.some.inj hx
     obtain ⟨b0, b1, b2, b3⟩ := hg.b r (List.mem_of_getElem? e)
     walk_at "rdi"
     exact ⟨r, rfl, b0, b1, by omega, by omega, fun t H7 s7 hn ht => kk _ _ H7 ⟨_, rfl⟩ s7 fun H' s' => ⟨t, r, e, rfl, s' _ _ (fun z => by rw [z, hA] at hn; cases hn) ht⟩⟩
   ·intro Da H' acc hD sm hA hlen' hF
    obtain ⟨rs', e1, e2, e3⟩ := lots_of (by rw [hlen', hlen]) hF
    rw [e1] at hA
    exact k (.ref Da) (some rs') H' sm ⟨Da, rfl, hA, e3⟩ e2 fun l z => by cases z; exact hD
end
end My
namespace My
open PySem L2 PyProof.Rows
section
variable {P : Program} {w : World} {K : Fg_} {mg : Str -> Option Value} {base : Heap} {A : Adr} {D : Fds}
local macro_rules | `(tactic| walk_at "nx") => `(tactic| ((try dsimp only); rw [ap_seq]; walk_at "rdi"))
def wdV (e : Ent) : List V := (e.ws.map sV).map V.str
theorem wdV_eq (e : Ent) : wdV e = [V.str (strI e.day), V.str (strI e.num), V.str e.word, V.str e.ware] ++ (e.rest.map sV).map V.str ++ (nwO e.lots).map V.str := by
 unfold wdV Ent.ws
 rw [List.map_append, List.map_append, List.map_append, List.map_append]
 have h : (((nwO e.lots).map V.str).map sV).map V.str = (nwO e.lots).map V.str := by
  rw [List.map_map, List.map_map]
  exact List.map_congr_left fun z _ => rfl
 rw [h]
 rfl
def cntE (e : Ent) : Nat := 4 + e.rest.length
def plainK : List (Key × V) := [(Sum.inr "buy", V.int 7), (Sum.inr "sell", V.int 7), (Sum.inr "gift", V.int 7), (Sum.inr "give", V.int 5), (Sum.inr "split", V.int 6), (Sum.inr "part", V.int 7)]
theorem plain_at (e : Ent) : valV plainK (Sum.inr e.word) = some (.int (cntE e)) := by
 have key : ∀ (z : Str) (n : Int) , valV plainK (Sum.inr z) = some (.int n) -> ∀ m, n = m -> valV plainK (Sum.inr z) = some (.int m) := fun z n h m e => by rw [<- e]; exact h
 cases e <;> rfl
theorem wdV_len (e : Ent) : (wdV e).length = cntE e + (nwO e.lots).length := by
 rw [wdV_eq, List.length_append, List.length_append, List.length_map, List.length_map, List.length_map]
 rfl
theorem nw_nil {e : Ent} (h : e.nml = false) : nwO e.lots = [] := by
 cases e with
 | sell => cases h
 | give => cases h
 | _ => rfl
def sp_kind_of_words (K : Fg_) : Sp := fun vs H Q _ => ∃ (q : Addr) (e : Ent), vs = [.ref q] /\ H q = some (.lst (wdV e)) /\ e.good /\ Q (.str e.word) H
theorem ok_kind_of_words (T : Txt w K mg A D) : FnOk P w K mg base CX0 1 A.kind_of_words D.kind_of_words ["words"] (sp_kind_of_words K) := by
 refine T.F_kind_of_words.ok sc_kind_of_words (fun vs H Q E h => ?_) (fun cdv A' outer s0 H vs Q E hr h => ?_)
 ·obtain ⟨q, e, rfl, _⟩ := h; rfl
 ·obtain ⟨q, e, rfl, hq, hg, k⟩ := h
  refine ⟨_, (pss_cons (ps_if (PW.pt (pw_or (pt_cmpR (op_lt) (pe_callB (call_lenK (K := K)) (by rfl) T.b_len (by decide +kernel) (pa_cons (pv 0) pa_nil)) pe_int (nomark _)) (pw_or1 (pt_cmpR (op_notInG (K := K) (w := w)) (pe_ix (ix_listK (K := K)) (pv 0) pe_int (fun _ _ => rfl)) (pe_glob (v := V.ref A.v_PLAIN_WORDS) (by rfl) T.gg_PLAIN_WORDS rfl) (by with_unfolding_all rfl))))) (pss_one (ps_never)) pss_nil)
   (pss_cons (ps_set (i := 1) sc_kind_of_words.nd rfl (Or.inl rfl) (pe_ix (ix_listK (K := K)) (pv 0) pe_int (fun _ _ => rfl)))
   (pss_cons (ps_set (i := 2) sc_kind_of_words.nd rfl (Or.inl rfl) (pe_op op_sub (pe_callB (call_lenK (K := K)) (by rfl) T.b_len (by decide +kernel) (pa_cons (pv 0) pa_nil)) (pe_gget (K := K) (w := w) (pe_glob (v := V.ref A.v_PLAIN_WORDS) (by rfl) T.gg_PLAIN_WORDS rfl) (pv 1) (fun _ _ => rfl))))
   (pss_cons (ps_if (PW.pt (pw_or (pt_cmpR (op_lt) (pv 2) pe_int (nomark _)) (pw_or1 (PW.pt (pw_and (pt_cmpR (op_gt) (pv 2) pe_int (nomark _)) (pw_and1 (pt_cmpR (op_notInK (K := K)) (pv 1) (pe_glob (v := V.ref A.v_KINDS_THAT_NAME_LOTS) (by rfl) T.gt_KINDS_THAT_NAME_LOTS rfl) (by with_unfolding_all rfl)))))))) (pss_one (ps_never)) pss_nil)
   (pss_one (ps_ret (pv 1))))))), ?_⟩
  have hat : atI (wdV e) 2 = some (.str e.word) := atI_nat (j := 2) (by rw [wdV_eq]; rfl)
  have hlen := wdV_len e
  have hp := plain_at e
  simp only [start_eq]
  walk_at "nx"
  have h4 : 4 <= cntE e := Nat.le_add_right _ _
  refine ⟨_, .inl (SqL.of hq), ?_⟩
  rw [if_neg (by rw [hlen]; omega)]
  refine ⟨_, SqL.of hq, _, hat, ?_⟩
  have gd : GDict K w A.v_PLAIN_WORDS plainK := T.gd_PLAIN_WORDS
  refine ⟨_, gd, Sum.inr e.word, rfl, ?_⟩
  rw [hp, if_neg (fun z => nomatch z)]
  walk_at "nx"
  refine ⟨_, SqL.of hq, _, hat, ?_⟩
  walk_at "nx"
  refine ⟨_, .inl (SqL.of hq), _, gd, Sum.inr e.word, rfl, _, hp, _, rfl, ?_⟩
  have hm : ((wdV e).length : Int) - (cntE e : Int) = ((nwO e.lots).length : Int) := by rw [hlen]; omega
  rw [hm]
  walk_at "nx"
  rw [if_neg (by omega)]
  by_cases h0 : 0 < ((nwO e.lots).length : Int)
  ·rw [if_pos h0]
   refine ⟨_, .inr (T.st_KINDS_THAT_NAME_LOTS H), rfl, rfl, ?_⟩
   rw [nml_in]
   cases hn : e.nml with
   | false => rw [nw_nil hn] at h0; cases h0
   | true => rw [if_neg (fun z => nomatch z)]; exact k
  ·rw [if_neg h0]
   exact k
end
end My
namespace My
open PySem L2 PyProof.Rows
section
variable {P : Program} {w : World} {K : Fg_} {mg : Str -> Option Value} {base : Heap} {A : Adr} {D : Fds}
local macro_rules | `(tactic| walk_at "nx") => `(tactic| ((try dsimp only); rw [ap_seq]; walk_at "rdi"))
def sp_entry_that_tells (A : Adr) : Sp := fun vs H Q _ => ∃ (q : Addr) (e : Ent) (nv : V), vs = [.ref q] /\ H q = some (.lst (.str e.word :: e.args nv)) /\ NL H nv e.lots /\ e.good /\ ∀ x B H', Same H B -> Made A B H' x e -> Q (.ref x) H'
theorem ok_entry_that_tells (T : Txt w K mg A D) : FnOk P w K mg base CX0 6 A.entry_that_tells D.entry_that_tells ["told"] (sp_entry_that_tells A) := by
 refine T.F_entry_that_tells.ok sc_entry_that_tells (fun vs H Q E h => ?_) (fun cdv A' outer s0 H vs Q E hr h => ?_)
 ·obtain ⟨q, e, nv, rfl, _⟩ := h; rfl
 ·obtain ⟨q, e, nv, rfl, hq, hn, hg, k⟩ := h
  refine ⟨_, (pss_cons (ps_set (i := 1) sc_entry_that_tells.nd rfl (Or.inl rfl) (pe_ix (ix_listK (K := K)) (pv 0) pe_int (fun _ _ => rfl)))
   (pss_cons (ps_if (pt_cmpR (op_eq) (pv 1) pe_str (nomark _)) (pss_one (ps_ret (pe_make T.mk_Buy (ok_Buy___init__ (K := K) T) (hr.mono (by decide)) (by rfl) T.m_Buy (b_Buy___init___7 T).choose_spec.1 (b_Buy___init___7 T).choose_spec.2 pass0 (pa_cons (pe_ix (ix_listK (K := K)) (pv 0) pe_int (fun _ _ => rfl)) (pa_cons (pe_ix (ix_listK (K := K)) (pv 0) pe_int (fun _ _ => rfl)) (pa_cons (pe_ix (ix_listK (K := K)) (pv 0) pe_int (fun _ _ => rfl)) (pa_cons (pe_ix (ix_listK (K := K)) (pv 0) pe_int (fun _ _ => rfl)) (pa_cons (pe_ix (ix_listK (K := K)) (pv 0) pe_int (fun _ _ => rfl)) (pa_cons (pe_ix (ix_listK (K := K)) (pv 0) pe_int (fun _ _ => rfl)) pa_nil))))))))) pss_nil)
   (pss_cons (ps_if (pt_cmpR (op_eq) (pv 1) pe_str (nomark _)) (pss_one (ps_ret (pe_make T.mk_Sell (ok_Sell___init__ (K := K) T) (hr.mono (by decide)) (by rfl) T.m_Sell (b_Sell___init___8 T).choose_spec.1 (b_Sell___init___8 T).choose_spec.2 pass0 (pa_cons (pe_ix (ix_listK (K := K)) (pv 0) pe_int (fun _ _ => rfl)) (pa_cons (pe_ix (ix_listK (K := K)) (pv 0) pe_int (fun _ _ => rfl)) (pa_cons (pe_ix (ix_listK (K := K)) (pv 0) pe_int (fun _ _ => rfl)) (pa_cons (pe_ix (ix_listK (K := K)) (pv 0) pe_int (fun _ _ => rfl)) (pa_cons (pe_ix (ix_listK (K := K)) (pv 0) pe_int (fun _ _ => rfl)) (pa_cons (pe_ix (ix_listK (K := K)) (pv 0) pe_int (fun _ _ => rfl)) (pa_cons (pe_call (ok_named_copy (K := K) T) (hr.mono (by decide)) (by rfl) T.m_named_copy T.k_named_copy (b_named_copy T) .nil pass0 (pa_cons (pe_ix (ix_listK (K := K)) (pv 0) pe_int (fun _ _ => rfl)) pa_nil)) pa_nil)))))))))) pss_nil)
   (pss_cons (ps_if (pt_cmpR (op_eq) (pv 1) pe_str (nomark _)) (pss_one (ps_ret (pe_make T.mk_Gift (ok_Gift___init__ (K := K) T) (hr.mono (by decide)) (by rfl) T.m_Gift (b_Gift___init__ T) .nil pass0 (pa_cons (pe_ix (ix_listK (K := K)) (pv 0) pe_int (fun _ _ => rfl)) (pa_cons (pe_ix (ix_listK (K := K)) (pv 0) pe_int (fun _ _ => rfl)) (pa_cons (pe_ix (ix_listK (K := K)) (pv 0) pe_int (fun _ _ => rfl)) (pa_cons (pe_ix (ix_listK (K := K)) (pv 0) pe_int (fun _ _ => rfl)) (pa_cons (pe_ix (ix_listK (K := K)) (pv 0) pe_int (fun _ _ => rfl)) (pa_cons (pe_ix (ix_listK (K := K)) (pv 0) pe_int (fun _ _ => rfl)) pa_nil))))))))) pss_nil)
   (pss_cons (ps_if (pt_cmpR (op_eq) (pv 1) pe_str (nomark _)) (pss_one (ps_ret (pe_make T.mk_Give (ok_Give___init__ (K := K) T) (hr.mono (by decide)) (by rfl) T.m_Give (b_Give___init___6 T).choose_spec.1 (b_Give___init___6 T).choose_spec.2 pass0 (pa_cons (pe_ix (ix_listK (K := K)) (pv 0) pe_int (fun _ _ => rfl)) (pa_cons (pe_ix (ix_listK (K := K)) (pv 0) pe_int (fun _ _ => rfl)) (pa_cons (pe_ix (ix_listK (K := K)) (pv 0) pe_int (fun _ _ => rfl)) (pa_cons (pe_ix (ix_listK (K := K)) (pv 0) pe_int (fun _ _ => rfl)) (pa_cons (pe_call (ok_named_copy (K := K) T) (hr.mono (by decide)) (by rfl) T.m_named_copy T.k_named_copy (b_named_copy T) .nil pass0 (pa_cons (pe_ix (ix_listK (K := K)) (pv 0) pe_int (fun _ _ => rfl)) pa_nil)) pa_nil)))))))) pss_nil)
   (pss_cons (ps_if (pt_cmpR (op_eq) (pv 1) pe_str (nomark _)) (pss_one (ps_ret (pe_make T.mk_Split (ok_Split___init__ (K := K) T) (hr.mono (by decide)) (by rfl) T.m_Split (b_Split___init__ T) .nil pass0 (pa_cons (pe_ix (ix_listK (K := K)) (pv 0) pe_int (fun _ _ => rfl)) (pa_cons (pe_ix (ix_listK (K := K)) (pv 0) pe_int (fun _ _ => rfl)) (pa_cons (pe_ix (ix_listK (K := K)) (pv 0) pe_int (fun _ _ => rfl)) (pa_cons (pe_ix (ix_listK (K := K)) (pv 0) pe_int (fun _ _ => rfl)) (pa_cons (pe_ix (ix_listK (K := K)) (pv 0) pe_int (fun _ _ => rfl)) pa_nil)))))))) pss_nil)
   (pss_one (ps_ret (pe_make T.mk_Parting (ok_Parting___init__ (K := K) T) (hr.mono (by decide)) (by rfl) T.m_Parting (b_Parting___init__ T) .nil pass0 (pa_cons (pe_ix (ix_listK (K := K)) (pv 0) pe_int (fun _ _ => rfl)) (pa_cons (pe_ix (ix_listK (K := K)) (pv 0) pe_int (fun _ _ => rfl)) (pa_cons (pe_ix (ix_listK (K := K)) (pv 0) pe_int (fun _ _ => rfl)) (pa_cons (pe_ix (ix_listK (K := K)) (pv 0) pe_int (fun _ _ => rfl)) (pa_cons (pe_ix (ix_listK (K := K)) (pv 0) pe_int (fun _ _ => rfl)) (pa_cons (pe_ix (ix_listK (K := K)) (pv 0) pe_int (fun _ _ => rfl)) pa_nil))))))))))))))), ?_⟩
  simp only [start_eq]
  cases e with
  | buy d n w p r f =>
   have hq : H q = some (.lst [.str "buy", .int d, .int n, .str w, .int p, .int r, .int f]) := hq
   walk_at "nx"
   refine ⟨_, SqL.of hq, _, rfl, ?_⟩
   walk_at "nx"
   refine ⟨_, SqL.of hq, _, rfl, ?_⟩
   refine ⟨_, SqL.of hq, _, rfl, ?_⟩
   refine ⟨_, SqL.of hq, _, rfl, ?_⟩
   refine ⟨_, SqL.of hq, _, rfl, ?_⟩
   refine ⟨_, SqL.of hq, _, rfl, ?_⟩
   refine ⟨_, SqL.of hq, _, rfl, ?_⟩
   intro x dx hx hdx hne
   exact ⟨x, .buy d n w p r f, H, dx, .non, rfl, rfl, new_mk hx hdx, hg, rfl, fun H' hM => ⟨rfl, k x _ H' (Same.refl H) hM⟩⟩
  | sell d n w p r f o =>
   have hq : H q = some (.lst [.str "sell", .int d, .int n, .str w, .int p, .int r, .int f, nv]) := hq
   walk_at "nx"
   refine ⟨_, SqL.of hq, _, rfl, ?_⟩
   walk_at "nx"
   rw [if_neg (by decide +kernel)]
   walk_at "nx"
   refine ⟨_, SqL.of hq, _, rfl, ?_⟩
   refine ⟨_, SqL.of hq, _, rfl, ?_⟩
   refine ⟨_, SqL.of hq, _, rfl, ?_⟩
   refine ⟨_, SqL.of hq, _, rfl, ?_⟩
   refine ⟨_, SqL.of hq, _, rfl, ?_⟩
   refine ⟨_, SqL.of hq, _, rfl, ?_⟩
   refine ⟨_, SqL.of hq, _, rfl, ?_⟩
   refine ⟨nv, o, rfl, hn, fun v1 H1 s1 hn1 _ => ?_⟩
   intro x dx hx hdx hne
   exact ⟨x, .sell d n w p r f o, H1, dx, v1, rfl, rfl, new_mk hx hdx, hg, hn1, fun H' hM => ⟨rfl, k x _ H' s1 hM⟩⟩
  | gift d n w p c s =>
   have hq : H q = some (.lst [.str "gift", .int d, .int n, .str w, .int p, .int c, .int s]) := hq
   walk_at "nx"
   refine ⟨_, SqL.of hq, _, rfl, ?_⟩
   walk_at "nx"
   rw [if_neg (by decide +kernel)]
   walk_at "nx"
   rw [if_neg (by decide +kernel)]
   walk_at "nx"
   refine ⟨_, SqL.of hq, _, rfl, ?_⟩
   refine ⟨_, SqL.of hq, _, rfl, ?_⟩
   refine ⟨_, SqL.of hq, _, rfl, ?_⟩
   refine ⟨_, SqL.of hq, _, rfl, ?_⟩
   refine ⟨_, SqL.of hq, _, rfl, ?_⟩
   refine ⟨_, SqL.of hq, _, rfl, ?_⟩
   intro x dx hx hdx hne
   exact ⟨x, .gift d n w p c s, H, dx, .non, rfl, rfl, new_mk hx hdx, hg, rfl, fun H' hM => ⟨rfl, k x _ H' (Same.refl H) hM⟩⟩
  | give d n w p o =>
   have hq : H q = some (.lst [.str "give", .int d, .int n, .str w, .int p, nv]) := hq
   walk_at "nx"
   refine ⟨_, SqL.of hq, _, rfl, ?_⟩
   walk_at "nx"
   rw [if_neg (by decide +kernel)]
   walk_at "nx"
   rw [if_neg (by decide +kernel)]
   walk_at "nx"
   rw [if_neg (by decide +kernel)]
   walk_at "nx"
   refine ⟨_, SqL.of hq, _, rfl, ?_⟩
   refine ⟨_, SqL.of hq, _, rfl, ?_⟩
   refine ⟨_, SqL.of hq, _, rfl, ?_⟩
   refine ⟨_, SqL.of hq, _, rfl, ?_⟩
   refine ⟨_, SqL.of hq, _, rfl, ?_⟩
   refine ⟨nv, o, rfl, hn, fun v1 H1 s1 hn1 _ => ?_⟩
   intro x dx hx hdx hne
   exact ⟨x, .give d n w p o, H1, dx, v1, rfl, rfl, new_mk hx hdx, hg, hn1, fun H' hM => ⟨rfl, k x _ H' s1 hM⟩⟩
  | split d n w m f =>
   have hq : H q = some (.lst [.str "split", .int d, .int n, .str w, .int m, .int f]) := hq
   walk_at "nx"
   refine ⟨_, SqL.of hq, _, rfl, ?_⟩
   walk_at "nx"
   rw [if_neg (by decide +kernel)]
   walk_at "nx"
   rw [if_neg (by decide +kernel)]
   walk_at "nx"
   rw [if_neg (by decide +kernel)]
   walk_at "nx"
   rw [if_neg (by decide +kernel)]
   walk_at "nx"
   refine ⟨_, SqL.of hq, _, rfl, ?_⟩
   refine ⟨_, SqL.of hq, _, rfl, ?_⟩
   refine ⟨_, SqL.of hq, _, rfl, ?_⟩
   refine ⟨_, SqL.of hq, _, rfl, ?_⟩
   refine ⟨_, SqL.of hq, _, rfl, ?_⟩
   intro x dx hx hdx hne
   exact ⟨x, .split d n w m f, H, dx, .non, rfl, rfl, new_mk hx hdx, hg, rfl, fun H' hM => ⟨rfl, k x _ H' (Same.refl H) hM⟩⟩
  | part d n w u s t =>
   have hq : H q = some (.lst [.str "part", .int d, .int n, .str w, .str u, .int s, .int t]) := hq
   walk_at "nx"
   refine ⟨_, SqL.of hq, _, rfl, ?_⟩
   walk_at "nx"
   rw [if_neg (by decide +kernel)]
   walk_at "nx"
   rw [if_neg (by decide +kernel)]
   walk_at "nx"
   rw [if_neg (by decide +kernel)]
   walk_at "nx"
   rw [if_neg (by decide +kernel)]
   walk_at "nx"
   rw [if_neg (by decide +kernel)]
   refine ⟨_, SqL.of hq, _, rfl, ?_⟩
   refine ⟨_, SqL.of hq, _, rfl, ?_⟩
   refine ⟨_, SqL.of hq, _, rfl, ?_⟩
   refine ⟨_, SqL.of hq, _, rfl, ?_⟩
   refine ⟨_, SqL.of hq, _, rfl, ?_⟩
   refine ⟨_, SqL.of hq, _, rfl, ?_⟩
   intro x dx hx hdx hne
   exact ⟨x, .part d n w u s t, H, dx, .non, rfl, rfl, new_mk hx hdx, hg, rfl, fun H' hM => ⟨rfl, k x _ H' (Same.refl H) hM⟩⟩
end
end My
namespace My
open PySem L2 PyProof.Rows
section
variable {P : Program} {w : World} {K : Fg_} {mg : Str -> Option Value} {base : Heap} {A : Adr} {D : Fds}
local macro_rules | `(tactic| walk_at "nx") => `(tactic| ((try dsimp only); rw [ap_seq]; walk_at "rdi"))
def pvE (e : Ent) : List V := [.int e.day, .int e.num, .str e.ware] ++ e.rest
theorem pv_good {e : Ent} (h : e.good) : ∀ v ∈ pvE e, GoodW v := by
 have key : ∀ {l : List V}, (∀ v ∈ l, GoodW v) -> ∀ {v : V}, GoodW v -> ∀ x ∈ v :: l, GoodW x := fun hl _ hv x hx => by
  rcases List.mem_cons.mp hx with e | hx
  ·rw [e]; exact hv
  ·exact hl x hx
 have gi : ∀ {i : Int}, 0 <= i -> i <= 1000000000000000000 -> GoodW (.int i) := fun h0 h1 => .inl ⟨_, rfl, h0, h1⟩
 have b := good_base h
 have b0 := b.d0; have b1 := b.d1; have b2 := b.n0; have b3 := b.n1
 refine key (key (key ?_ (.inr ⟨_, rfl, b.w⟩)) (gi b2 (by omega))) (gi b0 (by omega))
 cases e with
 | buy d n w p r f =>
  obtain ⟨_, h1, h2, h3⟩ := h
  exact key (key (key (l := []) (fun x hx => nomatch hx) (gi h3.1 (by have := h3.2; omega))) (gi h2.1 (by have := h2.2; omega))) (gi (by have := h1.1; omega) (by have := h1.2; omega))
 | sell d n w p r f o =>
  obtain ⟨_, h1, h2, h3, _⟩ := h
  exact key (key (key (l := []) (fun x hx => nomatch hx) (gi h3.1 (by have := h3.2; omega))) (gi h2.1 (by have := h2.2; omega))) (gi (by have := h1.1; omega) (by have := h1.2; omega))
 | gift d n w p c s =>
  obtain ⟨hb, h1, h2, h3⟩ := h
  have := hb.d1
  exact key (key (key (l := []) (fun x hx => nomatch hx) (gi h3.1 (by have := h3.2; omega))) (gi h2.1 h2.2)) (gi (by have := h1.1; omega) (by have := h1.2; omega))
 | give d n w p o =>
  obtain ⟨_, h1, _⟩ := h
  exact key (l := []) (fun x hx => nomatch hx) (gi (by have := h1.1; omega) (by have := h1.2; omega))
 | split d n w m f =>
  obtain ⟨_, h1, h2⟩ := h
  exact key (key (l := []) (fun x hx => nomatch hx) (gi (by have := h2.1; omega) (by have := h2.2; omega))) (gi (by have := h1.1; omega) (by have := h1.2; omega))
 | part d n w u s t =>
  obtain ⟨_, h1, _, h2, h3⟩ := h
  exact key (key (key (l := []) (fun x hx => nomatch hx) (gi (by have := h2.1; omega) (by have := h2.2; omega))) (gi h3.1 (by have := h3.2; have := h2.2; omega))) (.inr ⟨_, rfl, h1⟩)
theorem pv_args (e : Ent) (nv : V) : e.args nv = pvE e ++ (if e.nml then [nv] else []) := by cases e <;> rfl
theorem good_pc {e : Ent} (h : e.good) (hn : e.nml = true) : ∃ p, GoodO p e.lots /\ 1 <= p /\ p <= 1000000000 := by
 cases e with
 | sell d n w p r f o => exact ⟨p, h.2.2.2.2, h.2.1.1, h.2.1.2⟩
 | give d n w p o => exact ⟨p, h.2.2, h.2.1.1, h.2.1.2⟩
 | _ => cases hn
theorem cut_ab (xs : List V) {s c : Int} (h0 : 0 <= s) (h1 : s <= c) (h2 : c <= xs.length) : cutV xs (some s) (some c) = (xs.drop s.toNat).take (c.toNat - s.toNat) := by
 unfold cutV HT.sIx
 have e1 : ¬ s < 0 := by omega
 have e2 : ¬ c < 0 := by omega
 simp only [e1, e2, if_false]
 rw [show min s.toNat xs.length = s.toNat by omega, show min c.toNat xs.length = c.toNat by omega]
theorem cut_1 (e : Ent) : cutV (wdV e) Option.none (some 2) = ([.int e.day, .int e.num] : List V).map fun v => V.str (sV v) := by
 have h := cut_none (wdV e) 2
 rw [wdV_eq] at h ⊢
 exact h
theorem cut_2 (e : Ent) : cutV (wdV e) (some 3) (some (cntE e : Int)) = (V.str e.ware :: e.rest).map fun v => V.str (sV v) := by
 have h4 : 4 <= cntE e := Nat.le_add_right _ _
 rw [cut_ab _ (by decide) (by omega) (by rw [wdV_len]; omega), wdV_eq]
 show List.take (cntE e - 3) ((V.str e.ware :: (e.rest.map sV).map V.str) ++ (nwO e.lots).map V.str) = _
 rw [List.take_left' (by rw [List.length_cons, List.length_map, List.length_map]; unfold cntE; omega), List.map_map, List.map_cons]
 rfl
theorem cut_3 (e : Ent) : cutV (wdV e) (some (cntE e : Int)) Option.none = (nwO e.lots).map V.str := by
 rw [cut_from, wdV_eq, List.drop_left']
 rw [List.length_append, List.length_map, List.length_map]
 rfl
theorem pv_cut (e : Ent) : (([.int e.day, .int e.num] : List V).map fun v => V.str (sV v)) ++ ((V.str e.ware :: e.rest).map fun v => V.str (sV v)) = (pvE e).map fun v => V.str (sV v) := rfl
theorem map_at {α β : Type} {f : α -> β} {l : List α} {i : Nat} {y : β} (h : (l.map f)[i]? = some y) : ∃ x, l[i]? = some x /\ y = f x := by
 rw [List.getElem?_map] at h
 cases e : l[i]? with
 | none => rw [e] at h; cases h
 | some x => rw [e] at h; exact ⟨x, rfl, (Option.some.inj h).symm⟩
def sp_entry_of_words (A : Adr) : Sp := fun vs H Q _ => ∃ (q : Addr) (e : Ent), vs = [.ref q] /\ H q = some (.lst (wdV e)) /\ e.good /\ ∀ x e' B H', Same H B -> Made A B H' x e' -> Alk e e' -> Q (.ref x) H'
theorem ok_entry_of_words (T : Txt w K mg A D) : FnOk P w K mg base CX0 7 A.entry_of_words D.entry_of_words ["words"] (sp_entry_of_words A) := by
 refine T.F_entry_of_words.ok sc_entry_of_words (fun vs H Q E h => ?_) (fun cdv A' outer s0 H vs Q E hr h => ?_)
 ·obtain ⟨q, e, rfl, _⟩ := h; rfl
 ·obtain ⟨q, e, rfl, hq, hg, k⟩ := h
  refine ⟨_, (pss_cons (ps_set (i := 1) sc_entry_of_words.nd rfl (Or.inl rfl) (pe_call (ok_kind_of_words (K := K) T) (hr.mono (by decide)) (by rfl) T.m_kind_of_words T.k_kind_of_words (b_kind_of_words T) .nil pass0 (pa_cons (pv 0) pa_nil)))
   (pss_cons (ps_set (i := 2) sc_entry_of_words.nd rfl (Or.inl rfl) (pe_gget (K := K) (w := w) (pe_glob (v := V.ref A.v_PLAIN_WORDS) (by rfl) T.gg_PLAIN_WORDS rfl) (pv 1) (fun _ _ => rfl)))
   (pss_cons (ps_set (i := 3) sc_entry_of_words.nd rfl (Or.inl rfl) (pe_op op_cat (pe_lst (pa_cons (pv 1) pa_nil)) (pe_comp (cap := [Option.none]) (N' := ["word"]) rfl (by walk_at "compok") (pi_listK (K := K) (pe_op op_cat (pe_slice (sl_listK (K := K)) (pv 0) po_none (po_some pe_int)) (pe_slice (sl_listK (K := K)) (pv 0) (po_some pe_int) (po_some (pv 2))))) (fun _ _ _ _ => (pg_name (i := 0) (show (["word"] : List Str).Nodup from by decide +kernel) rfl (Or.inl rfl) (Or.inr rfl))) (fun _ _ _ _ => pts_nil) (fun _ _ _ _ => (pe_call (ok_value_of_word (K := K) T) (hr.mono (by decide)) (by rfl) T.m_value_of_word T.k_value_of_word (b_value_of_word T) .nil pass0 (pa_cons (pv 0) pa_nil))))))
   (pss_cons (ps_if (pt_cmpR (op_inK (K := K)) (pv 1) (pe_glob (v := V.ref A.v_KINDS_THAT_NAME_LOTS) (by rfl) T.gt_KINDS_THAT_NAME_LOTS rfl) (by with_unfolding_all rfl)) (pss_one (ps_expr (pe_bmK (K := K) PySem.F.plainAttrs_list PySem.F.slot_list_append PySem.F.type_list_append mt_append (pv 3) (pa_cons (pe_call (ok_named_of_words (K := K) T) (hr.mono (by decide)) (by rfl) T.m_named_of_words T.k_named_of_words (b_named_of_words T) .nil pass0 (pa_cons (pe_slice (sl_listK (K := K)) (pv 0) (po_some (pv 2)) po_none) pa_nil)) pa_nil)))) pss_nil)
   (pss_one (ps_ret (pe_call (ok_entry_that_tells (K := K) T) (hr.mono (by decide)) (by rfl) T.m_entry_that_tells T.k_entry_that_tells (b_entry_that_tells T) .nil pass0 (pa_cons (pv 3) pa_nil)))))))), ?_⟩
  have gd : GDict K w A.v_PLAIN_WORDS plainK := T.gd_PLAIN_WORDS
  have hp := plain_at e
  simp only [start_eq]
  walk_at "nx"
  refine ⟨q, e, rfl, hq, hg, ?_⟩
  walk_at "nx"
  refine ⟨_, gd, Sum.inr e.word, rfl, _, hp, ?_⟩
  walk_at "nx"
  have r3 := (rest_ok hg).2
  refine ⟨by decide, fun pk hk => ?_⟩
  have s1 := Same.new (o := .lst [V.str e.word]) hk
  have k1 : upd H pk (.lst [V.str e.word]) pk = some (.lst [V.str e.word]) := upd_same
  generalize upd H pk (.lst [V.str e.word]) = H1 at *
  refine ⟨_, SqL.of (s1 _ _ hq), fun pa ha => ?_⟩
  rw [cut_1]
  have s2 := Same.new (o := .lst (([.int e.day, .int e.num] : List V).map fun v => V.str (sV v))) ha
  have k2 : upd H1 pa (.lst (([.int e.day, .int e.num] : List V).map fun v => V.str (sV v))) pa = some (.lst (([.int e.day, .int e.num] : List V).map fun v => V.str (sV v))) := upd_same
  generalize upd H1 pa (.lst (([.int e.day, .int e.num] : List V).map fun v => V.str (sV v))) = H2 at *
  refine ⟨_, SqL.of (s2 _ _ (s1 _ _ hq)), fun pb hb => ?_⟩
  rw [cut_2]
  have s3 := Same.new (o := .lst ((V.str e.ware :: e.rest).map fun v => V.str (sV v))) hb
  have k3 : upd H2 pb (.lst ((V.str e.ware :: e.rest).map fun v => V.str (sV v))) pb = some (.lst ((V.str e.ware :: e.rest).map fun v => V.str (sV v))) := upd_same
  generalize upd H2 pb (.lst ((V.str e.ware :: e.rest).map fun v => V.str (sV v))) = H3 at *
  refine ⟨_, s3 _ _ k2, _, k3, by rw [sizeLine_eq, List.length_map, List.length_map, List.length_cons, List.length_cons, List.length_cons, List.length_nil]; omega, fun pc hc => ?_⟩
  rw [pv_cut]
  have s4 := Same.new (o := .lst ((pvE e).map fun v => V.str (sV v))) hc
  have k4 : upd H3 pc (.lst ((pvE e).map fun v => V.str (sV v))) pc = some (.lst ((pvE e).map fun v => V.str (sV v))) := upd_same
  generalize upd H3 pc (.lst ((pvE e).map fun v => V.str (sV v))) = H4 at *
  have S4 : Same H H4 := ((s1.trans s2).trans s3).trans s4
  have hpl : (pvE e).length <= 6 := by
   unfold pvE
   rw [List.length_append]
   show 3 + _ <= 6
   omega
  refine ⟨⟨_, SqL.of k4⟩, ?_⟩
  refine CompP.listE (K := K) (fun σ => ∃ a, σ = [a]) (fun i v _ => (pvE e)[i]? = some v) (SqL.of k4) ⟨_, rfl⟩ (by rw [List.length_map, sizeLine_eq]; omega) ?_ ?_
  ·rintro Da i x hx σ H5 R ⟨_, rfl⟩ sm hD _ kk
   obtain ⟨v, hv, rfl⟩ := map_at hx
   walk_at "rdi"
   exact ⟨v, rfl, pv_good hg v (List.mem_of_getElem? hv), fun H7 s7 => kk _ _ H7 ⟨_, rfl⟩ s7 fun H' _ => hv⟩
  ·intro Da H5 acc hD s5 hA hlen hF
   have hacc : acc = pvE e := by
    refine List.ext_getElem? fun i => ?_
    cases ei : acc[i]? with
    | none => rw [List.getElem?_eq_none (by rw [List.length_map] at hlen; rw [<- hlen]; exact List.getElem?_eq_none_iff.mp ei)]
    | some v => exact (hF i v ei).symm
   rw [hacc] at hA
   walk_at "rdi"
   refine ⟨_, (((s2.trans s3).trans s4).trans s5) _ _ k1, _, hA, by rw [sizeLine_eq, List.length_cons, List.length_nil]; omega, fun pt ht => ?_⟩
   have s6 := Same.new (o := .lst ([V.str e.word] ++ pvE e)) ht
   have k6 : upd H5 pt (.lst ([V.str e.word] ++ pvE e)) pt = some (.lst ([V.str e.word] ++ pvE e)) := upd_same
   have S5 : Same H H5 := S4.trans s5
   have hpt : H pt = Option.none := S5.free ht
   generalize upd H5 pt (.lst ([V.str e.word] ++ pvE e)) = H6 at *
   have S6 : Same H H6 := S5.trans s6
   walk_at "nx"
   refine ⟨_, .inr (T.st_KINDS_THAT_NAME_LOTS H6), rfl, rfl, ?_⟩
   rw [nml_in]
   cases hn : e.nml with
   | false =>
    have hlo : e.lots = Option.none := by
     cases e with
     | sell => cases hn
     | give => cases hn
     | _ => rfl
    rw [if_neg (fun z => nomatch z)]
    have ea : V.str e.word :: e.args .non = [V.str e.word] ++ pvE e := by rw [pv_args, hn]; simp
    refine ⟨pt, e, .non, rfl, by rw [ea]; exact k6, by rw [hlo]; rfl, hg, fun x B H' sB hM => k x e B H' (S6.trans sB) hM ⟨Option.none, by rw [hlo]; exact True.intro, ?_⟩⟩
    cases e with
    | sell => cases hn
    | give => cases hn
    | _ => rfl
   | true =>
    rw [if_pos rfl]
    obtain ⟨pp, hgo, p1, p2⟩ := good_pc hg hn
    refine ⟨.inl ⟨rfl, _, SqL.of k6⟩, _, SqL.of (S6 _ _ hq), fun pn hpn => ?_⟩
    rw [cut_3]
    have s7 := Same.new (o := .lst ((nwO e.lots).map V.str)) hpn
    have k7 : upd H6 pn (.lst ((nwO e.lots).map V.str)) pn = some (.lst ((nwO e.lots).map V.str)) := upd_same
    generalize upd H6 pn (.lst ((nwO e.lots).map V.str)) = H7 at *
    refine ⟨pn, e.lots, pp, rfl, k7, hgo, p1, p2, fun v o' H8 s8 hNL hSm hfr => ?_⟩
    have k8 : H8 pt = some (.lst ([V.str e.word] ++ pvE e)) := s8 _ _ (s7 _ _ k6)
    refine ⟨_, k8, by rw [sizeLine_eq, List.length_append, List.length_cons, List.length_nil]; omega, ?_⟩
    have S9 : Same H (upd H8 pt (.lst ([V.str e.word] ++ pvE e ++ [v]))) := ((S6.trans s7).trans s8).upd hpt
    have hN9 : NL (upd H8 pt (.lst ([V.str e.word] ++ pvE e ++ [v]))) v o' := by
     cases o' with
     | none => exact hNL
     | some rs =>
      obtain ⟨l, rfl, h1, h2⟩ := hNL
      have hlp : l ≠ pt := fun z => by have := hfr l rfl; rw [z, s7 _ _ k6] at this; cases this
      exact ⟨l, rfl, by rw [upd_ne hlp]; exact h1, h2.put k8⟩
    have ea : V.str (e.wl o').word :: (e.wl o').args v = [V.str e.word] ++ pvE e ++ [v] := by rw [wl_word, wl_args, pv_args, hn]; simp
    exact ⟨pt, e.wl o', v, rfl, by rw [ea]; exact upd_same, by rw [wl_lots hSm]; exact hN9, wl_good hSm hg, fun x B H' sB hM => k x _ B H' (S9.trans sB) hM ⟨o', hSm, rfl⟩⟩
def sp_entry_in_row (A : Adr) : Sp := fun vs H Q _ => ∃ (e : Ent) (n : Int), vs = [.str (bodyT e), .int n] /\ e.good /\ ∀ x e' B H', Same H B -> Made A B H' x e' -> Alk e e' -> Q (.ref x) H'
theorem ok_entry_in_row (T : Txt w K mg A D) : FnOk P w K mg base CX0 8 A.entry_in_row D.entry_in_row ["row", "place"] (sp_entry_in_row A) := by
 refine T.F_entry_in_row.ok sc_entry_in_row (fun vs H Q E h => ?_) (fun cdv A' outer s0 H vs Q E hr h => ?_)
 ·obtain ⟨e, n, rfl, _⟩ := h; rfl
 ·obtain ⟨e, n, rfl, hg, k⟩ := h
  refine ⟨_, (pss_one (ps_tryCalm ((pss_one (ps_ret (pe_call (ok_entry_of_words (K := K) T) (hr.mono (by decide)) (by rfl) T.m_entry_of_words T.k_entry_of_words (b_entry_of_words T) .nil pass0 (pa_cons (pe_bmK (K := K) PySem.F.plainAttrs_str PySem.F.slot_str_split PySem.F.type_str_split mt_split (pv 0) (pa_cons pe_str pa_nil)) pa_nil))))))), ?_⟩
  walk_at "rda"
  have hl : (bodyT e).length <= 1000000 := by
   have h := rowE_len hg
   have e1 : rowT e.ws = bodyT e ++ Str.ofString "\n" := rfl
   rw [e1, str_len] at h
   omega
  refine ⟨rfl, by decide +kernel, hl, fun p hp => ?_⟩
  rw [body_split hg]
  exact ⟨p, e, rfl, upd_same, hg, fun x e' B H' sB hM hA => k x e' B H' ((Same.new hp).trans sB) hM hA⟩
end
end My
namespace My
open PySem L2 PyProof.Rows
section
variable {P : Program} {w : World} {K : Fg_} {mg : Str -> Option Value} {base : Heap} {A : Adr} {D : Fds}
local macro_rules | `(tactic| walk_at "nx") => `(tactic| ((try dsimp only); rw [ap_seq]; walk_at "rdi"))
abbrev AlkL (os ls : List Ent) : Prop := Paired Alk os ls
theorem Kept.putD {H : Hp} {x : Addr} {e : Ent} {l d : Addr} {kvs : List (Key × V)} {u : HO} (h : Kept A l H x e) (hd : H d = some (.dK kvs)) : Kept A l (upd H d u) x e := by
 obtain ⟨dx, nv, hx, h2, h3⟩ := h
 refine ⟨dx, nv, ?_, ?_, h3⟩
 ·rw [upd_ne (fun z => by rw [z, hd] at hx; cases hx)]
  exact hx
 ·generalize e.lots = o at h2
  cases o with
  | none => exact h2
  | some rs =>
   obtain ⟨q, rfl, h4, h5⟩ := h2
   refine ⟨q, rfl, ?_, fun r hr => ?_⟩
   ·rw [upd_ne (fun z => by rw [z, hd] at h4; cases h4)]
    exact h4
   ·have h6 := h5 r hr
    rw [upd_ne (fun z => by rw [z, hd] at h6; cases h6)]
    exact h6
theorem feed_len : (Str.ofString "\n").length = 1 := by decide +kernel
theorem textT_small {os : List Ent} (h : ∀ e ∈ os, e.good) (hl : os.length <= 60) : (textT os).length <= 1000000 := by
 have h1 := textT_len os (Str.ofString "")
 have e0 : (Str.ofString "").length = 0 := by decide +kernel
 have h2 := text_len os h
 unfold textT
 rw [h1, e0]
 omega
structure Lr (A : Adr) (H H2 : Hp) (os : List Ent) (pr pe sd : Addr) (i : Nat) (es : EL) (kvs : List (Key × V)) : Prop where
 s : Same H H2
 r : H2 pr = some (.lst ((os.map bodyT).map V.str))
 e : H2 pe = some (.lst (refsE es))
 kp : ∀ r ∈ es, Kept A pe H2 r.1 r.2
 al : AlkL (os.take i) (es.map (·.2))
 d : H2 sd = some (.dK kvs)
 dl : kvs.length <= i
 dn : ∀ j : Int, j ∉ (os.take i).map Ent.num -> valV kvs (Sum.inl j) = Option.none
theorem Lr.same {H H2 H3 : Hp} {os : List Ent} {pr pe sd : Addr} {i : Nat} {es : EL} {kvs : List (Key × V)} (h : Lr A H H2 os pr pe sd i es kvs) (s : Same H2 H3) : Lr A H H3 os pr pe sd i es kvs :=
 ⟨h.s.trans s, s _ _ h.r, s _ _ h.e, fun r hr => (h.kp r hr).same s, h.al, s _ _ h.d, h.dl, h.dn⟩
theorem take_fresh {l : List Ent} {i : Nat} {r : Ent} (h : (l.map Ent.num).Nodup) (e : l[i]? = some r) : r.num ∉ (l.take i).map Ent.num := by
 intro hm
 have h2 : l.map Ent.num = (l.take i).map Ent.num ++ (l.drop i).map Ent.num := by rw [<- List.map_append, List.take_append_drop]
 rw [h2] at h
 exact (List.nodup_append.mp h).2.2 _ hm r.num (by
  rw [List.mem_map]
  exact ⟨r, by rw [List.mem_iff_getElem?]; exact ⟨0, by rw [List.getElem?_drop]; exact e⟩, rfl⟩) rfl
def sp_read_entries (A : Adr) : Sp := fun vs H Q _ => ∃ os : List Ent, vs = [.str (textT os)] /\ (∀ e ∈ os, e.good) /\ os.length <= 60 /\ (os.map Ent.num).Nodup /\
 ∀ p (es : EL) H', Same H H' -> H p = Option.none -> H' p = some (.lst (refsE es)) -> (∀ r ∈ es, Kept A p H' r.1 r.2) -> AlkL os (es.map (·.2)) -> Q (.ref p) H'
theorem ok_read_entries (T : Txt w K mg A D) : FnOk P w K mg base CX0 9 A.read_entries D.read_entries ["text"] (sp_read_entries A) := by
 refine T.F_read_entries.ok sc_read_entries (fun vs H Q E h => ?_) (fun cdv A' outer s0 H vs Q E hr h => ?_)
 ·obtain ⟨os, rfl, _⟩ := h; rfl
 ·obtain ⟨os, rfl, hg, hl, hu, k⟩ := h
  refine ⟨_, (pss_cons (ps_set (i := 1) sc_read_entries.nd rfl (Or.inl rfl) (pe_bmK (K := K) PySem.F.plainAttrs_str PySem.F.slot_str_split PySem.F.type_str_split mt_split (pv 0) (pa_cons pe_str pa_nil)))
   (pss_cons (ps_set (i := 2) sc_read_entries.nd rfl (Or.inl rfl) (pe_bm0K (K := K) PySem.F.plainAttrs_list PySem.F.slot_list_pop PySem.F.type_list_pop mt_pop (pv 1)))
   (pss_cons (ps_set (i := 3) sc_read_entries.nd rfl (Or.inl rfl) (pe_lst pa_nil))
   (pss_cons (ps_set (i := 4) sc_read_entries.nd rfl (Or.inl rfl) pe_dnewK)
   (pss_cons (ps_for PassesOwn.never rfl (pi_enum1 (K := K) (by rfl) T.b_enumerate (pa_cons (pv 1) pa_nil)) (pg_tupK (K := K) (n := 2) rfl (pgs_cons (pg_name (i := 5) sc_read_entries.nd rfl (Or.inl rfl)) (pgs_cons (pg_name (i := 6) sc_read_entries.nd rfl (Or.inl rfl)) pgs_nil)))
    (pss_cons (ps_set (i := 7) sc_read_entries.nd rfl (Or.inl rfl) (pe_call (ok_entry_in_row (K := K) T) (hr.mono (by decide)) (by rfl) T.m_entry_in_row T.k_entry_in_row (b_entry_in_row T) .nil pass0 (pa_cons (pv 6) (pa_cons (pv 5) pa_nil))))
    (pss_cons (ps_if (pt_cmpR (op_inDict (hu_of hr)) (pe_fldK (K := K) (pv 7) rfl) (pv 4) (by with_unfolding_all rfl)) (pss_one (ps_never)) pss_nil)
    (pss_cons (ps_dput (hu_of hr) (pv 4) (pe_fldK (K := K) (pv 7) rfl) pe_bl rfl)
    (pss_one (ps_expr (pe_bmK (K := K) PySem.F.plainAttrs_list PySem.F.slot_list_append PySem.F.type_list_append mt_append (pv 3) (pa_cons (pv 7) pa_nil))))))))
   (pss_cons (ps_if (pt_cmpR (op_ne) (pv 2) pe_str (nomark _)) (pss_one (ps_never)) pss_nil)
   (pss_one (ps_ret (pv 3))))))))), ?_⟩
  simp only [start_eq]
  walk_at "nx"
  refine ⟨rfl, feed_len, textT_small hg hl, fun pr hpr => ?_⟩
  rw [text_split hg, List.map_append]
  have s1 := Same.new (o := .lst ((os.map bodyT).map V.str ++ [Str.ofString ""].map V.str)) hpr
  have k1 : upd H pr (.lst ((os.map bodyT).map V.str ++ [Str.ofString ""].map V.str)) pr = some (.lst ((os.map bodyT).map V.str ++ [Str.ofString ""].map V.str)) := upd_same
  generalize upd H pr (.lst ((os.map bodyT).map V.str ++ [Str.ofString ""].map V.str)) = H1 at *
  walk_at "nx"
  refine ⟨.inl ⟨rfl, _, SqL.of k1⟩, pr, _, _, rfl, rfl, k1, by rw [List.length_append, List.map_cons, List.map_nil, List.length_cons, List.length_nil, Nat.zero_add, Nat.add_sub_cancel, List.getElem?_append_right (Nat.le_refl _), Nat.sub_self]; rfl, ?_⟩
  rw [List.map_cons, List.map_nil, List.dropLast_concat]
  have s2 : Same H (upd H1 pr (.lst ((os.map bodyT).map V.str))) := s1.upd hpr
  have k2 : upd H1 pr (.lst ((os.map bodyT).map V.str)) pr = some (.lst ((os.map bodyT).map V.str)) := upd_same
  generalize upd H1 pr (.lst ((os.map bodyT).map V.str)) = H2 at *
  walk_at "nx"
  refine ⟨Nat.zero_le _, fun pe hpe => ?_⟩
  have s3 := Same.new (o := .lst []) hpe
  have k3 : upd H2 pe (.lst []) pe = some (.lst []) := upd_same
  have hpe0 : H pe = Option.none := s2.free hpe
  have hpp : pe ≠ pr := fun z => by rw [z, k2] at hpe; cases hpe
  generalize upd H2 pe (.lst []) = H3 at *
  walk_at "nx"
  intro sd hsd
  have s4 := Same.new (o := .dK []) hsd
  have k4 : upd H3 sd (.dK []) sd = some (.dK []) := upd_same
  have hsd0 : H sd = Option.none := (s2.trans s3).free hsd
  have hsp : sd ≠ pr := fun z => by rw [z, s3 _ _ k2] at hsd; cases hsd
  have hse : sd ≠ pe := fun z => by rw [z, k3] at hsd; cases hsd
  generalize upd H3 sd (.dK []) = H4 at *
  have S4 : Same H H4 := (s2.trans s3).trans s4
  try dsimp only
  rw [ap_seq, ap_for]
  walk_at "rdi"
  refine ⟨⟨_, SqL.of (s4 _ _ (s3 _ _ k2))⟩, ?_⟩
  refine ForP.enum1 (K := K) (a := pr) (xs := (os.map bodyT).map V.str) (fun i σ H5 => ∃ (v5 v6 v7 : Option V) (es : EL) (kvs : List (Key × V)), σ = [some (.str (textT os)), some (.ref pr), some (.str (Str.ofString "")), some (.ref pe), some (.ref sd), v5, v6, v7] /\ Lr A H H5 os pr pe sd i es kvs)
   ⟨_, _, _, [], [], rfl, S4, s4 _ _ (s3 _ _ k2), s4 _ _ k3, (fun r hr => nomatch hr), .nil, k4, Nat.le_refl _, fun _ _ => rfl⟩ (fun i σ H5 _ ⟨_, _, _, _, _, _, L⟩ => SqL.of L.r) ?_ ?_
  ·rintro i y σ H5 p hi ⟨v5, v6, v7, es, kvs, rfl, L⟩ hp
   obtain ⟨t, ht, rfl⟩ := map_at hi
   obtain ⟨e, he, rfl⟩ := map_at ht
   have hem := List.mem_of_getElem? he
   have hil : i < os.length := (List.getElem?_eq_some_iff.mp he).1
   have L := L.same (Same.new (o := .tup [.int ((i + 1 : Nat) : Int), .str (bodyT e)]) hp)
   have kp : upd H5 p (.tup [.int ((i + 1 : Nat) : Int), .str (bodyT e)]) p = some (.tup [.int ((i + 1 : Nat) : Int), .str (bodyT e)]) := upd_same
   walk_at "rdi"
   refine ⟨_, SqT.of kp, rfl, _, _, rfl, _, _, rfl, rfl, ?_⟩
   generalize upd H5 p (.tup [.int ((i + 1 : Nat) : Int), .str (bodyT e)]) = H6 at *
   walk_at "nx"
   refine ⟨e, _, rfl, hg e hem, fun x e' B H7 sB hM hA => ?_⟩
   have s7 : Same H6 H7 := sB.trans hM.choose_spec.choose_spec.1.s
   have hK := hM.kept (sB _ _ L.e)
   have L := L.same s7
   have hC := ce_all T e'
   obtain ⟨dx, nv, hx, hnl, hnv⟩ := id hK
   walk_at "nx"
   refine ⟨_, dx, _, hx, hC.c, hC.n, _, look_number e' nv, ?_⟩
   have hfr := take_fresh hu he
   have hnum := hA.num
   refine ⟨_, DGet.k (k := Sum.inl e'.num) L.d, ?_⟩
   rw [hnum, L.dn _ hfr, if_neg (fun z => nomatch z)]
   walk_at "nx"
   refine ⟨_, dx, _, hx, hC.c, hC.n, _, look_number e' nv, ?_⟩
   have hk8 : ∀ r ∈ es, Kept A pe (upd H7 sd (.dK (putK kvs (Sum.inl e'.num) (.bl true)))) r.1 r.2 := fun r hr => (L.kp r hr).putD L.d
   have hK8 := hK.putD (u := .dK (putK kvs (Sum.inl e'.num) (.bl true))) L.d
   have hesl : es.length = i := by
    have := Paired.length L.al
    rw [List.length_take, List.length_map] at this
    omega
   have hdl := L.dl
   have k8 : upd H7 sd (.dK (putK kvs (Sum.inl e'.num) (.bl true))) pe = some (.lst (refsE es)) := by rw [upd_ne hse.symm]; exact L.e
   refine ⟨_, DPut.k (k := Sum.inl e'.num) L.d (by rw [sizeLine_eq]; omega), .inl ⟨rfl, _, SqL.of k8⟩, _, k8, by rw [refsE_len, sizeLine_eq]; omega, es ++ [(x, e')], putK kvs (Sum.inl e'.num) (.bl true), ?_⟩
   refine ⟨(L.s.upd hsd0).upd hpe0, ?_, ?_, ?_, ?_, ?_, ?_, ?_⟩
   ·rw [upd_ne hpp.symm, upd_ne hsp.symm]; exact L.r
   ·rw [upd_same]
    unfold refsE
    rw [List.map_append]
    rfl
   ·intro r hr
    rcases List.mem_append.mp hr with hr | hr
    ·exact (hk8 r hr).put k8
    ·cases List.mem_singleton.mp hr
     exact hK8.put k8
   ·rw [List.take_add_one, he, List.map_append]
    exact Paired.snoc L.al hA
   ·rw [upd_ne hse]
    exact upd_same
   ·have := putK_len kvs (Sum.inl e'.num : Key) (V.bl true)
    omega
   ·intro j hj
    rw [List.take_add_one, he, List.map_append, List.mem_append, not_or] at hj
    rw [valV_put, if_neg, L.dn j hj.1]
    intro z
    cases z
    exact hj.2 (by rw [hnum]; simp)
  ·rintro σ H5 ⟨v5, v6, v7, es, kvs, rfl, L⟩
   rw [List.length_map, List.length_map] at L
   have L' := L.al
   try dsimp only
   rw [ap_seq]
   walk_at "rdi"
   rw [if_neg (fun z => z trivial)]
   rw [List.take_of_length_le (Nat.le_refl _)] at L'
   exact k pe es H5 L.s hpe0 L.e L.kp L'
end
end My
namespace My
open PySem L2 PyProof.Rows
section
variable {P : Program} {w : World} {K : Fg_} {mg : Str -> Option Value} {base : Heap} {A : Adr} {D : Fds}
local macro_rules | `(tactic| walk_at "nx") => `(tactic| ((try dsimp only); rw [ap_seq]; walk_at "rdi"))
theorem kit_self (K : Fg_) (C : Addr) : PySem.W.kitOne K (.ref C) (.ref C) = some true := if_pos (by simp)
theorem isE_ty (T : Txt w K mg A D) {H : Hp} {x : Addr} {e : Ent} (h : IsE A H x e) : TyOf K H (.ref x) (.ref (e.cls A)) := by
 obtain ⟨dx, nv, hx, _⟩ := h
 cases e with
 | buy => exact T.ty_Buy.of hx
 | sell => exact T.ty_Sell.of hx
 | gift => exact T.ty_Gift.of hx
 | give => exact T.ty_Give.of hx
 | split => exact T.ty_Split.of hx
 | part => exact T.ty_Parting.of hx
def sp__law_kind (A : Adr) : Sp := fun vs H Q _ => ∃ (x : Addr) (e : Ent), vs = [.ref x, .str e.word] /\ IsE A H x e /\ Q (.bl true) H
theorem ok__law_kind (T : Txt w K mg A D) : FnOk P w K mg base CX0 1 A._law_kind D._law_kind ["_law_entry_here", "_law_word"] (sp__law_kind A) := by
 refine T.F__law_kind.ok sc__law_kind (fun vs H Q E h => ?_) (fun cdv A' outer s0 H vs Q E hr h => ?_)
 ·obtain ⟨x, e, rfl, _⟩ := h; rfl
 ·obtain ⟨x, e, rfl, hE, k⟩ := h
  refine ⟨_, (pss_cons (ps_if (pt_cmpR (op_eq) (pv 1) pe_str (nomark _)) (pss_one (ps_ret (pe_callB (call_isCK (K := K)) (by rfl) T.b_isinstance (by decide +kernel) (pa_cons (pv 0) (pa_cons (pe_glob (v := V.ref A.C_Buy) (by rfl) T.m_Buy rfl) pa_nil))))) pss_nil)
   (pss_cons (ps_if (pt_cmpR (op_eq) (pv 1) pe_str (nomark _)) (pss_one (ps_ret (pe_callB (call_isCK (K := K)) (by rfl) T.b_isinstance (by decide +kernel) (pa_cons (pv 0) (pa_cons (pe_glob (v := V.ref A.C_Sell) (by rfl) T.m_Sell rfl) pa_nil))))) pss_nil)
   (pss_cons (ps_if (pt_cmpR (op_eq) (pv 1) pe_str (nomark _)) (pss_one (ps_ret (pe_callB (call_isCK (K := K)) (by rfl) T.b_isinstance (by decide +kernel) (pa_cons (pv 0) (pa_cons (pe_glob (v := V.ref A.C_Gift) (by rfl) T.m_Gift rfl) pa_nil))))) pss_nil)
   (pss_cons (ps_if (pt_cmpR (op_eq) (pv 1) pe_str (nomark _)) (pss_one (ps_ret (pe_callB (call_isCK (K := K)) (by rfl) T.b_isinstance (by decide +kernel) (pa_cons (pv 0) (pa_cons (pe_glob (v := V.ref A.C_Give) (by rfl) T.m_Give rfl) pa_nil))))) pss_nil)
   (pss_cons (ps_if (pt_cmpR (op_eq) (pv 1) pe_str (nomark _)) (pss_one (ps_ret (pe_callB (call_isCK (K := K)) (by rfl) T.b_isinstance (by decide +kernel) (pa_cons (pv 0) (pa_cons (pe_glob (v := V.ref A.C_Split) (by rfl) T.m_Split rfl) pa_nil))))) pss_nil)
   (pss_one (ps_ret (pe_callB (call_isCK (K := K)) (by rfl) T.b_isinstance (by decide +kernel) (pa_cons (pv 0) (pa_cons (pe_glob (v := V.ref A.C_Parting) (by rfl) T.m_Parting rfl) pa_nil)))))))))), ?_⟩
  have ty := isE_ty T hE
  have ks := kit_self K (e.cls A)
  simp only [start_eq]
  cases e with
  | buy d n w p r f =>
   simp only [Ent.word] at *
   walk_at "nx"
   exact ⟨_, ty, _, ks, k⟩
  | sell d n w p r f o =>
   simp only [Ent.word] at *
   walk_at "nx"
   rw [if_neg (by decide +kernel)]
   walk_at "nx"
   exact ⟨_, ty, _, ks, k⟩
  | gift d n w p c s =>
   simp only [Ent.word] at *
   walk_at "nx"
   rw [if_neg (by decide +kernel)]
   walk_at "nx"
   rw [if_neg (by decide +kernel)]
   walk_at "nx"
   exact ⟨_, ty, _, ks, k⟩
  | give d n w p o =>
   simp only [Ent.word] at *
   walk_at "nx"
   rw [if_neg (by decide +kernel)]
   walk_at "nx"
   rw [if_neg (by decide +kernel)]
   walk_at "nx"
   rw [if_neg (by decide +kernel)]
   walk_at "nx"
   exact ⟨_, ty, _, ks, k⟩
  | split d n w m f =>
   simp only [Ent.word] at *
   walk_at "nx"
   rw [if_neg (by decide +kernel)]
   walk_at "nx"
   rw [if_neg (by decide +kernel)]
   walk_at "nx"
   rw [if_neg (by decide +kernel)]
   walk_at "nx"
   rw [if_neg (by decide +kernel)]
   walk_at "nx"
   exact ⟨_, ty, _, ks, k⟩
  | part d n w u s t =>
   simp only [Ent.word] at *
   walk_at "nx"
   rw [if_neg (by decide +kernel)]
   walk_at "nx"
   rw [if_neg (by decide +kernel)]
   walk_at "nx"
   rw [if_neg (by decide +kernel)]
   walk_at "nx"
   rw [if_neg (by decide +kernel)]
   walk_at "nx"
   rw [if_neg (by decide +kernel)]
   exact ⟨_, ty, _, ks, k⟩
theorem reps_told {H : Hp} : ∀ {tl : EL}, (∀ r ∈ tl, TupE H r.1 r.2) -> RepsD K H (refsE tl) (tl.map fun r => r.2.dvT)
 | [], _ => .nil
 | r :: tl, h => .cons (rep_told (h r (.head _))) (reps_told fun q hq => h q (.tail _ hq))
theorem deps_told : ∀ es : List Ent, depDs (es.map Ent.dvT) <= 4
 | [] => by decide
 | e :: es => by
  rw [List.map_cons]
  unfold depDs
  refine Nat.max_le.mpr ⟨?_, deps_told es⟩
  cases e with
  | sell d n w p r f o =>
   have := dep_nt o
   simp only [Ent.dvT, Ent.argsD, depD, depDs]
   omega
  | give d n w p o =>
   have := dep_nt o
   simp only [Ent.dvT, Ent.argsD, depD, depDs]
   omega
  | _ => simp only [Ent.dvT, Ent.argsD, depD, depDs]; decide
theorem alk_dvT : ∀ {os ls : List Ent}, AlkL os ls -> ls.map Ent.dvT = os.map Ent.dvT
 | _, _, .nil => rfl
 | _, _, .cons h t => by rw [List.map_cons, List.map_cons, h.dvT, alk_dvT t]
theorem alk_num : ∀ {os ls : List Ent}, AlkL os ls -> ls.map Ent.num = os.map Ent.num
 | _, _, .nil => rfl
 | _, _, .cons h t => by rw [List.map_cons, List.map_cons, h.num, alk_num t]
theorem alk_good : ∀ {os ls : List Ent}, AlkL os ls -> (∀ e ∈ os, e.good) -> ∀ e ∈ ls, e.good
 | _, _, .nil, _ => fun e h => nomatch h
 | _, _, .cons h t, hg => fun e he => by
  rcases List.mem_cons.mp he with rfl | he
  ·exact h.good (hg _ (.head _))
  ·exact alk_good t (fun x hx => hg x (.tail _ hx)) e he
theorem alk_ws : ∀ {os ls : List Ent}, AlkL os ls -> ls.map Ent.ws = os.map Ent.ws
 | _, _, .nil => rfl
 | _, _, .cons h t => by rw [List.map_cons, List.map_cons, h.ws, alk_ws t]
theorem text_ws (os : List Ent) : textT os = (os.map Ent.ws).foldl (fun t x => t ++ rowT x) (Str.ofString "") := by
 unfold textT
 rw [List.foldl_map]
theorem alk_text {os ls : List Ent} (h : AlkL os ls) : textT ls = textT os := by rw [text_ws, text_ws, alk_ws h]
theorem eqD_dvs {H : Hp} {p q : Addr} {tl zl : EL} (h1 : H p = some (.lst (refsE tl))) (h2 : H q = some (.lst (refsE zl))) (ht : ∀ r ∈ tl, TupE H r.1 r.2) (hz : ∀ r ∈ zl, TupE H r.1 r.2) (he : (tl.map (·.2)).map Ent.dvT = (zl.map (·.2)).map Ent.dvT) :
  ∃ d : DV, RepD K H (.ref p) d /\ RepD K H (.ref q) d /\ 1 <= depD d /\ depD d <= 20 := by
 have e1 : (tl.map fun r => r.2.dvT) = (tl.map (·.2)).map Ent.dvT := by rw [List.map_map]; rfl
 have e2 : (zl.map fun r => r.2.dvT) = (tl.map (·.2)).map Ent.dvT := by rw [he, List.map_map]; rfl
 refine ⟨.lst ((tl.map (·.2)).map Ent.dvT), .lst (SqL.of h1) (e1 ▸ reps_told ht), .lst (SqL.of h2) (e2 ▸ reps_told hz), ?_, ?_⟩
 ·show 1 <= depDs _ + 1; omega
 ·show depDs _ + 1 <= 20
  have := deps_told (tl.map (·.2))
  omega
theorem rNeD_dvs {H : Hp} {Q : VK} {p q : Addr} {tl zl : EL} (h1 : H p = some (.lst (refsE tl))) (h2 : H q = some (.lst (refsE zl))) (ht : ∀ r ∈ tl, TupE H r.1 r.2) (hz : ∀ r ∈ zl, TupE H r.1 r.2) (he : (tl.map (·.2)).map Ent.dvT = (zl.map (·.2)).map Ent.dvT) (k : Q (.bl false) H) : rNeD K (.ref p) (.ref q) H Q := by
 obtain ⟨d, r1, r2, d1, d2⟩ := eqD_dvs (K := K) h1 h2 ht hz he
 exact ⟨d, d, r1, r2, d1, d2, by rw [deqD_refl]; exact k⟩
theorem rEqD_dvs {H : Hp} {Q : VK} {p q : Addr} {tl zl : EL} (h1 : H p = some (.lst (refsE tl))) (h2 : H q = some (.lst (refsE zl))) (ht : ∀ r ∈ tl, TupE H r.1 r.2) (hz : ∀ r ∈ zl, TupE H r.1 r.2) (he : (tl.map (·.2)).map Ent.dvT = (zl.map (·.2)).map Ent.dvT) (k : Q (.bl true) H) : rEqD K (.ref p) (.ref q) H Q := by
 obtain ⟨d, r1, r2, d1, d2⟩ := eqD_dvs (K := K) h1 h2 ht hz he
 exact ⟨d, d, r1, r2, d1, d2, by rw [deqD_refl]; exact k⟩
end
end My
namespace My
open PySem L2 PyProof.Rows
section
variable {P : Program} {w : World} {K : Fg_} {mg : Str -> Option Value} {base : Heap} {A : Adr} {D : Fds}
local macro_rules | `(tactic| walk_at "nx") => `(tactic| ((try dsimp only); rw [ap_seq]; walk_at "rdi"))
def sp_law (K : Fg_) (Pt : Addr) : Sp := fun vs H Q _ => ∃ (a : Addr) (ns : List Int), vs = [.ref a] /\ SqL K H a (ns.map V.int) /\ ns.length <= 63 /\ H Pt = some (.tbl #[]) /\ ∀ H', Q (.bl true) H'
theorem el_of {F : Addr -> Ent -> Prop} : ∀ {acc : List V} {tl : EL}, acc.length = tl.length -> (∀ (i : Nat) v, acc[i]? = some v -> ∃ b r, tl[i]? = some r /\ v = .ref b /\ F b r.2) ->
  ∃ es : EL, acc = refsE es /\ es.map (·.2) = tl.map (·.2) /\ ∀ r ∈ es, F r.1 r.2
 | [], tl, hl, _ => by
  cases tl with
  | nil => exact ⟨[], rfl, rfl, fun g h => (List.not_mem_nil h).elim⟩
  | cons _ _ => simp at hl
 | v :: acc, tl, hl, h => by
  cases tl with
  | nil => simp at hl
  | cons r tl =>
   obtain ⟨b, r', e, rfl, hf⟩ := h 0 v rfl
   cases e
   obtain ⟨es, e1, e2, e3⟩ := el_of (acc := acc) (tl := tl) (by simpa using hl) fun i v hv => h (i + 1) v hv
   refine ⟨(b, r.2) :: es, by rw [e1]; rfl, by rw [List.map_cons, List.map_cons, e2], fun g hg => ?_⟩
   rcases List.mem_cons.mp hg with rfl | hg
   ·exact hf
   ·exact e3 g hg
theorem at_1 (e : Ent) (nt : V) : atI (.str e.word :: e.args nt) 1 = some (.int e.day) := by cases e <;> rfl
theorem at_2 (e : Ent) (nt : V) : atI (.str e.word :: e.args nt) 2 = some (.int e.num) := by cases e <;> rfl
def kfT (H : Hp) : V -> List Int
 | .ref b => match H b with
  | some (.tup (_ :: .int d :: .int n :: _)) => [d, n]
  | _ => []
 | _ => []
theorem kfT_at {H : Hp} {b : Addr} {e : Ent} {nt : V} (h : H b = some (.tup (.str e.word :: e.args nt))) : kfT H (.ref b) = [e.day, e.num] := by
 unfold kfT
 dsimp only
 rw [h]
 cases e <;> rfl
def Kp (H H' : Hp) : Prop := ∀ b o, H b = some o -> (∀ ps, o ≠ .tbl ps) -> H' b = some o
theorem isE_kp {H H' : Hp} {x : Addr} {e : Ent} (hk : Kp H H') (h : IsE A H x e) : IsE A H' x e := by
 obtain ⟨dx, nv, hx, hn⟩ := h
 refine ⟨dx, nv, hk _ _ hx (fun _ z => by cases z), ?_⟩
 revert hn
 cases e.lots with
 | none => exact fun h => h
 | some rs =>
  rintro ⟨l, e0, hl, hL⟩
  exact ⟨l, e0, hk _ _ hl (fun _ z => by cases z), fun r hr => hk _ _ (hL r hr) (fun _ z => by cases z)⟩
theorem tupE_kp {H H' : Hp} {x : Addr} {e : Ent} (hk : Kp H H') (h : TupE H x e) : TupE H' x e := by
 obtain ⟨nt, ht, hn⟩ := h
 refine ⟨nt, hk _ _ ht (fun _ z => by cases z), ?_⟩
 revert hn
 cases e.lots with
 | none => exact fun h => h
 | some rs =>
  rintro ⟨l, e0, hl, hL⟩
  exact ⟨l, e0, hk _ _ hl (fun _ z => by cases z), fun r hr => hk _ _ (hL r hr) (fun _ z => by cases z)⟩
theorem tupE_but {H H' : Hp} {t D : Addr} {e : Ent} {acc : List V} (h : TupE H t e) (hD : H D = some (.lst acc)) (hb : But D H H') : TupE H' t e := by
 obtain ⟨nt, ht, hn⟩ := h
 refine ⟨nt, hb _ _ (fun z => by rw [z, hD] at ht; cases ht) ht, ?_⟩
 revert hn
 cases e.lots with
 | none => exact fun h => h
 | some rs =>
  rintro ⟨l, e0, hl, hL⟩
  refine ⟨l, e0, hb _ _ (fun z => by rw [z, hD] at hl; cases hl) hl, fun r hr => hb _ _ (fun z => ?_) (hL r hr)⟩
  have := hL r hr
  rw [z, hD] at this
  cases this
theorem told_comp {H : Hp} {q : Addr} {es : EL} {Q : VK} {σ : L2.St} (hq : H q = some (.lst (refsE es))) (hE : EntAt A H es) (hl : es.length <= 100)
  (k : ∀ D ts H', H D = Option.none -> Same H H' -> H' D = some (.lst (refsE ts)) -> (∀ r ∈ ts, TupE H' r.1 r.2) -> ts.map (·.2) = es.map (·.2) -> Q (.ref D) H') : CompP [Option.none] (Itl K q) (gName 0) tNoIf (tMethD (tabT A) (Str.ofString "told") E0 (tVar 0) tNil) σ H Q := by
 refine CompP.listE (K := K) (fun σ => ∃ a, σ = [a]) (fun i v H' => ∃ b r, es[i]? = some r /\ v = .ref b /\ TupE H' b r.2) (SqL.of hq) ⟨_, rfl⟩ (by rw [refsE_len, sizeLine_eq]; omega) ?_ ?_
 ·rintro Da i x hx σ H5 R ⟨_, rfl⟩ sm hD ⟨acc, hA⟩ kk
  obtain ⟨r, hr', rfl⟩ := refsE_get hx
  have hE5 := (hE r (List.mem_of_getElem? hr')).same sm
  obtain ⟨dx, nv, hx5, hn5⟩ := id hE5
  obtain ⟨isK, hk, hm⟩ := mem_T A r.2
  walk_at "rdi"
  exact ⟨_, dx, _, hx5, _, hm, look_told r.2 nv, r.1, r.2, hk, rfl, hE5, fun t nt H6 s6 ht h6 hn6 => kk (.ref t) _ H6 ⟨_, rfl⟩ s6 fun H' hb => ⟨t, r, hr', rfl, tupE_but ⟨nt, h6, hn6⟩ (s6 _ _ hA) hb⟩⟩
 ·intro Da H' acc hD sm hA hlen hF
  rw [refsE_len] at hlen
  obtain ⟨ts, e1, e2, e3⟩ := el_of (F := TupE H') hlen hF
  rw [e1] at hA
  exact k Da ts H' hD sm hA e3 e2
theorem alk_at : ∀ {os ls : List Ent}, AlkL os ls -> ∀ {i : Nat} {e e' : Ent}, os[i]? = some e -> ls[i]? = some e' -> Alk e e'
 | _, _, .nil, _, _, _, h, _ => by cases h
 | _, _, .cons h t, 0, _, _, h1, h2 => by cases h1; cases h2; exact h
 | _, _, .cons h t, i + 1, _, _, h1, h2 => alk_at t (i := i) h1 h2
theorem paired_perm {α β : Type} {F : α -> β -> Prop} {l l' : List α} (h : l.Perm l') : ∀ {m : List β}, Paired F l m -> ∃ m', Paired F l' m' /\ m'.Perm m := by
 induction h with
 | nil => intro m p; cases p; exact ⟨[], .nil, .refl _⟩
 | cons x _ ih =>
  intro m p
  cases p with
  | cons r t =>
   obtain ⟨m', p', q⟩ := ih t
   exact ⟨_ :: m', .cons r p', q.cons _⟩
 | swap x y l =>
  intro m p
  cases p with
  | cons r t => cases t with
   | cons r2 t2 => exact ⟨_ :: _ :: _, .cons r2 (.cons r t2), .swap _ _ _⟩
 | trans _ _ ih1 ih2 =>
  intro m p
  obtain ⟨m1, p1, q1⟩ := ih1 p
  obtain ⟨m2, p2, q2⟩ := ih2 p1
  exact ⟨m2, p2, q2.trans q1⟩
theorem alk_mem : ∀ {os ls : List Ent}, AlkL os ls -> ∀ {e' : Ent}, e' ∈ ls -> ∃ e, e ∈ os /\ Alk e e'
 | _, _, .nil, _, h => by cases h
 | _, _, .cons h t, e', hm => by
  rcases List.mem_cons.mp hm with rfl | hm
  ·exact ⟨_, .head _, h⟩
  ·obtain ⟨e, he, ha⟩ := alk_mem t hm
   exact ⟨e, .tail _ he, ha⟩
theorem alk_bfe {a b a' b' : Ent} (ha : Alk a a') (hb : Alk b b') (h : BfE a b) : BfE a' b' := by
 unfold BfE at h ⊢
 rw [ha.day, hb.day, ha.num, hb.num]
 exact h
theorem alk_sorted : ∀ {os ls : List Ent}, AlkL os ls -> os.Pairwise BfE -> ls.Pairwise BfE
 | _, _, .nil, _ => .nil
 | _, _, .cons h t, hp => by
  obtain ⟨h1, h2⟩ := List.pairwise_cons.mp hp
  refine List.pairwise_cons.mpr ⟨fun e' he' => ?_, alk_sorted t h2⟩
  obtain ⟨e, he, ha⟩ := alk_mem t he'
  exact alk_bfe h ha (h1 e he)
theorem alk_order {ts es zs os : List Ent} (h : AlkL ts es) (hz : zs.Perm ts) (hb : zs.Pairwise BfE) (ho : os.Perm es) (hob : os.Pairwise BfE) : AlkL zs os := by
 obtain ⟨m, p, q⟩ := paired_perm hz.symm h
 rw [bfe_eq (ho.trans q.symm) hob (alk_sorted p hb)]
 exact p
end
end My
namespace My
open PySem L2 PyProof.Rows
section
variable {P : Program} {w : World} {K : Fg_} {mg : Str -> Option Value} {base : Heap} {A : Adr} {D : Fds}
local macro_rules | `(tactic| walk_at "nx") => `(tactic| ((try dsimp only); rw [ap_seq]; walk_at "rdi"))
theorem ok_law (T : Txt w K mg A D) (hB : base.BuiltinsAt mg A.PT) : FnOk P w K mg base CX0 10 A.law D.law ["_law_script"] (sp_law K A.PT) := by
 refine T.F_law.okC sc_law (fun vs H Q E h => ?_) (fun A' outer s0 H vs Q E hr h => ?_)
 ·obtain ⟨a, ns, rfl, _⟩ := h; rfl
 ·obtain ⟨a, ns, rfl, hS, hl, hPt, k⟩ := h
  refine ⟨_, (pss_cons (ps_set (i := 1) sc_law.nd rfl (Or.inl rfl) (pe_call (ok__law_turned (K := K) T) (hr.mono (by decide)) (by rfl) T.m__law_turned T.k__law_turned (b__law_turned T) .nil pass0 (pa_cons (pe_call (ok__law_any (K := K) T) (hr.mono (by decide)) (by rfl) T.m__law_any T.k__law_any (b__law_any T) .nil pass0 (pa_cons (pv 0) (pa_cons pe_int pa_nil))) (pa_cons (pe_call (ok__law_cell_at (K := K) T) (hr.mono (by decide)) (by rfl) T.m__law_cell_at T.k__law_cell_at (b__law_cell_at T) .nil pass0 (pa_cons (pv 0) (pa_cons pe_int pa_nil))) pa_nil))))
   (pss_cons (ps_set (i := 2) sc_law.nd rfl (Or.inl rfl) (pe_call (ok__law_text (K := K) T) (hr.mono (by decide)) (by rfl) T.m__law_text T.k__law_text (b__law_text T) .nil pass0 (pa_cons (pv 1) pa_nil)))
   (pss_cons (ps_set (i := 3) sc_law.nd rfl (Or.inl rfl) (pe_call (ok_read_entries (K := K) T) (hr.mono (by decide)) (by rfl) T.m_read_entries T.k_read_entries (b_read_entries T) .nil pass0 (pa_cons (pv 2) pa_nil)))
   (pss_cons (ps_if (PW.pt (pw_or (pt_not (pt_val (pe_callB (call_isTK (K := K)) (by rfl) T.b_isinstance (by decide +kernel) (pa_cons (pv 3) (pa_cons (pe_ty "list" (by rfl) T.b_list (by decide +kernel)) pa_nil))))) (pw_or1 (pt_cmpR (op_neDK (K := K) hr) (pe_comp (cap := [Option.none]) (N' := ["_law_entry_here"]) rfl (by walk_at "compok") (pi_listK (K := K) (pv 3)) (fun _ _ _ _ => (pg_name (i := 0) (show (["_law_entry_here"] : List Str).Nodup from by decide +kernel) rfl (Or.inl rfl) (Or.inr rfl))) (fun _ _ _ _ => pts_nil) (fun _ _ _ _ => (pe_methD0 (pv 0) (.cons T.cl_Buy T.me_Buy_told (ok_Buy_told (K := K) T) (hr.mono (by decide)) (b_Buy_told T) (.cons T.cl_Sell T.me_Sell_told (ok_Sell_told (K := K) T) (hr.mono (by decide)) (b_Sell_told T) (.cons T.cl_Gift T.me_Gift_told (ok_Gift_told (K := K) T) (hr.mono (by decide)) (b_Gift_told T) (.cons T.cl_Give T.me_Give_told (ok_Give_told (K := K) T) (hr.mono (by decide)) (b_Give_told T) (.cons T.cl_Split T.me_Split_told (ok_Split_told (K := K) T) (hr.mono (by decide)) (b_Split_told T) (.cons T.cl_Parting T.me_Parting_told (ok_Parting_told (K := K) T) (hr.mono (by decide)) (b_Parting_told T) .nil)))))) pass0))) (pv 1) (nomark _))))) (pss_one (ps_ret pe_bl)) pss_nil)
   (pss_cons (ps_for PassesOwn.never rfl (pi_zip (K := K) (by rfl) T.b_zip (pa_cons (pv 3) (pa_cons (pv 1) pa_nil))) (pg_tupK (K := K) (n := 2) rfl (pgs_cons (pg_name (i := 4) sc_law.nd rfl (Or.inl rfl)) (pgs_cons (pg_name (i := 5) sc_law.nd rfl (Or.inl rfl)) pgs_nil)))
    (pss_one (ps_if (pt_not (pt_val (pe_call (ok__law_kind (K := K) T) (hr.mono (by decide)) (by rfl) T.m__law_kind T.k__law_kind (b__law_kind T) .nil pass0 (pa_cons (pv 4) (pa_cons (pe_ix (ix_tupK (K := K)) (pv 5) pe_int (fun _ _ => rfl)) pa_nil))))) (pss_one (ps_ret pe_bl)) pss_nil)))
   (pss_cons (ps_set (i := 6) sc_law.nd rfl (Or.inl rfl) (pe_sortLamK (K := K) (by rfl) (pe_sortLam (k := 0) (Pt := A.PT) (x := "_law_row") (hr.mono (by decide)) T.lamc T.lamC hB (by rfl) T.b_sorted (by decide +kernel) (pa_cons (pv 1) pa_nil) ⟨rfl, rfl, rfl, by decide +kernel, rfl, by decide +kernel, by decide +kernel⟩ rfl (fun _ _ _ _ _ _ _ hr => (pe_tup (pa_cons (pe_ix (ix_tupK (K := K)) (pv 0) pe_int (fun _ _ => rfl)) (pa_cons (pe_ix (ix_tupK (K := K)) (pv 0) pe_int (fun _ _ => rfl)) pa_nil)))))))
   (pss_cons (ps_set (i := 7) sc_law.nd rfl (Or.inl rfl) (pe_call (ok_read_entries (K := K) T) (hr.mono (by decide)) (by rfl) T.m_read_entries T.k_read_entries (b_read_entries T) .nil pass0 (pa_cons (pe_call (ok_shown_entries (K := K) T) (hr.mono (by decide)) (by rfl) T.m_shown_entries T.k_shown_entries (b_shown_entries T) .nil pass0 (pa_cons (pv 3) pa_nil)) pa_nil)))
   (pss_cons (ps_if (PW.pt (pw_or (pt_cmpR (op_neDK (K := K) hr) (pe_comp (cap := [Option.none]) (N' := ["_law_entry_here"]) rfl (by walk_at "compok") (pi_listK (K := K) (pv 7)) (fun _ _ _ _ => (pg_name (i := 0) (show (["_law_entry_here"] : List Str).Nodup from by decide +kernel) rfl (Or.inl rfl) (Or.inr rfl))) (fun _ _ _ _ => pts_nil) (fun _ _ _ _ => (pe_methD0 (pv 0) (.cons T.cl_Buy T.me_Buy_told (ok_Buy_told (K := K) T) (hr.mono (by decide)) (b_Buy_told T) (.cons T.cl_Sell T.me_Sell_told (ok_Sell_told (K := K) T) (hr.mono (by decide)) (b_Sell_told T) (.cons T.cl_Gift T.me_Gift_told (ok_Gift_told (K := K) T) (hr.mono (by decide)) (b_Gift_told T) (.cons T.cl_Give T.me_Give_told (ok_Give_told (K := K) T) (hr.mono (by decide)) (b_Give_told T) (.cons T.cl_Split T.me_Split_told (ok_Split_told (K := K) T) (hr.mono (by decide)) (b_Split_told T) (.cons T.cl_Parting T.me_Parting_told (ok_Parting_told (K := K) T) (hr.mono (by decide)) (b_Parting_told T) .nil)))))) pass0))) (pv 6) (nomark _)) (pw_or1 (pt_cmpR (op_ne) (pe_call (ok_shown_entries (K := K) T) (hr.mono (by decide)) (by rfl) T.m_shown_entries T.k_shown_entries (b_shown_entries T) .nil pass0 (pa_cons (pv 7) pa_nil)) (pe_call (ok__law_text (K := K) T) (hr.mono (by decide)) (by rfl) T.m__law_text T.k__law_text (b__law_text T) .nil pass0 (pa_cons (pv 6) pa_nil)) (nomark _))))) (pss_one (ps_ret pe_bl)) pss_nil)
   (pss_cons (ps_expr (pe_bm0K (K := K) PySem.F.plainAttrs_list PySem.F.slot_list_clear PySem.F.type_list_clear mt_clear (pv 3)))
   (pss_one (ps_ret (pe_and (pe_cmpR (op_eqDK (K := K) hr) (pe_comp (cap := [Option.none]) (N' := ["_law_entry_here"]) rfl (by walk_at "compok") (pi_listK (K := K) (pe_call (ok_read_entries (K := K) T) (hr.mono (by decide)) (by rfl) T.m_read_entries T.k_read_entries (b_read_entries T) .nil pass0 (pa_cons (pv 2) pa_nil))) (fun _ _ _ _ => (pg_name (i := 0) (show (["_law_entry_here"] : List Str).Nodup from by decide +kernel) rfl (Or.inl rfl) (Or.inr rfl))) (fun _ _ _ _ => pts_nil) (fun _ _ _ _ => (pe_methD0 (pv 0) (.cons T.cl_Buy T.me_Buy_told (ok_Buy_told (K := K) T) (hr.mono (by decide)) (b_Buy_told T) (.cons T.cl_Sell T.me_Sell_told (ok_Sell_told (K := K) T) (hr.mono (by decide)) (b_Sell_told T) (.cons T.cl_Gift T.me_Gift_told (ok_Gift_told (K := K) T) (hr.mono (by decide)) (b_Gift_told T) (.cons T.cl_Give T.me_Give_told (ok_Give_told (K := K) T) (hr.mono (by decide)) (b_Give_told T) (.cons T.cl_Split T.me_Split_told (ok_Split_told (K := K) T) (hr.mono (by decide)) (b_Split_told T) (.cons T.cl_Parting T.me_Parting_told (ok_Parting_told (K := K) T) (hr.mono (by decide)) (b_Parting_told T) .nil)))))) pass0))) (pv 1) (nomark _)) (pe_one (pe_cmpR (op_eqDK (K := K) hr) (pe_call (ok_read_entries (K := K) T) (hr.mono (by decide)) (by rfl) T.m_read_entries T.k_read_entries (b_read_entries T) .nil pass0 (pa_cons pe_str pa_nil)) (pe_lst pa_nil) (nomark _))))))))))))))), ?_⟩
  simp only [start_eq]
  walk_at "nx"
  refine ⟨a, ns, 59, rfl, hS, hl, by decide, fun pt tl H1 s1 hptn h1 hT1 htl hnd => ?_⟩
  refine ⟨a, ns, 3, rfl, s1.seq hS, pt, tl, _, rfl, h1, by omega, fun pq ts H2 s2 hpqn h2 hpm2 => ?_⟩
  have hT2 : ToldN H2 ts := fun r hr => (hT1.same s2) r (hpm2.mem_iff.mp hr)
  have htsl : ts.length = tl.length := hpm2.length_eq
  have hndt : (ts.map (·.2.num)).Nodup := (hpm2.map (·.2.num)).nodup_iff.mpr hnd
  have hP2 : H2 A.PT = some (.tbl #[]) := (s1.trans s2) _ _ hPt
  clear hpm2 hnd hT1 h1 hptn hS hPt
  walk_at "nx"
  have hg2 : ∀ e ∈ ts.map (·.2), e.good := fun e he => by
   obtain ⟨r, hr, rfl⟩ := List.mem_map.mp he
   exact (hT2 r hr).2
  have hn2 : ((ts.map (·.2)).map Ent.num).Nodup := by rw [List.map_map]; exact hndt
  refine ⟨pq, ts, rfl, h2, hT2, by omega, fun H3 s3 => ?_⟩
  obtain ⟨tx, htx⟩ : ∃ tx, tx = textT (ts.map (·.2)) := ⟨_, rfl⟩
  rw [<- htx]
  walk_at "nx"
  refine ⟨ts.map (·.2), by rw [htx], hg2, by rw [List.length_map]; omega, hn2, fun pf es H4 s4 hpf h4 hk4 hal => ?_⟩
  have s24 := s3.trans s4
  have hqf : pq ≠ pf := fun z => by rw [<- z, s3 _ _ h2] at hpf; cases hpf
  have hT4 := hT2.same s24
  have h4t := s24 _ _ h2
  have hP4 := s24 _ _ hP2
  have hE4 : EntAt A H4 es := fun r hr => (hk4 r hr).isE
  have hesl : es.length = ts.length := by
   have := Paired.length hal
   rw [List.length_map, List.length_map] at this
   omega
  have hge : ∀ r ∈ es, r.2.good := fun r hr => alk_good hal hg2 r.2 (List.mem_map.mpr ⟨r, hr, rfl⟩)
  have hne : (es.map (·.2.num)).Nodup := by
   have := alk_num hal
   rw [List.map_map] at this
   exact (show es.map (·.2.num) = _ from this) ▸ hn2
  walk_at "nx"
  refine ⟨_, .lst h4, true, by with_unfolding_all rfl, ?_⟩
  rw [if_neg (fun z => nomatch z)]
  refine ⟨⟨_, SqL.of h4⟩, told_comp h4 hE4 (by omega) fun p5 us H5 hp5 s5 h5 hU5 heq => ?_⟩
  have hT5 := hT4.same s5
  have h5t := s5 _ _ h4t
  have h5f := s5 _ _ h4
  have hE5 := hE4.same s5
  have hP5 := s5 _ _ hP4
  refine rNeD_dvs (tl := us) (zl := ts) h5 h5t hU5 (fun r hr => (hT5 r hr).1) (by rw [heq, alk_dvT hal]) ⟨_, rfl, ?_⟩
  rw [if_neg (fun z => nomatch z)]
  clear h5 hU5 heq hT4 h4t h4 hE4 hk4 hP4
  try dsimp only
  rw [ap_seq, ap_for]
  walk_at "rdi"
  refine ⟨⟨_, SqL.of h5f⟩, ⟨_, SqL.of h5t⟩, ?_⟩
  refine ForP.zip (K := K) (a := pf) (b := pq) (xs := refsE es) (ys := refsE ts) (fun i σ Hx => (∃ v4 v5, σ = [some (.ref a), some (.ref pq), some (.str tx), some (.ref pf), v4, v5, Option.none, Option.none]) /\ Same H5 Hx) (by rw [refsE_len, refsE_len, hesl]) ⟨⟨_, _, rfl⟩, Same.refl _⟩ (fun i σ Hx _ ⟨_, sx⟩ => ⟨SqL.of (sx _ _ h5f), SqL.of (sx _ _ h5t)⟩) ?_ ?_
  ·rintro i x y σ Hx pp hx hy ⟨⟨v4, v5, rfl⟩, sx⟩ hpp
   obtain ⟨r, hr, rfl⟩ := refsE_get hx
   obtain ⟨t, ht, rfl⟩ := refsE_get hy
   have sy := sx.trans (Same.new (o := .tup [V.ref r.1, V.ref t.1]) hpp)
   have hw : r.2.word = t.2.word := (alk_at hal (by rw [List.getElem?_map, ht]; rfl) (by rw [List.getElem?_map, hr]; rfl)).word
   obtain ⟨nt, htt, _⟩ := (hT5 t (List.mem_of_getElem? ht)).1
   walk_at "rdi"
   refine ⟨_, SqT.of upd_same, rfl, _, _, rfl, _, _, rfl, rfl, _, rfl, _, SqT.of ((Same.new hpp) _ _ (sx _ _ htt)), _, (ats t.2 nt).1, r.1, r.2, by rw [hw], ((hE5 r (List.mem_of_getElem? hr)).same sy), _, rfl, ?_⟩
   rw [if_neg (fun z => nomatch z)]
   exact sy
  ·rintro σ H6 ⟨⟨v4, v5, rfl⟩, s6⟩
   have hT6 := hT5.same s6
   have h6t := s6 _ _ h5t
   have h6f := s6 _ _ h5f
   have hE6 := hE5.same s6
   have hP6 := s6 _ _ hP5
   clear hT5 h5t h5f hE5 hP5
   walk_at "nx"
   have nPT : ∀ {b : Addr} {o : HO}, H6 b = some o -> (∀ ps, o ≠ .tbl ps) -> b ≠ A.PT := fun h hn e => by
    rw [e, hP6] at h
    exact hn _ (Option.some.inj h).symm
   have hkT : ∀ r ∈ ts, kfT H6 (.ref r.1) = [r.2.day, r.2.num] := fun r hr => by
    obtain ⟨nt, ht, _⟩ := (hT6 r hr).1
    exact kfT_at ht
   refine ⟨_, SqL.of h6t, by rw [refsE_len]; omega, hP6, kfT H6, fun y hy => ?_, fun pz zs H7 sX hpz hz7 hperm hord => ?_⟩
   ·obtain ⟨r, hr, rfl⟩ := List.mem_map.mp hy
    obtain ⟨nt, ht6, _⟩ := (hT6 r hr).1
    rw [hkT r hr]
    refine ⟨by simp, fun H2 sX2 R hR => ?_⟩
    have h2 := sX2 _ _ (nPT ht6 (fun ps e => by cases e)) ht6
    exact ⟨r.1, rfl, _, SqT.of h2, _, at_1 _ _, r.1, rfl, _, SqT.of h2, _, at_2 _ _, by rw [sizeLine_eq]; decide, fun t ht => hR t _ (Same.new ht) upd_same⟩
   obtain ⟨zl, rfl, hpmz⟩ := perm_pull' (f := fun r : Addr × Ent => V.ref r.1) hperm rfl
   have hndz : zl.Pairwise fun a b => a.2.num ≠ b.2.num := by
    have : (zl.map (·.2.num)).Nodup := (hpmz.map (·.2.num)).nodup_iff.mpr hndt
    exact List.pairwise_map.mp this
   have hor := hord 2 (fun y hy => by
    obtain ⟨r, hr, rfl⟩ := List.mem_map.mp hy
    rw [hkT r hr]
    rfl) (by
    refine List.pairwise_map.mpr (List.pairwise_map.mpr (List.Pairwise.imp_of_mem (fun {a b} ha hb hne z => hne ?_) (List.pairwise_map.mp hndt)))
    rw [hkT a ha, hkT b hb] at z
    exact (List.cons.inj (List.cons.inj z).2).1)
   have hbz : (zl.map (·.2)).Pairwise BfE := by
    refine List.pairwise_map.mpr (List.Pairwise.imp_of_mem (fun {a b} ha hb h => ?_) ((List.pairwise_map.mp hor).and hndz))
    have h1 := h.1
    rw [hkT a (hpmz.mem_iff.mp ha), hkT b (hpmz.mem_iff.mp hb)] at h1
    exact lex_bfe h1 h.2
   have hK : Kp H6 H7 := fun b o h hn => sX _ _ (nPT h hn) h
   have h7t := hK _ _ h6t fun _ z => by cases z
   have h7f := hK _ _ h6f fun _ z => by cases z
   have hT7 : ToldN H7 ts := fun r hr => ⟨tupE_kp hK (hT6 r hr).1, (hT6 r hr).2⟩
   have hE7 : EntAt A H7 es := fun r hr => isE_kp hK (hE6 r hr)
   have hzl : zl.length = ts.length := hpmz.length_eq
   clear hord hperm hor hE6 hT6 h6t h6f
   walk_at "nx"
   refine ⟨pf, es, rfl, h7f, hE7, hge, by omega, hne, fun os H8 s8 hos hob => ?_⟩
   have hao : AlkL (zl.map (·.2)) os := alk_order hal (hpmz.map (·.2)) hbz hos hob
   have hgo : ∀ e ∈ os, e.good := fun e he => by
    obtain ⟨r, hr, rfl⟩ := List.mem_map.mp (hos.mem_iff.mp he)
    exact hge r hr
   have hno : (os.map Ent.num).Nodup := (hos.map Ent.num).nodup_iff.mpr (by rw [List.map_map]; exact hne)
   have hol : os.length <= 60 := by rw [hos.length_eq, List.length_map]; omega
   refine ⟨os, by rw [text_show], hgo, hol, hno, fun pg gs H9 s9 hpg h9 hk9 hag => ?_⟩
   have s79 := s8.trans s9
   have hT9 := hT7.same s79
   have h9t := s79 _ _ h7t
   have h9f := s79 _ _ h7f
   have h9z := s79 _ _ hz7
   have hE9 : EntAt A H9 gs := fun r hr => (hk9 r hr).isE
   have hgl : gs.length = os.length := by
    have := Paired.length hag
    rw [List.length_map] at this
    omega
   have hgg : ∀ r ∈ gs, r.2.good := fun r hr => alk_good hag hgo r.2 (List.mem_map.mpr ⟨r, hr, rfl⟩)
   have hng : (gs.map (·.2.num)).Nodup := by
    have := alk_num hag
    rw [List.map_map] at this
    exact (show gs.map (·.2.num) = _ from this) ▸ hno
   have htz : textT (zl.map (·.2)) = textT os := (alk_text hao).symm
   clear hE7 hT7 h7t h7f hz7 hk9
   walk_at "nx"
   refine ⟨⟨_, SqL.of h9⟩, told_comp h9 hE9 (by omega) fun p10 us2 H10 hp10 s10 h10 hU10 heq2 => ?_⟩
   refine rNeD_dvs (tl := us2) (zl := zl) h10 (s10 _ _ h9z) hU10 (fun r hr => ((hT9.same s10) r (hpmz.mem_iff.mp hr)).1) (by rw [heq2, alk_dvT hag, alk_dvT hao]) ⟨_, rfl, ?_⟩
   rw [if_neg (fun z => nomatch z)]
   refine ⟨pg, gs, rfl, s10 _ _ h9, hE9.same s10, hgg, by omega, hng, fun os2 H11 s11 ho2 hb2 => ?_⟩
   have e2 : os2 = gs.map (·.2) := bfe_eq ho2 hb2 (alk_sorted hag hob)
   have sB := s10.trans s11
   refine ⟨pz, zl, rfl, sB _ _ h9z, fun r hr => (hT9.same sB) r (hpmz.mem_iff.mp hr), by omega, fun H12 s12 => ?_⟩
   rw [e2, text_show, alk_text hag, htz]
   refine ⟨rfl, ?_⟩
   rw [if_neg (fun z => z rfl)]
   have sC := sB.trans s12
   have hT12 := hT9.same sC
   have h12t := sC _ _ h9t
   have h12f := sC _ _ h9f
   clear hT9 h9t h9f h9z h9 hE9 h10 hU10 heq2 e2 ho2 hb2
   walk_at "nx"
   refine ⟨.inl ⟨rfl, _, SqL.of h12f⟩, ?_⟩
   refine ⟨pf, _, rfl, rfl, h12f, ?_⟩
   have h13t : (upd H12 pf (.lst [])) pq = some (.lst (refsE ts)) := by rw [upd_ne hqf]; exact h12t
   have hT13 : ToldN (upd H12 pf (.lst [])) ts := fun r hr => ⟨((hT12 r hr).1).put h12f, (hT12 r hr).2⟩
   generalize upd H12 pf (.lst []) = H13 at h13t hT13
   refine ⟨ts.map (·.2), by rw [htx], hg2, by rw [List.length_map]; omega, hn2, fun ph hs H14 s14 hph h14 hk14 hah => ⟨ph, rfl, ⟨_, SqL.of h14⟩, ?_⟩⟩
   have hhl : hs.length = ts.length := by
    have := Paired.length hah
    rw [List.length_map, List.length_map] at this
    omega
   refine told_comp h14 (fun r hr => (hk14 r hr).isE) (by omega) fun p15 us3 H15 hp15 s15 h15 hU15 heq3 => ?_
   have s1315 := s14.trans s15
   refine rEqD_dvs (tl := us3) (zl := ts) h15 (s1315 _ _ h13t) hU15 (fun r hr => ((hT13.same s1315) r hr).1) (by rw [heq3, alk_dvT hah]) ⟨_, rfl, ?_⟩
   rw [if_pos rfl]
   refine ⟨[], rfl, (fun e he => nomatch he), by decide, .nil, fun pj js H16 s16 hpj h16 _ haj => ⟨Nat.zero_le _, fun p17 hp17 => ?_⟩⟩
   have hj : js = [] := by
    have := Paired.length haj
    rw [List.length_map] at this
    exact List.eq_nil_of_length_eq_zero this.symm
   subst hj
   exact rEqD_dvs (tl := []) (zl := []) (Same.new hp17 _ _ h16) upd_same (fun r hr => (List.not_mem_nil hr).elim) (fun r hr => (List.not_mem_nil hr).elim) rfl (k _)
end
end My
namespace My
open PySem L2 PyProof.Rows
theorem all_mk {l : PySem.W.OpenLaw} {w : World} {K : Fg_} {h : Heap} {mg : Str -> Option Value} {fa : Addr} (X : K.In h) (G : h.Ns mainGlobals mg) (hfa : mg "law" = some (.ref fa))
  {c0 : Addr}
  (u_Entry : PySem.W.nsIn K mainGlobals "Entry" = some (some (.ref c0)))
  {c1 : Addr}
  (u_Parting : PySem.W.nsIn K mainGlobals "Parting" = some (some (.ref c1)))
  {c2 : Addr}
  (u_Buy : PySem.W.nsIn K mainGlobals "Buy" = some (some (.ref c2)))
  {c3 : Addr}
  (u_Sell : PySem.W.nsIn K mainGlobals "Sell" = some (some (.ref c3)))
  {c4 : Addr}
  (u_Gift : PySem.W.nsIn K mainGlobals "Gift" = some (some (.ref c4)))
  {c5 : Addr}
  (u_Give : PySem.W.nsIn K mainGlobals "Give" = some (some (.ref c5)))
  {c6 : Addr}
  (u_Split : PySem.W.nsIn K mainGlobals "Split" = some (some (.ref c6)))
  {c7 : Addr}
  (u_NoEntry : PySem.W.nsIn K mainGlobals "NoEntry" = some (some (.ref c7)))
  {f0 : Addr} {od0 an0 : Option Addr} {sl0 : Array (Option Value)} {oc0 kV0 dc0 pm0 cd0 ct0 : Value}
  (a0 : PySem.W.nsIn K mainGlobals "_law_turned" = some (some (.ref f0)))
  (l0 : K.lookup f0 = some ⟨oc0, od0, .func (PySem.W.fnOf "_law_turned" "_law_turned" (defArgs s__law_turned) (defBody s__law_turned) (defScope s__law_turned) .none kV0 dc0 pm0 an0 cd0 ct0), sl0⟩)
  (d0 : PySem.W.codeIn K cd0 "_law_turned" = true)
  (k0 : PySem.W.keepIn K (.ref f0) = true)
  {f1 : Addr} {od1 an1 : Option Addr} {sl1 : Array (Option Value)} {oc1 kV1 dc1 pm1 cd1 ct1 : Value}
  (a1 : PySem.W.nsIn K mainGlobals "_law_text" = some (some (.ref f1)))
  (l1 : K.lookup f1 = some ⟨oc1, od1, .func (PySem.W.fnOf "_law_text" "_law_text" (defArgs s__law_text) (defBody s__law_text) (defScope s__law_text) .none kV1 dc1 pm1 an1 cd1 ct1), sl1⟩)
  (d1 : PySem.W.codeIn K cd1 "_law_text" = true)
  (k1 : PySem.W.keepIn K (.ref f1) = true)
  {f2 : Addr} {od2 an2 : Option Addr} {sl2 : Array (Option Value)} {oc2 kV2 dc2 pm2 cd2 ct2 : Value}
  (a2 : PySem.W.nsIn K mainGlobals "kind_of_words" = some (some (.ref f2)))
  (l2 : K.lookup f2 = some ⟨oc2, od2, .func (PySem.W.fnOf "kind_of_words" "kind_of_words" (defArgs s_kind_of_words) (defBody s_kind_of_words) (defScope s_kind_of_words) .none kV2 dc2 pm2 an2 cd2 ct2), sl2⟩)
  (d2 : PySem.W.codeIn K cd2 "kind_of_words" = true)
  (k2 : PySem.W.keepIn K (.ref f2) = true)
  {f3 : Addr} {od3 an3 : Option Addr} {sl3 : Array (Option Value)} {oc3 kV3 dc3 pm3 cd3 ct3 : Value}
  (a3 : PySem.W.nsIn K mainGlobals "is_whole_number" = some (some (.ref f3)))
  (l3 : K.lookup f3 = some ⟨oc3, od3, .func (PySem.W.fnOf "is_whole_number" "is_whole_number" (defArgs s_is_whole_number) (defBody s_is_whole_number) (defScope s_is_whole_number) .none kV3 dc3 pm3 an3 cd3 ct3), sl3⟩)
  (d3 : PySem.W.codeIn K cd3 "is_whole_number" = true)
  (k3 : PySem.W.keepIn K (.ref f3) = true)
  {f4 : Addr} {od4 an4 : Option Addr} {sl4 : Array (Option Value)} {oc4 kV4 dc4 pm4 cd4 ct4 : Value}
  (a4 : PySem.W.nsIn K mainGlobals "check_number" = some (some (.ref f4)))
  (l4 : K.lookup f4 = some ⟨oc4, od4, .func (PySem.W.fnOf "check_number" "check_number" (defArgs s_check_number) (defBody s_check_number) (defScope s_check_number) .none kV4 dc4 pm4 an4 cd4 ct4), sl4⟩)
  (d4 : PySem.W.codeIn K cd4 "check_number" = true)
  (k4 : PySem.W.keepIn K (.ref f4) = true)
  {f5 : Addr} {od5 an5 : Option Addr} {sl5 : Array (Option Value)} {oc5 kV5 dc5 pm5 cd5 ct5 : Value}
  (a5 : PySem.W.nsIn K mainGlobals "is_name" = some (some (.ref f5)))
  (l5 : K.lookup f5 = some ⟨oc5, od5, .func (PySem.W.fnOf "is_name" "is_name" (defArgs s_is_name) (defBody s_is_name) (defScope s_is_name) .none kV5 dc5 pm5 an5 cd5 ct5), sl5⟩)
  (d5 : PySem.W.codeIn K cd5 "is_name" = true)
  (k5 : PySem.W.keepIn K (.ref f5) = true)
  {f6 : Addr} {od6 an6 : Option Addr} {sl6 : Array (Option Value)} {oc6 kV6 dc6 pm6 cd6 ct6 : Value}
  (a6 : PySem.W.nsIn K mainGlobals "check_name" = some (some (.ref f6)))
  (l6 : K.lookup f6 = some ⟨oc6, od6, .func (PySem.W.fnOf "check_name" "check_name" (defArgs s_check_name) (defBody s_check_name) (defScope s_check_name) .none kV6 dc6 pm6 an6 cd6 ct6), sl6⟩)
  (d6 : PySem.W.codeIn K cd6 "check_name" = true)
  (k6 : PySem.W.keepIn K (.ref f6) = true)
  {f7 : Addr} {od7 an7 : Option Addr} {sl7 : Array (Option Value)} {oc7 kV7 dc7 pm7 cd7 ct7 : Value}
  (a7 : PySem.W.findIn K (.ref c0) "__init__" = some (some (.ref f7)))
  (l7 : K.lookup f7 = some ⟨oc7, od7, .func (PySem.W.fnOf "__init__" "Entry.__init__" (defArgs s_Entry___init__) (defBody s_Entry___init__) (defScope s_Entry___init__) .none kV7 dc7 pm7 an7 cd7 ct7), sl7⟩)
  (d7 : PySem.W.codeIn K cd7 "Entry.__init__" = true)
  (k7 : PySem.W.keepIn K (.ref f7) = true)
  {f8 : Addr} {od8 an8 : Option Addr} {sl8 : Array (Option Value)} {oc8 kV8 dc8 pm8 cd8 ct8 : Value}
  (a8 : PySem.W.findIn K (.ref c1) "__init__" = some (some (.ref f8)))
  (l8 : K.lookup f8 = some ⟨oc8, od8, .func (PySem.W.fnOf "__init__" "Parting.__init__" (defArgs s_Parting___init__) (defBody s_Parting___init__) (defScope s_Parting___init__) .none kV8 dc8 pm8 an8 cd8 ct8), sl8⟩)
  (d8 : PySem.W.codeIn K cd8 "Parting.__init__" = true)
  (k8 : PySem.W.keepIn K (.ref f8) = true)
  {f9 : Addr} {od9 an9 : Option Addr} {sl9 : Array (Option Value)} {oc9 kV9 dc9 pm9 cd9 ct9 : Value}
  (a9 : PySem.W.nsIn K mainGlobals "check_trade" = some (some (.ref f9)))
  (l9 : K.lookup f9 = some ⟨oc9, od9, .func (PySem.W.fnOf "check_trade" "check_trade" (defArgs s_check_trade) (defBody s_check_trade) (defScope s_check_trade) .none kV9 dc9 pm9 an9 cd9 ct9), sl9⟩)
  (d9 : PySem.W.codeIn K cd9 "check_trade" = true)
  (k9 : PySem.W.keepIn K (.ref f9) = true)
  {f10 : Addr} {od10 an10 : Option Addr} {sl10 : Array (Option Value)} {oc10 kV10 dc10 pm10 cd10 ct10 : Value}
  (a10 : PySem.W.findIn K (.ref c2) "__init__" = some (some (.ref f10)))
  {td10 : Addr} {odt10 : Option Addr} {oct10 : Value} {slt10 : Array (Option Value)} {nt10 : Nat} {tk10_0 : Tok}
  (l10 : K.lookup f10 = some ⟨oc10, od10, .func (PySem.W.fnOf "__init__" "Buy.__init__" (defArgs s_Buy___init__) (defBody s_Buy___init__) (defScope s_Buy___init__) (.ref td10) kV10 dc10 pm10 an10 cd10 ct10), sl10⟩)
  (d10 : PySem.W.codeIn K cd10 "Buy.__init__" = true)
  (k10 : PySem.W.keepIn K (.ref f10) = true)
  (lt10 : K.lookup td10 = some ⟨oct10, odt10, .seq #[.int 0 tk10_0] nt10, slt10⟩)
  {f11 : Addr} {od11 an11 : Option Addr} {sl11 : Array (Option Value)} {oc11 kV11 dc11 pm11 cd11 ct11 : Value}
  (a11 : PySem.W.nsIn K mainGlobals "check_named" = some (some (.ref f11)))
  (l11 : K.lookup f11 = some ⟨oc11, od11, .func (PySem.W.fnOf "check_named" "check_named" (defArgs s_check_named) (defBody s_check_named) (defScope s_check_named) .none kV11 dc11 pm11 an11 cd11 ct11), sl11⟩)
  (d11 : PySem.W.codeIn K cd11 "check_named" = true)
  (k11 : PySem.W.keepIn K (.ref f11) = true)
  {f12 : Addr} {od12 an12 : Option Addr} {sl12 : Array (Option Value)} {oc12 kV12 dc12 pm12 cd12 ct12 : Value}
  (a12 : PySem.W.nsIn K mainGlobals "named_copy" = some (some (.ref f12)))
  (l12 : K.lookup f12 = some ⟨oc12, od12, .func (PySem.W.fnOf "named_copy" "named_copy" (defArgs s_named_copy) (defBody s_named_copy) (defScope s_named_copy) .none kV12 dc12 pm12 an12 cd12 ct12), sl12⟩)
  (d12 : PySem.W.codeIn K cd12 "named_copy" = true)
  (k12 : PySem.W.keepIn K (.ref f12) = true)
  {f13 : Addr} {od13 an13 : Option Addr} {sl13 : Array (Option Value)} {oc13 kV13 dc13 pm13 cd13 ct13 : Value}
  (a13 : PySem.W.findIn K (.ref c3) "__init__" = some (some (.ref f13)))
  {td13 : Addr} {odt13 : Option Addr} {oct13 : Value} {slt13 : Array (Option Value)} {nt13 : Nat} {tk13_0 : Tok}
  (l13 : K.lookup f13 = some ⟨oc13, od13, .func (PySem.W.fnOf "__init__" "Sell.__init__" (defArgs s_Sell___init__) (defBody s_Sell___init__) (defScope s_Sell___init__) (.ref td13) kV13 dc13 pm13 an13 cd13 ct13), sl13⟩)
  (d13 : PySem.W.codeIn K cd13 "Sell.__init__" = true)
  (k13 : PySem.W.keepIn K (.ref f13) = true)
  (lt13 : K.lookup td13 = some ⟨oct13, odt13, .seq #[.int 0 tk13_0, .none] nt13, slt13⟩)
  {f14 : Addr} {od14 an14 : Option Addr} {sl14 : Array (Option Value)} {oc14 kV14 dc14 pm14 cd14 ct14 : Value}
  (a14 : PySem.W.findIn K (.ref c4) "__init__" = some (some (.ref f14)))
  (l14 : K.lookup f14 = some ⟨oc14, od14, .func (PySem.W.fnOf "__init__" "Gift.__init__" (defArgs s_Gift___init__) (defBody s_Gift___init__) (defScope s_Gift___init__) .none kV14 dc14 pm14 an14 cd14 ct14), sl14⟩)
  (d14 : PySem.W.codeIn K cd14 "Gift.__init__" = true)
  (k14 : PySem.W.keepIn K (.ref f14) = true)
  {f15 : Addr} {od15 an15 : Option Addr} {sl15 : Array (Option Value)} {oc15 kV15 dc15 pm15 cd15 ct15 : Value}
  (a15 : PySem.W.findIn K (.ref c5) "__init__" = some (some (.ref f15)))
  {td15 : Addr} {odt15 : Option Addr} {oct15 : Value} {slt15 : Array (Option Value)} {nt15 : Nat}
  (l15 : K.lookup f15 = some ⟨oc15, od15, .func (PySem.W.fnOf "__init__" "Give.__init__" (defArgs s_Give___init__) (defBody s_Give___init__) (defScope s_Give___init__) (.ref td15) kV15 dc15 pm15 an15 cd15 ct15), sl15⟩)
  (d15 : PySem.W.codeIn K cd15 "Give.__init__" = true)
  (k15 : PySem.W.keepIn K (.ref f15) = true)
  (lt15 : K.lookup td15 = some ⟨oct15, odt15, .seq #[.none] nt15, slt15⟩)
  {f16 : Addr} {od16 an16 : Option Addr} {sl16 : Array (Option Value)} {oc16 kV16 dc16 pm16 cd16 ct16 : Value}
  (a16 : PySem.W.findIn K (.ref c6) "__init__" = some (some (.ref f16)))
  (l16 : K.lookup f16 = some ⟨oc16, od16, .func (PySem.W.fnOf "__init__" "Split.__init__" (defArgs s_Split___init__) (defBody s_Split___init__) (defScope s_Split___init__) .none kV16 dc16 pm16 an16 cd16 ct16), sl16⟩)
  (d16 : PySem.W.codeIn K cd16 "Split.__init__" = true)
  (k16 : PySem.W.keepIn K (.ref f16) = true)
  {f17 : Addr} {od17 an17 : Option Addr} {sl17 : Array (Option Value)} {oc17 kV17 dc17 pm17 cd17 ct17 : Value}
  (a17 : PySem.W.nsIn K mainGlobals "entry_that_tells" = some (some (.ref f17)))
  (l17 : K.lookup f17 = some ⟨oc17, od17, .func (PySem.W.fnOf "entry_that_tells" "entry_that_tells" (defArgs s_entry_that_tells) (defBody s_entry_that_tells) (defScope s_entry_that_tells) .none kV17 dc17 pm17 an17 cd17 ct17), sl17⟩)
  (d17 : PySem.W.codeIn K cd17 "entry_that_tells" = true)
  (k17 : PySem.W.keepIn K (.ref f17) = true)
  {f18 : Addr} {od18 an18 : Option Addr} {sl18 : Array (Option Value)} {oc18 kV18 dc18 pm18 cd18 ct18 : Value}
  (a18 : PySem.W.nsIn K mainGlobals "is_written_number" = some (some (.ref f18)))
  (l18 : K.lookup f18 = some ⟨oc18, od18, .func (PySem.W.fnOf "is_written_number" "is_written_number" (defArgs s_is_written_number) (defBody s_is_written_number) (defScope s_is_written_number) .none kV18 dc18 pm18 an18 cd18 ct18), sl18⟩)
  (d18 : PySem.W.codeIn K cd18 "is_written_number" = true)
  (k18 : PySem.W.keepIn K (.ref f18) = true)
  {f19 : Addr} {od19 an19 : Option Addr} {sl19 : Array (Option Value)} {oc19 kV19 dc19 pm19 cd19 ct19 : Value}
  (a19 : PySem.W.nsIn K mainGlobals "value_of_word" = some (some (.ref f19)))
  (l19 : K.lookup f19 = some ⟨oc19, od19, .func (PySem.W.fnOf "value_of_word" "value_of_word" (defArgs s_value_of_word) (defBody s_value_of_word) (defScope s_value_of_word) .none kV19 dc19 pm19 an19 cd19 ct19), sl19⟩)
  (d19 : PySem.W.codeIn K cd19 "value_of_word" = true)
  (k19 : PySem.W.keepIn K (.ref f19) = true)
  {f20 : Addr} {od20 an20 : Option Addr} {sl20 : Array (Option Value)} {oc20 kV20 dc20 pm20 cd20 ct20 : Value}
  (a20 : PySem.W.nsIn K mainGlobals "lot_of_word" = some (some (.ref f20)))
  (l20 : K.lookup f20 = some ⟨oc20, od20, .func (PySem.W.fnOf "lot_of_word" "lot_of_word" (defArgs s_lot_of_word) (defBody s_lot_of_word) (defScope s_lot_of_word) .none kV20 dc20 pm20 an20 cd20 ct20), sl20⟩)
  (d20 : PySem.W.codeIn K cd20 "lot_of_word" = true)
  (k20 : PySem.W.keepIn K (.ref f20) = true)
  {f21 : Addr} {od21 an21 : Option Addr} {sl21 : Array (Option Value)} {oc21 kV21 dc21 pm21 cd21 ct21 : Value}
  (a21 : PySem.W.nsIn K mainGlobals "named_of_words" = some (some (.ref f21)))
  (l21 : K.lookup f21 = some ⟨oc21, od21, .func (PySem.W.fnOf "named_of_words" "named_of_words" (defArgs s_named_of_words) (defBody s_named_of_words) (defScope s_named_of_words) .none kV21 dc21 pm21 an21 cd21 ct21), sl21⟩)
  (d21 : PySem.W.codeIn K cd21 "named_of_words" = true)
  (k21 : PySem.W.keepIn K (.ref f21) = true)
  {f22 : Addr} {od22 an22 : Option Addr} {sl22 : Array (Option Value)} {oc22 kV22 dc22 pm22 cd22 ct22 : Value}
  (a22 : PySem.W.nsIn K mainGlobals "entry_of_words" = some (some (.ref f22)))
  (l22 : K.lookup f22 = some ⟨oc22, od22, .func (PySem.W.fnOf "entry_of_words" "entry_of_words" (defArgs s_entry_of_words) (defBody s_entry_of_words) (defScope s_entry_of_words) .none kV22 dc22 pm22 an22 cd22 ct22), sl22⟩)
  (d22 : PySem.W.codeIn K cd22 "entry_of_words" = true)
  (k22 : PySem.W.keepIn K (.ref f22) = true)
  {f23 : Addr} {od23 an23 : Option Addr} {sl23 : Array (Option Value)} {oc23 kV23 dc23 pm23 cd23 ct23 : Value}
  (a23 : PySem.W.nsIn K mainGlobals "entry_in_row" = some (some (.ref f23)))
  (l23 : K.lookup f23 = some ⟨oc23, od23, .func (PySem.W.fnOf "entry_in_row" "entry_in_row" (defArgs s_entry_in_row) (defBody s_entry_in_row) (defScope s_entry_in_row) .none kV23 dc23 pm23 an23 cd23 ct23), sl23⟩)
  (d23 : PySem.W.codeIn K cd23 "entry_in_row" = true)
  (k23 : PySem.W.keepIn K (.ref f23) = true)
  {f24 : Addr} {od24 an24 : Option Addr} {sl24 : Array (Option Value)} {oc24 kV24 dc24 pm24 cd24 ct24 : Value}
  (a24 : PySem.W.nsIn K mainGlobals "read_entries" = some (some (.ref f24)))
  (l24 : K.lookup f24 = some ⟨oc24, od24, .func (PySem.W.fnOf "read_entries" "read_entries" (defArgs s_read_entries) (defBody s_read_entries) (defScope s_read_entries) .none kV24 dc24 pm24 an24 cd24 ct24), sl24⟩)
  (d24 : PySem.W.codeIn K cd24 "read_entries" = true)
  (k24 : PySem.W.keepIn K (.ref f24) = true)
  {f25 : Addr} {od25 an25 : Option Addr} {sl25 : Array (Option Value)} {oc25 kV25 dc25 pm25 cd25 ct25 : Value}
  (a25 : PySem.W.nsIn K mainGlobals "_law_digits" = some (some (.ref f25)))
  (l25 : K.lookup f25 = some ⟨oc25, od25, .func (PySem.W.fnOf "_law_digits" "_law_digits" (defArgs s__law_digits) (defBody s__law_digits) (defScope s__law_digits) .none kV25 dc25 pm25 an25 cd25 ct25), sl25⟩)
  (d25 : PySem.W.codeIn K cd25 "_law_digits" = true)
  (k25 : PySem.W.keepIn K (.ref f25) = true)
  {f26 : Addr} {od26 an26 : Option Addr} {sl26 : Array (Option Value)} {oc26 kV26 dc26 pm26 cd26 ct26 : Value}
  (a26 : PySem.W.nsIn K mainGlobals "_law_cell_at" = some (some (.ref f26)))
  (l26 : K.lookup f26 = some ⟨oc26, od26, .func (PySem.W.fnOf "_law_cell_at" "_law_cell_at" (defArgs s__law_cell_at) (defBody s__law_cell_at) (defScope s__law_cell_at) .none kV26 dc26 pm26 an26 cd26 ct26), sl26⟩)
  (d26 : PySem.W.codeIn K cd26 "_law_cell_at" = true)
  (k26 : PySem.W.keepIn K (.ref f26) = true)
  {f27 : Addr} {od27 an27 : Option Addr} {sl27 : Array (Option Value)} {oc27 kV27 dc27 pm27 cd27 ct27 : Value}
  (a27 : PySem.W.nsIn K mainGlobals "_law_wares" = some (some (.ref f27)))
  (l27 : K.lookup f27 = some ⟨oc27, od27, .func (PySem.W.fnOf "_law_wares" "_law_wares" (defArgs s__law_wares) (defBody s__law_wares) (defScope s__law_wares) .none kV27 dc27 pm27 an27 cd27 ct27), sl27⟩)
  (d27 : PySem.W.codeIn K cd27 "_law_wares" = true)
  (k27 : PySem.W.keepIn K (.ref f27) = true)
  {f28 : Addr} {od28 an28 : Option Addr} {sl28 : Array (Option Value)} {oc28 kV28 dc28 pm28 cd28 ct28 : Value}
  (a28 : PySem.W.nsIn K mainGlobals "_law_entry" = some (some (.ref f28)))
  (l28 : K.lookup f28 = some ⟨oc28, od28, .func (PySem.W.fnOf "_law_entry" "_law_entry" (defArgs s__law_entry) (defBody s__law_entry) (defScope s__law_entry) .none kV28 dc28 pm28 an28 cd28 ct28), sl28⟩)
  (d28 : PySem.W.codeIn K cd28 "_law_entry" = true)
  (k28 : PySem.W.keepIn K (.ref f28) = true)
  {f29 : Addr} {od29 an29 : Option Addr} {sl29 : Array (Option Value)} {oc29 kV29 dc29 pm29 cd29 ct29 : Value}
  (a29 : PySem.W.nsIn K mainGlobals "_law_mixed" = some (some (.ref f29)))
  (l29 : K.lookup f29 = some ⟨oc29, od29, .func (PySem.W.fnOf "_law_mixed" "_law_mixed" (defArgs s__law_mixed) (defBody s__law_mixed) (defScope s__law_mixed) .none kV29 dc29 pm29 an29 cd29 ct29), sl29⟩)
  (d29 : PySem.W.codeIn K cd29 "_law_mixed" = true)
  (k29 : PySem.W.keepIn K (.ref f29) = true)
  {f30 : Addr} {od30 an30 : Option Addr} {sl30 : Array (Option Value)} {oc30 kV30 dc30 pm30 cd30 ct30 : Value}
  (a30 : PySem.W.nsIn K mainGlobals "_law_cells" = some (some (.ref f30)))
  (l30 : K.lookup f30 = some ⟨oc30, od30, .func (PySem.W.fnOf "_law_cells" "_law_cells" (defArgs s__law_cells) (defBody s__law_cells) (defScope s__law_cells) .none kV30 dc30 pm30 an30 cd30 ct30), sl30⟩)
  (d30 : PySem.W.codeIn K cd30 "_law_cells" = true)
  (k30 : PySem.W.keepIn K (.ref f30) = true)
  {f31 : Addr} {od31 an31 : Option Addr} {sl31 : Array (Option Value)} {oc31 kV31 dc31 pm31 cd31 ct31 : Value}
  (a31 : PySem.W.nsIn K mainGlobals "_law_with_named" = some (some (.ref f31)))
  (l31 : K.lookup f31 = some ⟨oc31, od31, .func (PySem.W.fnOf "_law_with_named" "_law_with_named" (defArgs s__law_with_named) (defBody s__law_with_named) (defScope s__law_with_named) .none kV31 dc31 pm31 an31 cd31 ct31), sl31⟩)
  (d31 : PySem.W.codeIn K cd31 "_law_with_named" = true)
  (k31 : PySem.W.keepIn K (.ref f31) = true)
  {f32 : Addr} {od32 an32 : Option Addr} {sl32 : Array (Option Value)} {oc32 kV32 dc32 pm32 cd32 ct32 : Value}
  (a32 : PySem.W.nsIn K mainGlobals "_law_any" = some (some (.ref f32)))
  (l32 : K.lookup f32 = some ⟨oc32, od32, .func (PySem.W.fnOf "_law_any" "_law_any" (defArgs s__law_any) (defBody s__law_any) (defScope s__law_any) .none kV32 dc32 pm32 an32 cd32 ct32), sl32⟩)
  (d32 : PySem.W.codeIn K cd32 "_law_any" = true)
  (k32 : PySem.W.keepIn K (.ref f32) = true)
  {f33 : Addr} {od33 an33 : Option Addr} {sl33 : Array (Option Value)} {oc33 kV33 dc33 pm33 cd33 ct33 : Value}
  (a33 : PySem.W.nsIn K mainGlobals "row_of_words" = some (some (.ref f33)))
  (l33 : K.lookup f33 = some ⟨oc33, od33, .func (PySem.W.fnOf "row_of_words" "row_of_words" (defArgs s_row_of_words) (defBody s_row_of_words) (defScope s_row_of_words) .none kV33 dc33 pm33 an33 cd33 ct33), sl33⟩)
  (d33 : PySem.W.codeIn K cd33 "row_of_words" = true)
  (k33 : PySem.W.keepIn K (.ref f33) = true)
  {f34 : Addr} {od34 an34 : Option Addr} {sl34 : Array (Option Value)} {oc34 kV34 dc34 pm34 cd34 ct34 : Value}
  (a34 : PySem.W.findIn K (.ref c2) "word" = some (some (.ref f34)))
  (l34 : K.lookup f34 = some ⟨oc34, od34, .func (PySem.W.fnOf "word" "Buy.word" (defArgs s_Buy_word) (defBody s_Buy_word) (defScope s_Buy_word) .none kV34 dc34 pm34 an34 cd34 ct34), sl34⟩)
  (d34 : PySem.W.codeIn K cd34 "Buy.word" = true)
  (k34 : PySem.W.keepIn K (.ref f34) = true)
  {f35 : Addr} {od35 an35 : Option Addr} {sl35 : Array (Option Value)} {oc35 kV35 dc35 pm35 cd35 ct35 : Value}
  (a35 : PySem.W.findIn K (.ref c2) "told" = some (some (.ref f35)))
  (l35 : K.lookup f35 = some ⟨oc35, od35, .func (PySem.W.fnOf "told" "Buy.told" (defArgs s_Buy_told) (defBody s_Buy_told) (defScope s_Buy_told) .none kV35 dc35 pm35 an35 cd35 ct35), sl35⟩)
  (d35 : PySem.W.codeIn K cd35 "Buy.told" = true)
  (k35 : PySem.W.keepIn K (.ref f35) = true)
  {f36 : Addr} {od36 an36 : Option Addr} {sl36 : Array (Option Value)} {oc36 kV36 dc36 pm36 cd36 ct36 : Value}
  (a36 : PySem.W.nsIn K mainGlobals "named_told" = some (some (.ref f36)))
  (l36 : K.lookup f36 = some ⟨oc36, od36, .func (PySem.W.fnOf "named_told" "named_told" (defArgs s_named_told) (defBody s_named_told) (defScope s_named_told) .none kV36 dc36 pm36 an36 cd36 ct36), sl36⟩)
  (d36 : PySem.W.codeIn K cd36 "named_told" = true)
  (k36 : PySem.W.keepIn K (.ref f36) = true)
  {f37 : Addr} {od37 an37 : Option Addr} {sl37 : Array (Option Value)} {oc37 kV37 dc37 pm37 cd37 ct37 : Value}
  (a37 : PySem.W.findIn K (.ref c3) "word" = some (some (.ref f37)))
  (l37 : K.lookup f37 = some ⟨oc37, od37, .func (PySem.W.fnOf "word" "Sell.word" (defArgs s_Sell_word) (defBody s_Sell_word) (defScope s_Sell_word) .none kV37 dc37 pm37 an37 cd37 ct37), sl37⟩)
  (d37 : PySem.W.codeIn K cd37 "Sell.word" = true)
  (k37 : PySem.W.keepIn K (.ref f37) = true)
  {f38 : Addr} {od38 an38 : Option Addr} {sl38 : Array (Option Value)} {oc38 kV38 dc38 pm38 cd38 ct38 : Value}
  (a38 : PySem.W.findIn K (.ref c3) "told" = some (some (.ref f38)))
  (l38 : K.lookup f38 = some ⟨oc38, od38, .func (PySem.W.fnOf "told" "Sell.told" (defArgs s_Sell_told) (defBody s_Sell_told) (defScope s_Sell_told) .none kV38 dc38 pm38 an38 cd38 ct38), sl38⟩)
  (d38 : PySem.W.codeIn K cd38 "Sell.told" = true)
  (k38 : PySem.W.keepIn K (.ref f38) = true)
  {f39 : Addr} {od39 an39 : Option Addr} {sl39 : Array (Option Value)} {oc39 kV39 dc39 pm39 cd39 ct39 : Value}
  (a39 : PySem.W.findIn K (.ref c4) "word" = some (some (.ref f39)))
  (l39 : K.lookup f39 = some ⟨oc39, od39, .func (PySem.W.fnOf "word" "Gift.word" (defArgs s_Gift_word) (defBody s_Gift_word) (defScope s_Gift_word) .none kV39 dc39 pm39 an39 cd39 ct39), sl39⟩)
  (d39 : PySem.W.codeIn K cd39 "Gift.word" = true)
  (k39 : PySem.W.keepIn K (.ref f39) = true)
  {f40 : Addr} {od40 an40 : Option Addr} {sl40 : Array (Option Value)} {oc40 kV40 dc40 pm40 cd40 ct40 : Value}
  (a40 : PySem.W.findIn K (.ref c4) "told" = some (some (.ref f40)))
  (l40 : K.lookup f40 = some ⟨oc40, od40, .func (PySem.W.fnOf "told" "Gift.told" (defArgs s_Gift_told) (defBody s_Gift_told) (defScope s_Gift_told) .none kV40 dc40 pm40 an40 cd40 ct40), sl40⟩)
  (d40 : PySem.W.codeIn K cd40 "Gift.told" = true)
  (k40 : PySem.W.keepIn K (.ref f40) = true)
  {f41 : Addr} {od41 an41 : Option Addr} {sl41 : Array (Option Value)} {oc41 kV41 dc41 pm41 cd41 ct41 : Value}
  (a41 : PySem.W.findIn K (.ref c5) "word" = some (some (.ref f41)))
  (l41 : K.lookup f41 = some ⟨oc41, od41, .func (PySem.W.fnOf "word" "Give.word" (defArgs s_Give_word) (defBody s_Give_word) (defScope s_Give_word) .none kV41 dc41 pm41 an41 cd41 ct41), sl41⟩)
  (d41 : PySem.W.codeIn K cd41 "Give.word" = true)
  (k41 : PySem.W.keepIn K (.ref f41) = true)
  {f42 : Addr} {od42 an42 : Option Addr} {sl42 : Array (Option Value)} {oc42 kV42 dc42 pm42 cd42 ct42 : Value}
  (a42 : PySem.W.findIn K (.ref c5) "told" = some (some (.ref f42)))
  (l42 : K.lookup f42 = some ⟨oc42, od42, .func (PySem.W.fnOf "told" "Give.told" (defArgs s_Give_told) (defBody s_Give_told) (defScope s_Give_told) .none kV42 dc42 pm42 an42 cd42 ct42), sl42⟩)
  (d42 : PySem.W.codeIn K cd42 "Give.told" = true)
  (k42 : PySem.W.keepIn K (.ref f42) = true)
  {f43 : Addr} {od43 an43 : Option Addr} {sl43 : Array (Option Value)} {oc43 kV43 dc43 pm43 cd43 ct43 : Value}
  (a43 : PySem.W.findIn K (.ref c6) "word" = some (some (.ref f43)))
  (l43 : K.lookup f43 = some ⟨oc43, od43, .func (PySem.W.fnOf "word" "Split.word" (defArgs s_Split_word) (defBody s_Split_word) (defScope s_Split_word) .none kV43 dc43 pm43 an43 cd43 ct43), sl43⟩)
  (d43 : PySem.W.codeIn K cd43 "Split.word" = true)
  (k43 : PySem.W.keepIn K (.ref f43) = true)
  {f44 : Addr} {od44 an44 : Option Addr} {sl44 : Array (Option Value)} {oc44 kV44 dc44 pm44 cd44 ct44 : Value}
  (a44 : PySem.W.findIn K (.ref c6) "told" = some (some (.ref f44)))
  (l44 : K.lookup f44 = some ⟨oc44, od44, .func (PySem.W.fnOf "told" "Split.told" (defArgs s_Split_told) (defBody s_Split_told) (defScope s_Split_told) .none kV44 dc44 pm44 an44 cd44 ct44), sl44⟩)
  (d44 : PySem.W.codeIn K cd44 "Split.told" = true)
  (k44 : PySem.W.keepIn K (.ref f44) = true)
  {f45 : Addr} {od45 an45 : Option Addr} {sl45 : Array (Option Value)} {oc45 kV45 dc45 pm45 cd45 ct45 : Value}
  (a45 : PySem.W.findIn K (.ref c1) "word" = some (some (.ref f45)))
  (l45 : K.lookup f45 = some ⟨oc45, od45, .func (PySem.W.fnOf "word" "Parting.word" (defArgs s_Parting_word) (defBody s_Parting_word) (defScope s_Parting_word) .none kV45 dc45 pm45 an45 cd45 ct45), sl45⟩)
  (d45 : PySem.W.codeIn K cd45 "Parting.word" = true)
  (k45 : PySem.W.keepIn K (.ref f45) = true)
  {f46 : Addr} {od46 an46 : Option Addr} {sl46 : Array (Option Value)} {oc46 kV46 dc46 pm46 cd46 ct46 : Value}
  (a46 : PySem.W.findIn K (.ref c1) "told" = some (some (.ref f46)))
  (l46 : K.lookup f46 = some ⟨oc46, od46, .func (PySem.W.fnOf "told" "Parting.told" (defArgs s_Parting_told) (defBody s_Parting_told) (defScope s_Parting_told) .none kV46 dc46 pm46 an46 cd46 ct46), sl46⟩)
  (d46 : PySem.W.codeIn K cd46 "Parting.told" = true)
  (k46 : PySem.W.keepIn K (.ref f46) = true)
  {f47 : Addr} {od47 an47 : Option Addr} {sl47 : Array (Option Value)} {oc47 kV47 dc47 pm47 cd47 ct47 : Value}
  (a47 : PySem.W.nsIn K mainGlobals "words_of_named" = some (some (.ref f47)))
  (l47 : K.lookup f47 = some ⟨oc47, od47, .func (PySem.W.fnOf "words_of_named" "words_of_named" (defArgs s_words_of_named) (defBody s_words_of_named) (defScope s_words_of_named) .none kV47 dc47 pm47 an47 cd47 ct47), sl47⟩)
  (d47 : PySem.W.codeIn K cd47 "words_of_named" = true)
  (k47 : PySem.W.keepIn K (.ref f47) = true)
  {f48 : Addr} {od48 an48 : Option Addr} {sl48 : Array (Option Value)} {oc48 kV48 dc48 pm48 cd48 ct48 : Value}
  (a48 : PySem.W.nsIn K mainGlobals "words_of_entry" = some (some (.ref f48)))
  (l48 : K.lookup f48 = some ⟨oc48, od48, .func (PySem.W.fnOf "words_of_entry" "words_of_entry" (defArgs s_words_of_entry) (defBody s_words_of_entry) (defScope s_words_of_entry) .none kV48 dc48 pm48 an48 cd48 ct48), sl48⟩)
  (d48 : PySem.W.codeIn K cd48 "words_of_entry" = true)
  (k48 : PySem.W.keepIn K (.ref f48) = true)
  {f49 : Addr} {od49 an49 : Option Addr} {sl49 : Array (Option Value)} {oc49 kV49 dc49 pm49 cd49 ct49 : Value}
  (a49 : PySem.W.nsIn K mainGlobals "refuse_twice" = some (some (.ref f49)))
  (l49 : K.lookup f49 = some ⟨oc49, od49, .func (PySem.W.fnOf "refuse_twice" "refuse_twice" (defArgs s_refuse_twice) (defBody s_refuse_twice) (defScope s_refuse_twice) .none kV49 dc49 pm49 an49 cd49 ct49), sl49⟩)
  (d49 : PySem.W.codeIn K cd49 "refuse_twice" = true)
  (k49 : PySem.W.keepIn K (.ref f49) = true)
  {f50 : Addr} {od50 an50 : Option Addr} {sl50 : Array (Option Value)} {oc50 kV50 dc50 pm50 cd50 ct50 : Value}
  (a50 : PySem.W.nsIn K mainGlobals "place_of" = some (some (.ref f50)))
  (l50 : K.lookup f50 = some ⟨oc50, od50, .func (PySem.W.fnOf "place_of" "place_of" (defArgs s_place_of) (defBody s_place_of) (defScope s_place_of) .none kV50 dc50 pm50 an50 cd50 ct50), sl50⟩)
  (d50 : PySem.W.codeIn K cd50 "place_of" = true)
  (k50 : PySem.W.keepIn K (.ref f50) = true)
  {f51 : Addr} {od51 an51 : Option Addr} {sl51 : Array (Option Value)} {oc51 kV51 dc51 pm51 cd51 ct51 : Value}
  (a51 : PySem.W.nsIn K mainGlobals "in_order" = some (some (.ref f51)))
  (l51 : K.lookup f51 = some ⟨oc51, od51, .func (PySem.W.fnOf "in_order" "in_order" (defArgs s_in_order) (defBody s_in_order) (defScope s_in_order) .none kV51 dc51 pm51 an51 cd51 ct51), sl51⟩)
  (d51 : PySem.W.codeIn K cd51 "in_order" = true)
  (k51 : PySem.W.keepIn K (.ref f51) = true)
  {f52 : Addr} {od52 an52 : Option Addr} {sl52 : Array (Option Value)} {oc52 kV52 dc52 pm52 cd52 ct52 : Value}
  (a52 : PySem.W.nsIn K mainGlobals "shown_entries" = some (some (.ref f52)))
  (l52 : K.lookup f52 = some ⟨oc52, od52, .func (PySem.W.fnOf "shown_entries" "shown_entries" (defArgs s_shown_entries) (defBody s_shown_entries) (defScope s_shown_entries) .none kV52 dc52 pm52 an52 cd52 ct52), sl52⟩)
  (d52 : PySem.W.codeIn K cd52 "shown_entries" = true)
  (k52 : PySem.W.keepIn K (.ref f52) = true)
  {f53 : Addr} {od53 an53 : Option Addr} {sl53 : Array (Option Value)} {oc53 kV53 dc53 pm53 cd53 ct53 : Value}
  (a53 : PySem.W.nsIn K mainGlobals "_law_kind" = some (some (.ref f53)))
  (l53 : K.lookup f53 = some ⟨oc53, od53, .func (PySem.W.fnOf "_law_kind" "_law_kind" (defArgs s__law_kind) (defBody s__law_kind) (defScope s__law_kind) .none kV53 dc53 pm53 an53 cd53 ct53), sl53⟩)
  (d53 : PySem.W.codeIn K cd53 "_law_kind" = true)
  (k53 : PySem.W.keepIn K (.ref f53) = true)
  {f54 : Addr} {od54 an54 : Option Addr} {sl54 : Array (Option Value)} {oc54 kV54 dc54 pm54 cd54 ct54 : Value}
  (a54 : PySem.W.nsIn K mainGlobals "law" = some (some (.ref f54)))
  (l54 : K.lookup f54 = some ⟨oc54, od54, .func (PySem.W.fnOf "law" "law" (defArgs s_law) (defBody s_law) (defScope s_law) .none kV54 dc54 pm54 an54 cd54 ct54), sl54⟩)
  (d54 : PySem.W.codeIn K cd54 "law" = true)
  (k54 : PySem.W.keepIn K (.ref f54) = true)
  (z_range : PySem.W.nsIn K mainGlobals "range" = some none)
  (z_len : PySem.W.nsIn K mainGlobals "len" = some none)
  (z_list : PySem.W.nsIn K mainGlobals "list" = some none)
  (z_str : PySem.W.nsIn K mainGlobals "str" = some none)
  (z_isinstance : PySem.W.nsIn K mainGlobals "isinstance" = some none)
  (z_int : PySem.W.nsIn K mainGlobals "int" = some none)
  (z_bool : PySem.W.nsIn K mainGlobals "bool" = some none)
  (z_all : PySem.W.nsIn K mainGlobals "all" = some none)
  (z_sum : PySem.W.nsIn K mainGlobals "sum" = some none)
  (z_enumerate : PySem.W.nsIn K mainGlobals "enumerate" = some none)
  (z_min : PySem.W.nsIn K mainGlobals "min" = some none)
  (z_max : PySem.W.nsIn K mainGlobals "max" = some none)
  (z_tuple : PySem.W.nsIn K mainGlobals "tuple" = some none)
  (z_sorted : PySem.W.nsIn K mainGlobals "sorted" = some none)
  (z_zip : PySem.W.nsIn K mainGlobals "zip" = some none)
  {t_MOST_LETTERS : Tok}
  (g_MOST_LETTERS : PySem.W.nsIn K mainGlobals "MOST_LETTERS" = some (some (.int 8 t_MOST_LETTERS)))
  {t_MOST_DAY : Tok}
  (g_MOST_DAY : PySem.W.nsIn K mainGlobals "MOST_DAY" = some (some (.int 1000000 t_MOST_DAY)))
  {t_MOST_NUMBER : Tok}
  (g_MOST_NUMBER : PySem.W.nsIn K mainGlobals "MOST_NUMBER" = some (some (.int 1000000 t_MOST_NUMBER)))
  {t_MOST_WHOLE : Tok}
  (g_MOST_WHOLE : PySem.W.nsIn K mainGlobals "MOST_WHOLE" = some (some (.int 1000000 t_MOST_WHOLE)))
  {t_MOST_PIECES : Tok}
  (g_MOST_PIECES : PySem.W.nsIn K mainGlobals "MOST_PIECES" = some (some (.int 1000000000 t_MOST_PIECES)))
  {t_MOST_PRICE : Tok}
  (g_MOST_PRICE : PySem.W.nsIn K mainGlobals "MOST_PRICE" = some (some (.int 1000000000 t_MOST_PRICE)))
  {t_MOST_FEE : Tok}
  (g_MOST_FEE : PySem.W.nsIn K mainGlobals "MOST_FEE" = some (some (.int 1000000000 t_MOST_FEE)))
  {t_MOST_GIFT_COST : Tok}
  (g_MOST_GIFT_COST : PySem.W.nsIn K mainGlobals "MOST_GIFT_COST" = some (some (.int 1000000000000000000 t_MOST_GIFT_COST)))
  {t_MOST_SPLIT : Tok}
  (g_MOST_SPLIT : PySem.W.nsIn K mainGlobals "MOST_SPLIT" = some (some (.int 1000 t_MOST_SPLIT)))
  {t_MOST_FIGURES : Tok}
  (g_MOST_FIGURES : PySem.W.nsIn K mainGlobals "MOST_FIGURES" = some (some (.int 19 t_MOST_FIGURES)))
  {v_KINDS_THAT_NAME_LOTS : Addr} {odv_KINDS_THAT_NAME_LOTS : Option Addr} {nv_KINDS_THAT_NAME_LOTS : Nat} {slv_KINDS_THAT_NAME_LOTS : Array (Option Value)} {tv0_KINDS_THAT_NAME_LOTS : Tok} {tv1_KINDS_THAT_NAME_LOTS : Tok}
  (gt_KINDS_THAT_NAME_LOTS : PySem.W.nsIn K mainGlobals "KINDS_THAT_NAME_LOTS" = some (some (.ref v_KINDS_THAT_NAME_LOTS)))
  (lv_KINDS_THAT_NAME_LOTS : K.lookup v_KINDS_THAT_NAME_LOTS = some ⟨.type "tuple", odv_KINDS_THAT_NAME_LOTS, .seq #[.str "sell" tv0_KINDS_THAT_NAME_LOTS, .str "give" tv1_KINDS_THAT_NAME_LOTS] nv_KINDS_THAT_NAME_LOTS, slv_KINDS_THAT_NAME_LOTS⟩)
  {v_PLAIN_WORDS : Addr} {ep_PLAIN_WORDS : Nat} {hv0_PLAIN_WORDS : Int} {tv0_PLAIN_WORDS uv0_PLAIN_WORDS : Tok} {hv1_PLAIN_WORDS : Int} {tv1_PLAIN_WORDS uv1_PLAIN_WORDS : Tok} {hv2_PLAIN_WORDS : Int} {tv2_PLAIN_WORDS uv2_PLAIN_WORDS : Tok} {hv3_PLAIN_WORDS : Int} {tv3_PLAIN_WORDS uv3_PLAIN_WORDS : Tok} {hv4_PLAIN_WORDS : Int} {tv4_PLAIN_WORDS uv4_PLAIN_WORDS : Tok} {hv5_PLAIN_WORDS : Int} {tv5_PLAIN_WORDS uv5_PLAIN_WORDS : Tok}
  (gg_PLAIN_WORDS : PySem.W.nsIn K mainGlobals "PLAIN_WORDS" = some (some (.ref v_PLAIN_WORDS)))
  (gl_PLAIN_WORDS : K.lookup v_PLAIN_WORDS = some ⟨.type "dict", none, .dict (List.toArray [⟨hv0_PLAIN_WORDS, .str "buy" tv0_PLAIN_WORDS, .int 7 uv0_PLAIN_WORDS⟩, ⟨hv1_PLAIN_WORDS, .str "sell" tv1_PLAIN_WORDS, .int 7 uv1_PLAIN_WORDS⟩, ⟨hv2_PLAIN_WORDS, .str "gift" tv2_PLAIN_WORDS, .int 7 uv2_PLAIN_WORDS⟩, ⟨hv3_PLAIN_WORDS, .str "give" tv3_PLAIN_WORDS, .int 5 uv3_PLAIN_WORDS⟩, ⟨hv4_PLAIN_WORDS, .str "split" tv4_PLAIN_WORDS, .int 6 uv4_PLAIN_WORDS⟩, ⟨hv5_PLAIN_WORDS, .str "part" tv5_PLAIN_WORDS, .int 7 uv5_PLAIN_WORDS⟩]) ep_PLAIN_WORDS, #[]⟩)
  (gs_PLAIN_WORDS : (v_PLAIN_WORDS == sysModules) = false)
  (gh0_PLAIN_WORDS : hv0_PLAIN_WORDS = keyH w (Sum.inr "buy"))
  (gh1_PLAIN_WORDS : hv1_PLAIN_WORDS = keyH w (Sum.inr "sell"))
  (gh2_PLAIN_WORDS : hv2_PLAIN_WORDS = keyH w (Sum.inr "gift"))
  (gh3_PLAIN_WORDS : hv3_PLAIN_WORDS = keyH w (Sum.inr "give"))
  (gh4_PLAIN_WORDS : hv4_PLAIN_WORDS = keyH w (Sum.inr "split"))
  (gh5_PLAIN_WORDS : hv5_PLAIN_WORDS = keyH w (Sum.inr "part"))
  (x_NoEntry : PySem.W.excIn K c7 [.type "ValueError", .type "Exception", .type "BaseException", .type "object"] "ValueError.__new__" = true)
  (ya_NoEntry : PySem.W.findIn K (.ref c7) "__class__" = some (some (.builtin "object.__class__")))
  (yb_NoEntry : PySem.W.findIn K (.ref c7) "__getattribute__" = some (some (.builtin "BaseException.__getattribute__")))
  (yc_NoEntry : PySem.W.findIn K (.ref c7) "__getattr__" = some none)
  (oc_n : PySem.W.specialIn K (.builtin "object.__class__") "__get__" = some (some (.builtin "getset_descriptor.__get__")))
  (oc_t : PySem.W.takesIn K (.builtin "object.__class__") = some true)
  (pg_Entry : PySem.W.plainGet K c0 Str.empty = true)
  (hd_Entry : PySem.W.hasDictIn K c0 = true)
  (po_Entry : PySem.W.plainOver K c0 = true)
  (sa_Entry : PySem.W.findIn K (.ref c0) "__setattr__" = some (some (.builtin "object.__setattr__")))
  (ha_Entry : PySem.W.findIn K (.ref c0) "__class__" = some (some (.builtin "object.__class__")))
  (hm_Entry : PySem.W.mroIn K c0 (.type "object") = some true)
  (n_Entry_day : PySem.W.findIn K (.ref c0) "day" = some none)
  (n_Entry_number : PySem.W.findIn K (.ref c0) "number" = some none)
  (n_Entry_ware : PySem.W.findIn K (.ref c0) "ware" = some none)
  (pg_Parting : PySem.W.plainGet K c1 Str.empty = true)
  (hd_Parting : PySem.W.hasDictIn K c1 = true)
  (po_Parting : PySem.W.plainOver K c1 = true)
  (sa_Parting : PySem.W.findIn K (.ref c1) "__setattr__" = some (some (.builtin "object.__setattr__")))
  (ha_Parting : PySem.W.findIn K (.ref c1) "__class__" = some (some (.builtin "object.__class__")))
  (hm_Parting : PySem.W.mroIn K c1 (.type "object") = some true)
  (n_Parting_day : PySem.W.findIn K (.ref c1) "day" = some none)
  (n_Parting_number : PySem.W.findIn K (.ref c1) "number" = some none)
  (n_Parting_ware : PySem.W.findIn K (.ref c1) "ware" = some none)
  (n_Parting_other : PySem.W.findIn K (.ref c1) "other" = some none)
  (n_Parting_share : PySem.W.findIn K (.ref c1) "share" = some none)
  (n_Parting_whole : PySem.W.findIn K (.ref c1) "whole" = some none)
  (pg_Buy : PySem.W.plainGet K c2 Str.empty = true)
  (hd_Buy : PySem.W.hasDictIn K c2 = true)
  (po_Buy : PySem.W.plainOver K c2 = true)
  (sa_Buy : PySem.W.findIn K (.ref c2) "__setattr__" = some (some (.builtin "object.__setattr__")))
  (ha_Buy : PySem.W.findIn K (.ref c2) "__class__" = some (some (.builtin "object.__class__")))
  (hm_Buy : PySem.W.mroIn K c2 (.type "object") = some true)
  (n_Buy_day : PySem.W.findIn K (.ref c2) "day" = some none)
  (n_Buy_number : PySem.W.findIn K (.ref c2) "number" = some none)
  (n_Buy_ware : PySem.W.findIn K (.ref c2) "ware" = some none)
  (n_Buy_pieces : PySem.W.findIn K (.ref c2) "pieces" = some none)
  (n_Buy_price : PySem.W.findIn K (.ref c2) "price" = some none)
  (n_Buy_fee : PySem.W.findIn K (.ref c2) "fee" = some none)
  (n_Buy_cost : PySem.W.findIn K (.ref c2) "cost" = some none)
  (pg_Sell : PySem.W.plainGet K c3 Str.empty = true)
  (hd_Sell : PySem.W.hasDictIn K c3 = true)
  (po_Sell : PySem.W.plainOver K c3 = true)
  (sa_Sell : PySem.W.findIn K (.ref c3) "__setattr__" = some (some (.builtin "object.__setattr__")))
  (ha_Sell : PySem.W.findIn K (.ref c3) "__class__" = some (some (.builtin "object.__class__")))
  (hm_Sell : PySem.W.mroIn K c3 (.type "object") = some true)
  (n_Sell_day : PySem.W.findIn K (.ref c3) "day" = some none)
  (n_Sell_number : PySem.W.findIn K (.ref c3) "number" = some none)
  (n_Sell_ware : PySem.W.findIn K (.ref c3) "ware" = some none)
  (n_Sell_pieces : PySem.W.findIn K (.ref c3) "pieces" = some none)
  (n_Sell_price : PySem.W.findIn K (.ref c3) "price" = some none)
  (n_Sell_fee : PySem.W.findIn K (.ref c3) "fee" = some none)
  (n_Sell_named : PySem.W.findIn K (.ref c3) "named" = some none)
  (n_Sell_proceeds : PySem.W.findIn K (.ref c3) "proceeds" = some none)
  (pg_Gift : PySem.W.plainGet K c4 Str.empty = true)
  (hd_Gift : PySem.W.hasDictIn K c4 = true)
  (po_Gift : PySem.W.plainOver K c4 = true)
  (sa_Gift : PySem.W.findIn K (.ref c4) "__setattr__" = some (some (.builtin "object.__setattr__")))
  (ha_Gift : PySem.W.findIn K (.ref c4) "__class__" = some (some (.builtin "object.__class__")))
  (hm_Gift : PySem.W.mroIn K c4 (.type "object") = some true)
  (n_Gift_day : PySem.W.findIn K (.ref c4) "day" = some none)
  (n_Gift_number : PySem.W.findIn K (.ref c4) "number" = some none)
  (n_Gift_ware : PySem.W.findIn K (.ref c4) "ware" = some none)
  (n_Gift_pieces : PySem.W.findIn K (.ref c4) "pieces" = some none)
  (n_Gift_cost : PySem.W.findIn K (.ref c4) "cost" = some none)
  (n_Gift_since : PySem.W.findIn K (.ref c4) "since" = some none)
  (pg_Give : PySem.W.plainGet K c5 Str.empty = true)
  (hd_Give : PySem.W.hasDictIn K c5 = true)
  (po_Give : PySem.W.plainOver K c5 = true)
  (sa_Give : PySem.W.findIn K (.ref c5) "__setattr__" = some (some (.builtin "object.__setattr__")))
  (ha_Give : PySem.W.findIn K (.ref c5) "__class__" = some (some (.builtin "object.__class__")))
  (hm_Give : PySem.W.mroIn K c5 (.type "object") = some true)
  (n_Give_day : PySem.W.findIn K (.ref c5) "day" = some none)
  (n_Give_number : PySem.W.findIn K (.ref c5) "number" = some none)
  (n_Give_ware : PySem.W.findIn K (.ref c5) "ware" = some none)
  (n_Give_pieces : PySem.W.findIn K (.ref c5) "pieces" = some none)
  (n_Give_named : PySem.W.findIn K (.ref c5) "named" = some none)
  (pg_Split : PySem.W.plainGet K c6 Str.empty = true)
  (hd_Split : PySem.W.hasDictIn K c6 = true)
  (po_Split : PySem.W.plainOver K c6 = true)
  (sa_Split : PySem.W.findIn K (.ref c6) "__setattr__" = some (some (.builtin "object.__setattr__")))
  (ha_Split : PySem.W.findIn K (.ref c6) "__class__" = some (some (.builtin "object.__class__")))
  (hm_Split : PySem.W.mroIn K c6 (.type "object") = some true)
  (n_Split_day : PySem.W.findIn K (.ref c6) "day" = some none)
  (n_Split_number : PySem.W.findIn K (.ref c6) "number" = some none)
  (n_Split_ware : PySem.W.findIn K (.ref c6) "ware" = some none)
  (n_Split_many : PySem.W.findIn K (.ref c6) "many" = some none)
  (n_Split_of : PySem.W.findIn K (.ref c6) "of" = some none)
  (mka_Parting : PySem.W.makesIn K c1 = true)
  (mkb_Parting : PySem.W.findIn K (.ref c1) "__init__" = some (some (.ref f8)))
  (mkc_Parting : PySem.W.isFn K (.ref f8) = true)
  (mkd_Parting : PySem.W.keepIn K (.ref c1) = true)
  (mka_Buy : PySem.W.makesIn K c2 = true)
  (mkb_Buy : PySem.W.findIn K (.ref c2) "__init__" = some (some (.ref f10)))
  (mkc_Buy : PySem.W.isFn K (.ref f10) = true)
  (mkd_Buy : PySem.W.keepIn K (.ref c2) = true)
  (mka_Sell : PySem.W.makesIn K c3 = true)
  (mkb_Sell : PySem.W.findIn K (.ref c3) "__init__" = some (some (.ref f13)))
  (mkc_Sell : PySem.W.isFn K (.ref f13) = true)
  (mkd_Sell : PySem.W.keepIn K (.ref c3) = true)
  (mka_Gift : PySem.W.makesIn K c4 = true)
  (mkb_Gift : PySem.W.findIn K (.ref c4) "__init__" = some (some (.ref f14)))
  (mkc_Gift : PySem.W.isFn K (.ref f14) = true)
  (mkd_Gift : PySem.W.keepIn K (.ref c4) = true)
  (mka_Give : PySem.W.makesIn K c5 = true)
  (mkb_Give : PySem.W.findIn K (.ref c5) "__init__" = some (some (.ref f15)))
  (mkc_Give : PySem.W.isFn K (.ref f15) = true)
  (mkd_Give : PySem.W.keepIn K (.ref c5) = true)
  (mka_Split : PySem.W.makesIn K c6 = true)
  (mkb_Split : PySem.W.findIn K (.ref c6) "__init__" = some (some (.ref f16)))
  (mkc_Split : PySem.W.isFn K (.ref f16) = true)
  (mkd_Split : PySem.W.keepIn K (.ref c6) = true)
  (mea_Buy_word : PySem.W.findIn K (.ref c2) "word" = some (some (.ref f34)))
  (meb_Buy_word : PySem.W.isFn K (.ref f34) = true)
  (mea_Sell_word : PySem.W.findIn K (.ref c3) "word" = some (some (.ref f37)))
  (meb_Sell_word : PySem.W.isFn K (.ref f37) = true)
  (mea_Gift_word : PySem.W.findIn K (.ref c4) "word" = some (some (.ref f39)))
  (meb_Gift_word : PySem.W.isFn K (.ref f39) = true)
  (mea_Give_word : PySem.W.findIn K (.ref c5) "word" = some (some (.ref f41)))
  (meb_Give_word : PySem.W.isFn K (.ref f41) = true)
  (mea_Split_word : PySem.W.findIn K (.ref c6) "word" = some (some (.ref f43)))
  (meb_Split_word : PySem.W.isFn K (.ref f43) = true)
  (mea_Parting_word : PySem.W.findIn K (.ref c1) "word" = some (some (.ref f45)))
  (meb_Parting_word : PySem.W.isFn K (.ref f45) = true)
  (mea_Buy_told : PySem.W.findIn K (.ref c2) "told" = some (some (.ref f35)))
  (meb_Buy_told : PySem.W.isFn K (.ref f35) = true)
  (mea_Sell_told : PySem.W.findIn K (.ref c3) "told" = some (some (.ref f38)))
  (meb_Sell_told : PySem.W.isFn K (.ref f38) = true)
  (mea_Gift_told : PySem.W.findIn K (.ref c4) "told" = some (some (.ref f40)))
  (meb_Gift_told : PySem.W.isFn K (.ref f40) = true)
  (mea_Give_told : PySem.W.findIn K (.ref c5) "told" = some (some (.ref f42)))
  (meb_Give_told : PySem.W.isFn K (.ref f42) = true)
  (mea_Split_told : PySem.W.findIn K (.ref c6) "told" = some (some (.ref f44)))
  (meb_Split_told : PySem.W.isFn K (.ref f44) = true)
  (mea_Parting_told : PySem.W.findIn K (.ref c1) "told" = some (some (.ref f46)))
  (meb_Parting_told : PySem.W.isFn K (.ref f46) = true)
  (cfa_Entry___init__ : PySem.W.specialIn K (.ref c0) "__getattribute__" = some (some (.builtin "type.__getattribute__")))
  (cfb_Entry___init__ : PySem.W.readsIn K c0 (.type "type") = true)
  (cfc_Entry___init__ : PySem.W.findCls K (.ref c0) (.type "type") "__init__" = some (.val (.ref f7)))
  {cT PT : Addr}
  (lamc : cd54 = .ref cT)
  (lamC : PySem.W.codeHdIn K cT PT = true)
  : ∃ fd : FuncData, (∀ (s : Shared) (v : Value), BindsTo s fd ⟨[v], []⟩ [("_law_script", v)]) /\ (∃ c, PySem.W.codeHdIn K c PT = true) /\ ∀ base : Heap, K.In base -> base.Ns mainGlobals mg -> base.BuiltinsAt mg PT -> FnOk l.prog w K mg base CX0 10 fa fd ["_law_script"] (sp_law K PT) := by
 have e := hfa.symm.trans (PySem.W.mg_of X G a54)
 cases e
 have T : Txt w K mg ⟨f0, f1, f2, f3, f4, f5, f6, f7, f8, f9, f10, f11, f12, f13, f14, f15, f16, f17, f18, f19, f20, f21, f22, f23, f24, f25, f26, f27, f28, f29, f30, f31, f32, f33, f34, f35, f36, f37, f38, f39, f40, f41, f42, f43, f44, f45, f46, f47, f48, f49, f50, f51, f52, f53, fa, c0, c1, c2, c3, c4, c5, c6, c7, t_MOST_LETTERS, t_MOST_DAY, t_MOST_NUMBER, t_MOST_WHOLE, t_MOST_PIECES, t_MOST_PRICE, t_MOST_FEE, t_MOST_GIFT_COST, t_MOST_SPLIT, t_MOST_FIGURES, v_KINDS_THAT_NAME_LOTS, v_PLAIN_WORDS, cT, PT⟩ ⟨_, _, _, _, _, _, _, _, _, _, _, _, _, _, _, _, _, _, _, _, _, _, _, _, _, _, _, _, _, _, _, _, _, _, _, _, _, _, _, _, _, _, _, _, _, _, _, _, _, _, _, _, _, _, _⟩ := ⟨PySem.W.mg_of X G a0, k0, fun_mk (st := s__law_turned) l0 d0 k0, PySem.W.mg_of X G a1, k1, fun_mk (st := s__law_text) l1 d1 k1, PySem.W.mg_of X G a2, k2, fun_mk (st := s_kind_of_words) l2 d2 k2, PySem.W.mg_of X G a3, k3, fun_mk (st := s_is_whole_number) l3 d3 k3, PySem.W.mg_of X G a4, k4, fun_mk (st := s_check_number) l4 d4 k4, PySem.W.mg_of X G a5, k5, fun_mk (st := s_is_name) l5 d5 k5, PySem.W.mg_of X G a6, k6, fun_mk (st := s_check_name) l6 d6 k6, fun_mk (st := s_Entry___init__) l7 d7 k7, fun_mk (st := s_Parting___init__) l8 d8 k8, PySem.W.mg_of X G a9, k9, fun_mk (st := s_check_trade) l9 d9 k9, funD_mk (st := s_Buy___init__) (its := [.int 0 tk10_0]) l10 d10 k10 lt10 rfl (.cons ⟨_, rfl⟩ .nil), PySem.W.mg_of X G a11, k11, fun_mk (st := s_check_named) l11 d11 k11, PySem.W.mg_of X G a12, k12, fun_mk (st := s_named_copy) l12 d12 k12, funD_mk (st := s_Sell___init__) (its := [.int 0 tk13_0, .none]) l13 d13 k13 lt13 rfl (.cons ⟨_, rfl⟩ (.cons rfl .nil)), fun_mk (st := s_Gift___init__) l14 d14 k14, funD_mk (st := s_Give___init__) (its := [.none]) l15 d15 k15 lt15 rfl (.cons rfl .nil), fun_mk (st := s_Split___init__) l16 d16 k16, PySem.W.mg_of X G a17, k17, fun_mk (st := s_entry_that_tells) l17 d17 k17, PySem.W.mg_of X G a18, k18, fun_mk (st := s_is_written_number) l18 d18 k18, PySem.W.mg_of X G a19, k19, fun_mk (st := s_value_of_word) l19 d19 k19, PySem.W.mg_of X G a20, k20, fun_mk (st := s_lot_of_word) l20 d20 k20, PySem.W.mg_of X G a21, k21, fun_mk (st := s_named_of_words) l21 d21 k21, PySem.W.mg_of X G a22, k22, fun_mk (st := s_entry_of_words) l22 d22 k22, PySem.W.mg_of X G a23, k23, fun_mk (st := s_entry_in_row) l23 d23 k23, PySem.W.mg_of X G a24, k24, fun_mk (st := s_read_entries) l24 d24 k24, PySem.W.mg_of X G a25, k25, fun_mk (st := s__law_digits) l25 d25 k25, PySem.W.mg_of X G a26, k26, fun_mk (st := s__law_cell_at) l26 d26 k26, PySem.W.mg_of X G a27, k27, fun_mk (st := s__law_wares) l27 d27 k27, PySem.W.mg_of X G a28, k28, fun_mk (st := s__law_entry) l28 d28 k28, PySem.W.mg_of X G a29, k29, fun_mk (st := s__law_mixed) l29 d29 k29, PySem.W.mg_of X G a30, k30, fun_mk (st := s__law_cells) l30 d30 k30, PySem.W.mg_of X G a31, k31, fun_mk (st := s__law_with_named) l31 d31 k31, PySem.W.mg_of X G a32, k32, fun_mk (st := s__law_any) l32 d32 k32, PySem.W.mg_of X G a33, k33, fun_mk (st := s_row_of_words) l33 d33 k33, fun_mk (st := s_Buy_word) l34 d34 k34, fun_mk (st := s_Buy_told) l35 d35 k35, PySem.W.mg_of X G a36, k36, fun_mk (st := s_named_told) l36 d36 k36, fun_mk (st := s_Sell_word) l37 d37 k37, fun_mk (st := s_Sell_told) l38 d38 k38, fun_mk (st := s_Gift_word) l39 d39 k39, fun_mk (st := s_Gift_told) l40 d40 k40, fun_mk (st := s_Give_word) l41 d41 k41, fun_mk (st := s_Give_told) l42 d42 k42, fun_mk (st := s_Split_word) l43 d43 k43, fun_mk (st := s_Split_told) l44 d44 k44, fun_mk (st := s_Parting_word) l45 d45 k45, fun_mk (st := s_Parting_told) l46 d46 k46, PySem.W.mg_of X G a47, k47, fun_mk (st := s_words_of_named) l47 d47 k47, PySem.W.mg_of X G a48, k48, fun_mk (st := s_words_of_entry) l48 d48 k48, PySem.W.mg_of X G a49, k49, fun_mk (st := s_refuse_twice) l49 d49 k49, PySem.W.mg_of X G a50, k50, fun_mk (st := s_place_of) l50 d50 k50, PySem.W.mg_of X G a51, k51, fun_mk (st := s_in_order) l51 d51 k51, PySem.W.mg_of X G a52, k52, fun_mk (st := s_shown_entries) l52 d52 k52, PySem.W.mg_of X G a53, k53, fun_mk (st := s__law_kind) l53 d53 k53, PySem.W.mg_of X G a54, k54, fun_mk (st := s_law) l54 d54 k54, PySem.W.mg_none_of X G z_range, PySem.W.mg_none_of X G z_len, PySem.W.mg_none_of X G z_list, PySem.W.mg_none_of X G z_str, PySem.W.mg_none_of X G z_isinstance, PySem.W.mg_none_of X G z_int, PySem.W.mg_none_of X G z_bool, PySem.W.mg_none_of X G z_all, PySem.W.mg_none_of X G z_sum, PySem.W.mg_none_of X G z_enumerate, PySem.W.mg_none_of X G z_min, PySem.W.mg_none_of X G z_max, PySem.W.mg_none_of X G z_tuple, PySem.W.mg_none_of X G z_sorted, PySem.W.mg_none_of X G z_zip, PySem.W.mg_of X G u_Entry, PySem.W.mg_of X G u_Parting, PySem.W.mg_of X G u_Buy, PySem.W.mg_of X G u_Sell, PySem.W.mg_of X G u_Gift, PySem.W.mg_of X G u_Give, PySem.W.mg_of X G u_Split, PySem.W.mg_of X G u_NoEntry, PySem.W.mg_of X G g_MOST_LETTERS, PySem.W.mg_of X G g_MOST_DAY, PySem.W.mg_of X G g_MOST_NUMBER, PySem.W.mg_of X G g_MOST_WHOLE, PySem.W.mg_of X G g_MOST_PIECES, PySem.W.mg_of X G g_MOST_PRICE, PySem.W.mg_of X G g_MOST_FEE, PySem.W.mg_of X G g_MOST_GIFT_COST, PySem.W.mg_of X G g_MOST_SPLIT, PySem.W.mg_of X G g_MOST_FIGURES, PySem.W.mg_of X G gt_KINDS_THAT_NAME_LOTS, fun _ => .inr ⟨_, _, _, lv_KINDS_THAT_NAME_LOTS, rfl, rfl, (by rw [sizeLine_eq]; show 2 <= 16777216; decide), (.cons ⟨_, rfl⟩ (.cons ⟨_, rfl⟩ .nil))⟩, PySem.W.mg_of X G gg_PLAIN_WORDS, ⟨gs_PLAIN_WORDS, _, _, [(Sum.inr "buy", .int 7 uv0_PLAIN_WORDS), (Sum.inr "sell", .int 7 uv1_PLAIN_WORDS), (Sum.inr "gift", .int 7 uv2_PLAIN_WORDS), (Sum.inr "give", .int 5 uv3_PLAIN_WORDS), (Sum.inr "split", .int 6 uv4_PLAIN_WORDS), (Sum.inr "part", .int 7 uv5_PLAIN_WORDS)], gl_PLAIN_WORDS, (.cons ⟨rfl, _, rfl⟩ (.cons ⟨rfl, _, rfl⟩ (.cons ⟨rfl, _, rfl⟩ (.cons ⟨rfl, _, rfl⟩ (.cons ⟨rfl, _, rfl⟩ (.cons ⟨rfl, _, rfl⟩ .nil)))))), fun _ => (.cons (mixKind_str _ _ _ _) rfl (.cons (mixKind_str _ _ _ _) rfl (.cons (mixKind_str _ _ _ _) rfl (.cons (mixKind_str _ _ _ _) rfl (.cons (mixKind_str _ _ _ _) rfl (.cons (mixKind_str _ _ _ _) rfl .nil)))))), List.forall_mem_cons.mpr ⟨⟨Sum.inr "buy", keyIs_str _ _, gh0_PLAIN_WORDS⟩, List.forall_mem_cons.mpr ⟨⟨Sum.inr "sell", keyIs_str _ _, gh1_PLAIN_WORDS⟩, List.forall_mem_cons.mpr ⟨⟨Sum.inr "gift", keyIs_str _ _, gh2_PLAIN_WORDS⟩, List.forall_mem_cons.mpr ⟨⟨Sum.inr "give", keyIs_str _ _, gh3_PLAIN_WORDS⟩, List.forall_mem_cons.mpr ⟨⟨Sum.inr "split", keyIs_str _ _, gh4_PLAIN_WORDS⟩, List.forall_mem_cons.mpr ⟨⟨Sum.inr "part", keyIs_str _ _, gh5_PLAIN_WORDS⟩, fun _ h => nomatch h⟩⟩⟩⟩⟩⟩, show ([Sum.inr "buy", Sum.inr "sell", Sum.inr "gift", Sum.inr "give", Sum.inr "split", Sum.inr "part"] : List Key).Nodup from by decide +kernel⟩, ⟨x_NoEntry⟩, ⟨ya_NoEntry, yb_NoEntry, yc_NoEntry⟩, ⟨pg_Entry, hd_Entry, po_Entry, sa_Entry⟩, ⟨⟨pg_Entry, hd_Entry, po_Entry, sa_Entry⟩, ha_Entry, oc_n, oc_t, hm_Entry⟩, n_Entry_day, n_Entry_number, n_Entry_ware, ⟨pg_Parting, hd_Parting, po_Parting, sa_Parting⟩, ⟨⟨pg_Parting, hd_Parting, po_Parting, sa_Parting⟩, ha_Parting, oc_n, oc_t, hm_Parting⟩, n_Parting_day, n_Parting_number, n_Parting_ware, n_Parting_other, n_Parting_share, n_Parting_whole, ⟨pg_Buy, hd_Buy, po_Buy, sa_Buy⟩, ⟨⟨pg_Buy, hd_Buy, po_Buy, sa_Buy⟩, ha_Buy, oc_n, oc_t, hm_Buy⟩, n_Buy_day, n_Buy_number, n_Buy_ware, n_Buy_pieces, n_Buy_price, n_Buy_fee, n_Buy_cost, ⟨pg_Sell, hd_Sell, po_Sell, sa_Sell⟩, ⟨⟨pg_Sell, hd_Sell, po_Sell, sa_Sell⟩, ha_Sell, oc_n, oc_t, hm_Sell⟩, n_Sell_day, n_Sell_number, n_Sell_ware, n_Sell_pieces, n_Sell_price, n_Sell_fee, n_Sell_named, n_Sell_proceeds, ⟨pg_Gift, hd_Gift, po_Gift, sa_Gift⟩, ⟨⟨pg_Gift, hd_Gift, po_Gift, sa_Gift⟩, ha_Gift, oc_n, oc_t, hm_Gift⟩, n_Gift_day, n_Gift_number, n_Gift_ware, n_Gift_pieces, n_Gift_cost, n_Gift_since, ⟨pg_Give, hd_Give, po_Give, sa_Give⟩, ⟨⟨pg_Give, hd_Give, po_Give, sa_Give⟩, ha_Give, oc_n, oc_t, hm_Give⟩, n_Give_day, n_Give_number, n_Give_ware, n_Give_pieces, n_Give_named, ⟨pg_Split, hd_Split, po_Split, sa_Split⟩, ⟨⟨pg_Split, hd_Split, po_Split, sa_Split⟩, ha_Split, oc_n, oc_t, hm_Split⟩, n_Split_day, n_Split_number, n_Split_ware, n_Split_many, n_Split_of, ⟨mka_Parting, mkb_Parting, mkc_Parting, mkd_Parting⟩, ⟨mka_Buy, mkb_Buy, mkc_Buy, mkd_Buy⟩, ⟨mka_Sell, mkb_Sell, mkc_Sell, mkd_Sell⟩, ⟨mka_Gift, mkb_Gift, mkc_Gift, mkd_Gift⟩, ⟨mka_Give, mkb_Give, mkc_Give, mkd_Give⟩, ⟨mka_Split, mkb_Split, mkc_Split, mkd_Split⟩, ⟨mea_Buy_word, meb_Buy_word, k34⟩, ⟨mea_Sell_word, meb_Sell_word, k37⟩, ⟨mea_Gift_word, meb_Gift_word, k39⟩, ⟨mea_Give_word, meb_Give_word, k41⟩, ⟨mea_Split_word, meb_Split_word, k43⟩, ⟨mea_Parting_word, meb_Parting_word, k45⟩, ⟨mea_Buy_told, meb_Buy_told, k35⟩, ⟨mea_Sell_told, meb_Sell_told, k38⟩, ⟨mea_Gift_told, meb_Gift_told, k40⟩, ⟨mea_Give_told, meb_Give_told, k42⟩, ⟨mea_Split_told, meb_Split_told, k44⟩, ⟨mea_Parting_told, meb_Parting_told, k46⟩, ⟨cfa_Entry___init__, cfb_Entry___init__, cfc_Entry___init__⟩, lamc, lamC⟩
 exact ⟨_, fun s v => .of_eq rfl, ⟨_, lamC⟩, fun base _ _ hB => ok_law T hB⟩
theorem walk {l : PySem.W.OpenLaw} {q : Program} {loose : List Str} {XP : (Str -> Option Value) -> Heap -> Prop} {YP : World -> Heap -> Prop} {d : DefRec} {K : Params -> Fg_} {PT : Addr} (hn : l.most = some 63) (hdf : d.params.defaults = [])
  (hY : ∀ (w : World) (h : Heap), YP w h -> (K w.params).In h /\ h.get? PT = some (PySem.W.tabObj #[])) (hKT : ∀ w : World, (K w.params).lookup PT = none)
  (F : ∀ (w : World) (mg : Str -> Option Value) (fa : Addr) (h : Heap), (K w.params).In h -> h.Ns mainGlobals mg -> mg d.name = some (.ref fa) ->
   ∃ fd : FuncData, (∀ (s : Shared) (u : Value), BindsTo s fd ⟨[u], []⟩ [("_law_script", u)]) /\ (∃ c, PySem.W.codeHdIn (K w.params) c PT = true) /\ ∀ base : Heap, (K w.params).In base -> base.Ns mainGlobals mg -> base.BuiltinsAt mg PT -> FnOk l.prog w (K w.params) mg base CX0 10 fa fd ["_law_script"] (sp_law (K w.params) PT)) :
  PySem.W.WalkO q loose XP YP l.row.toRowW d [] (fun f vs => PySem.call f vs) :=
 L2.walk_ofT (n := 63) (k := 10) (x := "_law_script") (CX := fun _ => CX0) (sp := fun w => sp_law (K w.params) PT) hn (by decide) hdf ⟨rfl, by decide, by decide⟩ hY hKT F (fun _ _ a ns hl hP hS => ⟨a, ns, rfl, hS, hl, hP, fun _ => rfl⟩) fun _ _ _ _ _ z => z
end My
namespace PySem.W.Fast
def tw17764772205275733240:=0
def tw1778043248628253526:=0
def tw18028270236573725594:=0
def tw8153915301810898738:=0
def tw14072471116193873993:=0
def tw11190043629923190542:=0
def tw6572641614976430485:=0
def tw8778549906147608563:=0
def tw9852670517911424262:=0
def tw14467273254186312602:=0
def tw10745406038627537352:=0
def tw10913316119190387470:=0
def tw6776594678357841466:=0
def tw14205610354999218179:=0
def tw10145732474191950710:=0
def tw9667885404858538704:=0
def tw1830779124899392610:=0
def tw13058866435183155262:=0
def tw4092448603176971057:=0
def tw7982342686451774296:=0
def tw14663855226891409441:=0
def tw13614345621934294959:=0
def tw6475595396970233826:=0
def tw14693522627759160438:=0
def tw11400217528187404465:=0
def tw17458108003133475999:=0
def tw11437193686069921676:=0
def tw16122519391495528855:=0
def tw17290317623259936679:=0
def tw2476584412062721909:=0
def tw17001391260266267945:=0
def tw11109481880780016818:=0
def tw317378932636189685:=0
def tw1008040921694041427:=0
def tw4296854115066752587:=0
def tw6631984811041026239:=0
def tw5195536733259791972:=0
def tw1375338759101365001:=0
def tw6360122851004512353:=0
def tw255380074985275035:=0
def tw4850240845091880374:=0
def tw3701835084305641235:=0
def tw1287164893601313463:=0
def tw15626661067479280010:=0
def tw7405115019319999994:=0
def tw13497872999416792317:=0
def tw16596876251064668431:=0
def tw119390072593689778:=0
def tw7734815857509909052:=0
def tw2794222009279734446:=0
def tw5899496982032608043:=0
def tw2810670068042286179:=0
def tw15931465409710083502:=0
def tw5442041817961605969:=0
def tw12282417042339053410:=0
def tw879327422815739430:=0
def tw18177145645748662211:=0
def tw10444232760800904856:=0
def tw14120146837677511868:=0
def tw12967983127354140506:=0
def tw8417133028347587681:=0
def tw16304875383494292660:=0
def tw17714324652497295295:=0
def tw2014498455864618214:=0
def tw10702211044513953178:=0
def tw11026841955147908225:=0
def tw2276522792877082652:=0
def tw10505211551960051162:=0
def tw15255165178415488302:=0
def tw5859338993259604624:=0
def tw7881692831907185968:=0
def tw233391005886155055:=0
def tw12727253736456127947:=0
def tw15608874888549011066:=0
def tw1055796996488057842:=0
def tw6798509526283383753:=0
def tw14909433567961043726:=0
def tw3971820453866468902:=0
def tw437963877248258803:=0
def tw12514757075026196064:=0
def tw292596890174225398:=0
def tw14909072772105696478:=0
def tw16091523397934032771:=0
def tw3730676266078341206:=0
def tw10925260317738656390:=0
def tw6915826440072844971:=0
def tw4938899272950426275:=0
def tw10158997011614928385:=0
def tw18028248419518025663:=0
def tw7842260685575802805:=0
def tw7163817011502986151:=0
def tw11784067325472173539:=0
def tw5074229566951151657:=0
def tw14132533693854466078:=0
def tw10689065434753522494:=0
def tw486020948692584984:=0
def tw10128535608887898083:=0
def tw12971351311575758642:=0
def tw10127785604277078190:=0
def tw10351810085572582140:=0
def tw8922273733679347559:=0
def tw4659506829841727540:=0
def tw2978202630077819626:=0
def tw1917710856222384483:=0
def tw927164551600155785:=0
def tw347826719409675052:=0
def tw1491330347988419869:=0
def tw16705780905519284030:=0
def tw10254726302829867931:=0
def tw5582728568631781430:=0
def tw16306591689998336890:=0
def tw2523195257973468340:=0
def tw1622643650936274231:=0
def tw14618984417671337455:=0
def tw484799313097906497:=0
def tw3577176330014314704:=0
def tw3883781069971910484:=0
def tw1142650527901223958:=0
def tw2307631576382103302:=0
def tw13585418732514067100:=0
def tw3624786557271872042:=0
def tw14098067517715445767:=0
def tw1422047842438347884:=0
def tw10312372265111480021:=0
def tw12595621719402714575:=0
def tw17636168510958409117:=0
def tw1913821777513978103:=0
def tw4189363321416673213:=0
def tw16388806258473648715:=0
def tw4287724539819936285:=0
def tw7519000889250086143:=0
def tw15558067508357699464:=0
def tw3703665963831969742:=0
def tw955628013906784826:=0
def tw9000669355654685105:=0
def tw12988006514000881679:=0
def tw7354341615277022850:=0
def tw659492404005447632:=0
def tw15570886453166384596:=0
def tw16009099510505540063:=0
def tw10841031669110993304:=0
def tw8799857677474462014:=0
def tw3421864953648174582:=0
def tw8145315395391355944:=0
def tw16342731080207194898:=0
def tw13120091985383472443:=0
def tw5600085146258800649:=0
def tw9077245723826019374:=0
def tw16856329517821971368:=0
def tw10388107460748137257:=0
def tw12192993969565870561:=0
def tw17112010645900680590:=0
def tw8067709234977533642:=0
def tw13343120870861430402:=0
end PySem.W.Fast
open PySem PySem.W PyProof.Rows
set_option maxRecDepth 100000 in
set_option maxHeartbeats 0 in
theorem PySem.Challenge.cw_lotledger_k81_entries_read_holds : PySem.Challenge.rw_lotledger_k81_entries_read.Holds := by
 w_on; o_law; k_head; (case hw => w_witness2)
 k_fill
 refine My.walk (l := PySem.Challenge.rw_lotledger_k81_entries_read) rfl rfl (fun w h Y => ⟨PySem.W.km_in_of Y, PySem.W.km_tabs_of Y _ List.mem_cons_self⟩) ?T ?F
 case T => intro w; kernel_rfl
 case F =>
  intro w mg fa h KX G hmg
  refine' My.all_mk KX G hmg ?u_Entry ?u_Parting ?u_Buy ?u_Sell ?u_Gift ?u_Give ?u_Split ?u_NoEntry ?a0 ?l0 ?d0 ?k0 ?a1 ?l1 ?d1 ?k1 ?a2 ?l2 ?d2 ?k2 ?a3 ?l3 ?d3 ?k3 ?a4 ?l4 ?d4 ?k4 ?a5 ?l5 ?d5 ?k5 ?a6 ?l6 ?d6 ?k6 ?a7 ?l7 ?d7 ?k7 ?a8 ?l8 ?d8 ?k8 ?a9 ?l9 ?d9 ?k9 ?a10 ?l10 ?d10 ?k10 ?lt10 ?a11 ?l11 ?d11 ?k11 ?a12 ?l12 ?d12 ?k12 ?a13 ?l13 ?d13 ?k13 ?lt13 ?a14 ?l14 ?d14 ?k14 ?a15 ?l15 ?d15 ?k15 ?lt15 ?a16 ?l16 ?d16 ?k16 ?a17 ?l17 ?d17 ?k17 ?a18 ?l18 ?d18 ?k18 ?a19 ?l19 ?d19 ?k19 ?a20 ?l20 ?d20 ?k20 ?a21 ?l21 ?d21 ?k21 ?a22 ?l22 ?d22 ?k22 ?a23 ?l23 ?d23 ?k23 ?a24 ?l24 ?d24 ?k24 ?a25 ?l25 ?d25 ?k25 ?a26 ?l26 ?d26 ?k26 ?a27 ?l27 ?d27 ?k27 ?a28 ?l28 ?d28 ?k28 ?a29 ?l29 ?d29 ?k29 ?a30 ?l30 ?d30 ?k30 ?a31 ?l31 ?d31 ?k31 ?a32 ?l32 ?d32 ?k32 ?a33 ?l33 ?d33 ?k33 ?a34 ?l34 ?d34 ?k34 ?a35 ?l35 ?d35 ?k35 ?a36 ?l36 ?d36 ?k36 ?a37 ?l37 ?d37 ?k37 ?a38 ?l38 ?d38 ?k38 ?a39 ?l39 ?d39 ?k39 ?a40 ?l40 ?d40 ?k40 ?a41 ?l41 ?d41 ?k41 ?a42 ?l42 ?d42 ?k42 ?a43 ?l43 ?d43 ?k43 ?a44 ?l44 ?d44 ?k44 ?a45 ?l45 ?d45 ?k45 ?a46 ?l46 ?d46 ?k46 ?a47 ?l47 ?d47 ?k47 ?a48 ?l48 ?d48 ?k48 ?a49 ?l49 ?d49 ?k49 ?a50 ?l50 ?d50 ?k50 ?a51 ?l51 ?d51 ?k51 ?a52 ?l52 ?d52 ?k52 ?a53 ?l53 ?d53 ?k53 ?a54 ?l54 ?d54 ?k54 ?z_range ?z_len ?z_list ?z_str ?z_isinstance ?z_int ?z_bool ?z_all ?z_sum ?z_enumerate ?z_min ?z_max ?z_tuple ?z_sorted ?z_zip ?g_MOST_LETTERS ?g_MOST_DAY ?g_MOST_NUMBER ?g_MOST_WHOLE ?g_MOST_PIECES ?g_MOST_PRICE ?g_MOST_FEE ?g_MOST_GIFT_COST ?g_MOST_SPLIT ?g_MOST_FIGURES ?gt_KINDS_THAT_NAME_LOTS ?lv_KINDS_THAT_NAME_LOTS ?gg_PLAIN_WORDS ?gl_PLAIN_WORDS ?gs_PLAIN_WORDS ?gh0_PLAIN_WORDS ?gh1_PLAIN_WORDS ?gh2_PLAIN_WORDS ?gh3_PLAIN_WORDS ?gh4_PLAIN_WORDS ?gh5_PLAIN_WORDS ?x_NoEntry ?ya_NoEntry ?yb_NoEntry ?yc_NoEntry ?oc_n ?oc_t ?pg_Entry ?hd_Entry ?po_Entry ?sa_Entry ?ha_Entry ?hm_Entry ?n_Entry_day ?n_Entry_number ?n_Entry_ware ?pg_Parting ?hd_Parting ?po_Parting ?sa_Parting ?ha_Parting ?hm_Parting ?n_Parting_day ?n_Parting_number ?n_Parting_ware ?n_Parting_other ?n_Parting_share ?n_Parting_whole ?pg_Buy ?hd_Buy ?po_Buy ?sa_Buy ?ha_Buy ?hm_Buy ?n_Buy_day ?n_Buy_number ?n_Buy_ware ?n_Buy_pieces ?n_Buy_price ?n_Buy_fee ?n_Buy_cost ?pg_Sell ?hd_Sell ?po_Sell ?sa_Sell ?ha_Sell ?hm_Sell ?n_Sell_day ?n_Sell_number ?n_Sell_ware ?n_Sell_pieces ?n_Sell_price ?n_Sell_fee ?n_Sell_named ?n_Sell_proceeds ?pg_Gift ?hd_Gift ?po_Gift ?sa_Gift ?ha_Gift ?hm_Gift ?n_Gift_day ?n_Gift_number ?n_Gift_ware ?n_Gift_pieces ?n_Gift_cost ?n_Gift_since ?pg_Give ?hd_Give ?po_Give ?sa_Give ?ha_Give ?hm_Give ?n_Give_day ?n_Give_number ?n_Give_ware ?n_Give_pieces ?n_Give_named ?pg_Split ?hd_Split ?po_Split ?sa_Split ?ha_Split ?hm_Split ?n_Split_day ?n_Split_number ?n_Split_ware ?n_Split_many ?n_Split_of ?mka_Parting ?mkb_Parting ?mkc_Parting ?mkd_Parting ?mka_Buy ?mkb_Buy ?mkc_Buy ?mkd_Buy ?mka_Sell ?mkb_Sell ?mkc_Sell ?mkd_Sell ?mka_Gift ?mkb_Gift ?mkc_Gift ?mkd_Gift ?mka_Give ?mkb_Give ?mkc_Give ?mkd_Give ?mka_Split ?mkb_Split ?mkc_Split ?mkd_Split ?mea_Buy_word ?meb_Buy_word ?mea_Sell_word ?meb_Sell_word ?mea_Gift_word ?meb_Gift_word ?mea_Give_word ?meb_Give_word ?mea_Split_word ?meb_Split_word ?mea_Parting_word ?meb_Parting_word ?mea_Buy_told ?meb_Buy_told ?mea_Sell_told ?meb_Sell_told ?mea_Gift_told ?meb_Gift_told ?mea_Give_told ?meb_Give_told ?mea_Split_told ?meb_Split_told ?mea_Parting_told ?meb_Parting_told ?cfa_Entry___init__ ?cfb_Entry___init__ ?cfc_Entry___init__ ?lamc ?lamC
  (case u_Entry => k_is)
  (case u_Parting => k_is)
  (case u_Buy => k_is)
  (case u_Sell => k_is)
  (case u_Gift => k_is)
  (case u_Give => k_is)
  (case u_Split => k_is)
  (case u_NoEntry => k_is)
  (case a0 => k_is)
  (case l0 => k_is)
  (case d0 => k_is)
  (case k0 => k_is)
  (case a1 => k_is)
  (case l1 => k_is)
  (case d1 => k_is)
  (case k1 => k_is)
  (case a2 => k_is)
  (case l2 => k_is)
  (case d2 => k_is)
  (case k2 => k_is)
  (case a3 => k_is)
  (case l3 => k_is)
  (case d3 => k_is)
  (case k3 => k_is)
  (case a4 => k_is)
  (case l4 => k_is)
  (case d4 => k_is)
  (case k4 => k_is)
  (case a5 => k_is)
  (case l5 => k_is)
  (case d5 => k_is)
  (case k5 => k_is)
  (case a6 => k_is)
  (case l6 => k_is)
  (case d6 => k_is)
  (case k6 => k_is)
  (case a7 => k_is)
  (case l7 => k_is)
  (case d7 => k_is)
  (case k7 => k_is)
  (case a8 => k_is)
  (case l8 => k_is)
  (case d8 => k_is)
  (case k8 => k_is)
  (case a9 => k_is)
  (case l9 => k_is)
  (case d9 => k_is)
  (case k9 => k_is)
  (case a10 => k_is)
  (case l10 => k_is)
  (case d10 => k_is)
  (case k10 => k_is)
  (case lt10 => k_is)
  (case a11 => k_is)
  (case l11 => k_is)
  (case d11 => k_is)
  (case k11 => k_is)
  (case a12 => k_is)
  (case l12 => k_is)
  (case d12 => k_is)
  (case k12 => k_is)
  (case a13 => k_is)
  (case l13 => k_is)
  (case d13 => k_is)
  (case k13 => k_is)
  (case lt13 => k_is)
  (case a14 => k_is)
  (case l14 => k_is)
  (case d14 => k_is)
  (case k14 => k_is)
  (case a15 => k_is)
  (case l15 => k_is)
  (case d15 => k_is)
  (case k15 => k_is)
  (case lt15 => k_is)
  (case a16 => k_is)
  (case l16 => k_is)
  (case d16 => k_is)
  (case k16 => k_is)
  (case a17 => k_is)
  (case l17 => k_is)
  (case d17 => k_is)
  (case k17 => k_is)
  (case a18 => k_is)
  (case l18 => k_is)
  (case d18 => k_is)
  (case k18 => k_is)
  (case a19 => k_is)
  (case l19 => k_is)
  (case d19 => k_is)
  (case k19 => k_is)
  (case a20 => k_is)
  (case l20 => k_is)
  (case d20 => k_is)
  (case k20 => k_is)
  (case a21 => k_is)
  (case l21 => k_is)
  (case d21 => k_is)
  (case k21 => k_is)
  (case a22 => k_is)
  (case l22 => k_is)
  (case d22 => k_is)
  (case k22 => k_is)
  (case a23 => k_is)
  (case l23 => k_is)
  (case d23 => k_is)
  (case k23 => k_is)
  (case a24 => k_is)
  (case l24 => k_is)
  (case d24 => k_is)
  (case k24 => k_is)
  (case a25 => k_is)
  (case l25 => k_is)
  (case d25 => k_is)
  (case k25 => k_is)
  (case a26 => k_is)
  (case l26 => k_is)
  (case d26 => k_is)
  (case k26 => k_is)
  (case a27 => k_is)
  (case l27 => k_is)
  (case d27 => k_is)
  (case k27 => k_is)
  (case a28 => k_is)
  (case l28 => k_is)
  (case d28 => k_is)
  (case k28 => k_is)
  (case a29 => k_is)
  (case l29 => k_is)
  (case d29 => k_is)
  (case k29 => k_is)
  (case a30 => k_is)
  (case l30 => k_is)
  (case d30 => k_is)
  (case k30 => k_is)
  (case a31 => k_is)
  (case l31 => k_is)
  (case d31 => k_is)
  (case k31 => k_is)
  (case a32 => k_is)
  (case l32 => k_is)
  (case d32 => k_is)
  (case k32 => k_is)
  (case a33 => k_is)
  (case l33 => k_is)
  (case d33 => k_is)
  (case k33 => k_is)
  (case a34 => k_is)
  (case l34 => k_is)
  (case d34 => k_is)
  (case k34 => k_is)
  (case a35 => k_is)
  (case l35 => k_is)
  (case d35 => k_is)
  (case k35 => k_is)
  (case a36 => k_is)
  (case l36 => k_is)
  (case d36 => k_is)
  (case k36 => k_is)
  (case a37 => k_is)
  (case l37 => k_is)
  (case d37 => k_is)
  (case k37 => k_is)
  (case a38 => k_is)
  (case l38 => k_is)
  (case d38 => k_is)
  (case k38 => k_is)
  (case a39 => k_is)
  (case l39 => k_is)
  (case d39 => k_is)
  (case k39 => k_is)
  (case a40 => k_is)
  (case l40 => k_is)
  (case d40 => k_is)
  (case k40 => k_is)
  (case a41 => k_is)
  (case l41 => k_is)
  (case d41 => k_is)
  (case k41 => k_is)
  (case a42 => k_is)
  (case l42 => k_is)
  (case d42 => k_is)
  (case k42 => k_is)
  (case a43 => k_is)
  (case l43 => k_is)
  (case d43 => k_is)
  (case k43 => k_is)
  (case a44 => k_is)
  (case l44 => k_is)
  (case d44 => k_is)
  (case k44 => k_is)
  (case a45 => k_is)
  (case l45 => k_is)
  (case d45 => k_is)
  (case k45 => k_is)
  (case a46 => k_is)
  (case l46 => k_is)
  (case d46 => k_is)
  (case k46 => k_is)
  (case a47 => k_is)
  (case l47 => k_is)
  (case d47 => k_is)
  (case k47 => k_is)
  (case a48 => k_is)
  (case l48 => k_is)
  (case d48 => k_is)
  (case k48 => k_is)
  (case a49 => k_is)
  (case l49 => k_is)
  (case d49 => k_is)
  (case k49 => k_is)
  (case a50 => k_is)
  (case l50 => k_is)
  (case d50 => k_is)
  (case k50 => k_is)
  (case a51 => k_is)
  (case l51 => k_is)
  (case d51 => k_is)
  (case k51 => k_is)
  (case a52 => k_is)
  (case l52 => k_is)
  (case d52 => k_is)
  (case k52 => k_is)
  (case a53 => k_is)
  (case l53 => k_is)
  (case d53 => k_is)
  (case k53 => k_is)
  (case a54 => k_is)
  (case l54 => k_is)
  (case d54 => k_is)
  (case k54 => k_is)
  (case z_range => k_is)
  (case z_len => k_is)
  (case z_list => k_is)
  (case z_str => k_is)
  (case z_isinstance => k_is)
  (case z_int => k_is)
  (case z_bool => k_is)
  (case z_all => k_is)
  (case z_sum => k_is)
  (case z_enumerate => k_is)
  (case z_min => k_is)
  (case z_max => k_is)
  (case z_tuple => k_is)
  (case z_sorted => k_is)
  (case z_zip => k_is)
  (case g_MOST_LETTERS => k_is)
  (case g_MOST_DAY => k_is)
  (case g_MOST_NUMBER => k_is)
  (case g_MOST_WHOLE => k_is)
  (case g_MOST_PIECES => k_is)
  (case g_MOST_PRICE => k_is)
  (case g_MOST_FEE => k_is)
  (case g_MOST_GIFT_COST => k_is)
  (case g_MOST_SPLIT => k_is)
  (case g_MOST_FIGURES => k_is)
  (case gt_KINDS_THAT_NAME_LOTS => k_is)
  (case lv_KINDS_THAT_NAME_LOTS => k_is)
  (case gg_PLAIN_WORDS => k_is)
  (case gl_PLAIN_WORDS => k_is)
  (case gs_PLAIN_WORDS => kernel_rfl)
  (case gh0_PLAIN_WORDS => rfl)
  (case gh1_PLAIN_WORDS => rfl)
  (case gh2_PLAIN_WORDS => rfl)
  (case gh3_PLAIN_WORDS => rfl)
  (case gh4_PLAIN_WORDS => rfl)
  (case gh5_PLAIN_WORDS => rfl)
  (case x_NoEntry => k_exc)
  (case ya_NoEntry => k_is)
  (case yb_NoEntry => k_is)
  (case yc_NoEntry => k_is)
  (case oc_n => k_is)
  (case oc_t => k_is)
  (case pg_Entry => k_is)
  (case hd_Entry => k_is)
  (case po_Entry => k_is)
  (case sa_Entry => k_is)
  (case ha_Entry => k_is)
  (case hm_Entry => k_is)
  (case n_Entry_day => k_is)
  (case n_Entry_number => k_is)
  (case n_Entry_ware => k_is)
  (case pg_Parting => k_is)
  (case hd_Parting => k_is)
  (case po_Parting => k_is)
  (case sa_Parting => k_is)
  (case ha_Parting => k_is)
  (case hm_Parting => k_is)
  (case n_Parting_day => k_is)
  (case n_Parting_number => k_is)
  (case n_Parting_ware => k_is)
  (case n_Parting_other => k_is)
  (case n_Parting_share => k_is)
  (case n_Parting_whole => k_is)
  (case pg_Buy => k_is)
  (case hd_Buy => k_is)
  (case po_Buy => k_is)
  (case sa_Buy => k_is)
  (case ha_Buy => k_is)
  (case hm_Buy => k_is)
  (case n_Buy_day => k_is)
  (case n_Buy_number => k_is)
  (case n_Buy_ware => k_is)
  (case n_Buy_pieces => k_is)
  (case n_Buy_price => k_is)
  (case n_Buy_fee => k_is)
  (case n_Buy_cost => k_is)
  (case pg_Sell => k_is)
  (case hd_Sell => k_is)
  (case po_Sell => k_is)
  (case sa_Sell => k_is)
  (case ha_Sell => k_is)
  (case hm_Sell => k_is)
  (case n_Sell_day => k_is)
  (case n_Sell_number => k_is)
  (case n_Sell_ware => k_is)
  (case n_Sell_pieces => k_is)
  (case n_Sell_price => k_is)
  (case n_Sell_fee => k_is)
  (case n_Sell_named => k_is)
  (case n_Sell_proceeds => k_is)
  (case pg_Gift => k_is)
  (case hd_Gift => k_is)
  (case po_Gift => k_is)
  (case sa_Gift => k_is)
  (case ha_Gift => k_is)
  (case hm_Gift => k_is)
  (case n_Gift_day => k_is)
  (case n_Gift_number => k_is)
  (case n_Gift_ware => k_is)
  (case n_Gift_pieces => k_is)
  (case n_Gift_cost => k_is)
  (case n_Gift_since => k_is)
  (case pg_Give => k_is)
  (case hd_Give => k_is)
  (case po_Give => k_is)
  (case sa_Give => k_is)
  (case ha_Give => k_is)
  (case hm_Give => k_is)
  (case n_Give_day => k_is)
  (case n_Give_number => k_is)
  (case n_Give_ware => k_is)
  (case n_Give_pieces => k_is)
  (case n_Give_named => k_is)
  (case pg_Split => k_is)
  (case hd_Split => k_is)
  (case po_Split => k_is)
  (case sa_Split => k_is)
  (case ha_Split => k_is)
  (case hm_Split => k_is)
  (case n_Split_day => k_is)
  (case n_Split_number => k_is)
  (case n_Split_ware => k_is)
  (case n_Split_many => k_is)
  (case n_Split_of => k_is)
  (case mka_Parting => k_is)
  (case mkb_Parting => k_is)
  (case mkc_Parting => k_is)
  (case mkd_Parting => k_is)
  (case mka_Buy => k_is)
  (case mkb_Buy => k_is)
  (case mkc_Buy => k_is)
  (case mkd_Buy => k_is)
  (case mka_Sell => k_is)
  (case mkb_Sell => k_is)
  (case mkc_Sell => k_is)
  (case mkd_Sell => k_is)
  (case mka_Gift => k_is)
  (case mkb_Gift => k_is)
  (case mkc_Gift => k_is)
  (case mkd_Gift => k_is)
  (case mka_Give => k_is)
  (case mkb_Give => k_is)
  (case mkc_Give => k_is)
  (case mkd_Give => k_is)
  (case mka_Split => k_is)
  (case mkb_Split => k_is)
  (case mkc_Split => k_is)
  (case mkd_Split => k_is)
  (case mea_Buy_word => k_is)
  (case meb_Buy_word => k_is)
  (case mea_Sell_word => k_is)
  (case meb_Sell_word => k_is)
  (case mea_Gift_word => k_is)
  (case meb_Gift_word => k_is)
  (case mea_Give_word => k_is)
  (case meb_Give_word => k_is)
  (case mea_Split_word => k_is)
  (case meb_Split_word => k_is)
  (case mea_Parting_word => k_is)
  (case meb_Parting_word => k_is)
  (case mea_Buy_told => k_is)
  (case meb_Buy_told => k_is)
  (case mea_Sell_told => k_is)
  (case meb_Sell_told => k_is)
  (case mea_Gift_told => k_is)
  (case meb_Gift_told => k_is)
  (case mea_Give_told => k_is)
  (case meb_Give_told => k_is)
  (case mea_Split_told => k_is)
  (case meb_Split_told => k_is)
  (case mea_Parting_told => k_is)
  (case meb_Parting_told => k_is)
  (case cfa_Entry___init__ => k_is)
  (case cfb_Entry___init__ => k_is)
  (case cfc_Entry___init__ => k_is)
  (case lamc => exact rfl)
  (case lamC => kernel_rfl)
