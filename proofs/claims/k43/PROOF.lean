import PyProof.Rows.All
import Wide.All
import OpenK.AllK
import Wide.FinOn
import Lean
import PyProof.EqAt
import PyProof.EqKinds
import PyProof.NeKinds
import PyProof.TupleCall
import PySem.Challenge.RW_lotledger_k43_split_and_joined
set_option Elab.async false
set_option linter.all false
set_option maxRecDepth 100000
set_option maxHeartbeats 4000000
namespace L2
open PySem PySem.Spec PyProof.Rows
abbrev Key := Sum Int Str
def keyIs : Key → Value → Bool
  | .inl k, v => Value.isInt k v
  | .inr x, v => Value.isStrOf x v
def keyH (w : World) : Key → Int
  | .inl k => hashInt k
  | .inr x => hashStr w x
theorem keyIs_shape : ∀ {k : Key} {v : Value}, keyIs k v = true → (∃ i t, k = Sum.inl i ∧ v = Value.int i t) ∨ (∃ x t, k = Sum.inr x ∧ v = Value.str x t)
  | .inl i, v, h => by
    obtain ⟨t, e⟩ := Value.isInt_shape (k := i) (v := v) h
    exact .inl ⟨i, t, rfl, e⟩
  | .inr x, v, h => by
    obtain ⟨t, e⟩ := Value.isStrOf_shape (x := x) (v := v) h
    exact .inr ⟨x, t, rfl, e⟩
theorem key_ll (a b : Int) : decide ((Sum.inl a : Key) = Sum.inl b) = (a == b) := by
  by_cases e : a = b
  · subst e; simp
  · have h : ¬ (Sum.inl a : Key) = Sum.inl b := fun q => e (Sum.inl.inj q)
    rw [decide_eq_false h]
    exact (beq_eq_false_iff_ne.mpr e).symm
theorem key_rr (a b : Str) : decide ((Sum.inr a : Key) = Sum.inr b) = decide (a = b) := by
  by_cases e : a = b
  · subst e; simp
  · have h : ¬ (Sum.inr a : Key) = Sum.inr b := fun q => e (Sum.inr.inj q)
    rw [decide_eq_false h, decide_eq_false e]
theorem key_lr (a : Int) (b : Str) : decide ((Sum.inl a : Key) = Sum.inr b) = false := decide_eq_false (fun q => nomatch q)
theorem key_rl (a : Str) (b : Int) : decide ((Sum.inr a : Key) = Sum.inl b) = false := decide_eq_false (fun q => nomatch q)
def mixKind (prog : Program) (w : World) : PySem.KeyKind prog w Key where
  is := keyIs
  hash := keyH w
  inj := fun v a b ha hb => by
    rcases keyIs_shape ha with ⟨i, t, rfl, rfl⟩ | ⟨x, t, rfl, rfl⟩
    · rcases keyIs_shape hb with ⟨j, u, rfl, e⟩ | ⟨y, u, rfl, e⟩
      · injection e with e1 _; rw [e1]
      · exact nomatch e
    · rcases keyIs_shape hb with ⟨j, u, rfl, e⟩ | ⟨y, u, rfl, e⟩
      · exact nomatch e
      · injection e with e1 _; rw [e1]
  byValue := fun k v h => by
    rcases keyIs_shape h with ⟨i, t, rfl, rfl⟩ | ⟨x, t, rfl, rfl⟩ <;> rfl
  pyHash := fun hv h => by
    rcases keyIs_shape hv with ⟨i, t, rfl, rfl⟩ | ⟨x, t, rfl, rfl⟩
    · exact wpAny_pyHash_int h
    · exact wpAny_pyHash_str h
  eqBool := fun hu hv h => by
    rcases keyIs_shape hu with ⟨i, t, rfl, rfl⟩ | ⟨x, t, rfl, rfl⟩
    · rcases keyIs_shape hv with ⟨j, u, rfl, rfl⟩ | ⟨y, u, rfl, rfl⟩
      · rw [key_ll] at h; exact wpAny_eqBool_int h
      · rw [key_lr] at h; exact SeqAt.EqAt.int_str i t y u _ _ _ _ h
    · rcases keyIs_shape hv with ⟨j, u, rfl, rfl⟩ | ⟨y, u, rfl, rfl⟩
      · rw [key_rl] at h; exact SeqAt.EqAt.str_int x t j u _ _ _ _ h
      · rw [key_rr] at h; exact wpAny_eqBool_str h
  «strs» := fun k x t v h => by
    rcases keyIs_shape h with ⟨i, u, rfl, e⟩ | ⟨y, u, rfl, e⟩
    · exact nomatch e
    · injection e with e1 _
      subst e1
      cases v <;> rfl
end L2
namespace L2
open PySem PySem.Spec PyProof.Rows
inductive V where
  | non | bl (b : Bool) | int (i : Int) | str (x : Str) | byt (b : Array UInt8) | flt (b : UInt64) | ref (a : Addr) | ty (n : String)
  deriving DecidableEq
def RelV : V → Value → Prop
  | .non, u => u = Value.none
  | .bl b, u => u = Value.bool b
  | .int i, u => ∃ t, u = Value.int i t
  | .str x, u => ∃ t, u = Value.str x t
  | .byt b, u => ∃ t, u = Value.bytes b t
  | .flt b, u => ∃ t, u = Value.float b t
  | .ref a, u => u = Value.ref a
  | .ty n, u => u = Value.type n
abbrev Vals : List V → List Value → Prop := Paired RelV
theorem Vals.length {xs : List V} {us : List Value} (r : Vals xs us) : xs.length = us.length := Paired.length r
theorem Vals.get : ∀ {xs : List V} {us : List Value} {i : Nat} {x : V}, Vals xs us → xs[i]? = some x → ∃ u, us[i]? = some u ∧ RelV x u
  | _, _, _, _, .nil, e => by simp at e
  | _, _, 0, _, .cons r _, e => by simp at e; subst e; exact ⟨_, rfl, r⟩
  | _, _, i + 1, x, .cons _ t, e => by
    obtain ⟨u, h1, h2⟩ := Vals.get (i := i) (x := x) t (by simpa using e)
    exact ⟨u, by simpa using h1, h2⟩
theorem Vals.set {x : V} {u : Value} (r : RelV x u) : ∀ {xs : List V} {us : List Value} (i : Nat), Vals xs us → Vals (xs.set i x) (us.set i u)
  | _, _, _, .nil => .nil
  | _, _, 0, .cons _ t => .cons r t
  | _, _, i + 1, .cons q t => .cons q (Vals.set r i t)
theorem Vals.append : ∀ {xs ys : List V} {us ws : List Value}, Vals xs us → Vals ys ws → Vals (xs ++ ys) (us ++ ws)
  | _, _, _, _, .nil, s => s
  | _, _, _, _, .cons r t, s => .cons r (Vals.append t s)
theorem Vals.take : ∀ {xs : List V} {us : List Value} (n : Nat), Vals xs us → Vals (xs.take n) (us.take n)
  | _, _, 0, _ => .nil
  | _, _, _ + 1, .nil => .nil
  | _, _, n + 1, .cons r t => .cons r (Vals.take n t)
theorem Vals.drop : ∀ {xs : List V} {us : List Value} (n : Nat), Vals xs us → Vals (xs.drop n) (us.drop n)
  | _, _, 0, r => r
  | _, _, _ + 1, .nil => .nil
  | _, _, n + 1, .cons _ t => Vals.drop n t
theorem Vals.none_of : ∀ {xs : List V} {us : List Value} {i : Nat}, Vals xs us → xs[i]? = none → us[i]? = none := fun {xs us i} r e => by
  have h1 := r.length
  have h2 : xs.length ≤ i := List.getElem?_eq_none_iff.mp e
  exact List.getElem?_eq_none_iff.mpr (by omega)
def RelO : Option V → Option Value → Prop
  | some v, some u => RelV v u
  | none, none => True
  | _, _ => False
def KV {κ : Type} : List (κ × V) → List (κ × Value) → Prop := Paired fun (p : κ × V) (q : κ × Value) => p.1 = q.1 ∧ RelV p.2 q.2
def kV : Key → V
  | .inl i => .int i
  | .inr x => .str x
inductive HO where
  | lst (xs : List V)
  | tup (xs : List V)
  | dK (kvs : List (Key × V)) | dT (kvs : List (List Key × V))
  | set (S : Int → Bool) (n : Nat)
  | ins (C dx : Addr) (fs : List (Str × V))
  | own (x : Addr)
  | xd (fs : List (Str × V))
  | met (f x : Addr)
  | rng (lo hi : Int)
  | frz (o : Obj) (u : HO)
  | tbl (ps : Array Value)
  | ext (φ : Heap → Prop)
abbrev Hp := Addr → Option HO
def upd (H : Hp) (a : Addr) (o : HO) : Hp := fun b => if b = a then some o else H b
theorem upd_same {H : Hp} {a : Addr} {o : HO} : upd H a o a = some o := by unfold upd; rw [if_pos rfl]
theorem upd_ne {H : Hp} {a b : Addr} {o : HO} (h : b ≠ a) : upd H a o b = H b := by unfold upd; rw [if_neg h]
theorem ne_of_none {H : Hp} {a b : Addr} {o : HO} (h : H a = some o) (h' : H b = none) : a ≠ b := by
  intro e; subst e; rw [h] at h'; cases h'
section
variable (P : Program) (w : World)
def ObjOk (H : Hp) (h : Heap) (a : Addr) : HO → Prop
  | .lst xs => xs.length ≤ sizeLine ∧ ∃ (its : List Value) (n : Nat), Vals xs its ∧ h.get? a = some { cls := .type "list", data := .seq its.toArray n }
  | .tup xs => xs.length ≤ sizeLine ∧ ∃ its : List Value, Vals xs its ∧ IsTup h a its.toArray
  | .dK kvs => kvs.length ≤ sizeLine ∧ (a == sysModules) = false ∧ ∃ vs, KV kvs vs ∧ h.DictOf (mixKind P w) a vs
  | .dT kvs => kvs.length ≤ sizeLine ∧ (a == sysModules) = false ∧ ∃ xs : List (List Key × Addr × Value),
      Paired (fun (p : List Key × V) (q : List Key × Addr × Value) => p.1 = q.1 ∧ H q.2.1 = some (.tup (p.1.map kV)) ∧ RelV p.2 q.2.2) kvs xs ∧
      ∃ o es ep, h.get? a = some o ∧ o.ExactDict ∧ o.data = .dict es ep ∧ es.toList = xs.map (entryOfKey (tupleKind (mixKind P w))) ∧ (xs.map (·.1)).Nodup
  | .set S n => h.SetOf (intKind P w) a S n
  | .ins C dx fs => H dx = some (.own a) ∧ fs.length ≤ 1000 ∧ dx ≠ a ∧ h.get? a = some (PySem.W.instObj C dx) ∧
      ∃ mA, h.Ns1 dx mA ∧ (∀ f, RelO (fs.lookup f) (mA f)) ∧ PySem.Within mA (fs.map (·.1))
  | .own _ => ∃ o, h.get? a = some o
  | .xd fs => ∃ mA, h.Ns1 a mA ∧ ∀ f, RelO (fs.lookup f) (mA f)
  | .rng lo hi => ∃ t u v, h.get? a = some { cls := .type "range", data := .fields #[.int lo t, .int hi u, .int 1 v] }
  | .frz o u => h.get? a = some o ∧ ObjOk H h a u
  | .tbl ps => h.get? a = some { cls := .none, data := .fields ps }
  | .met f x => h.get? a = some (PySem.W.methodObj (.ref f) (.ref x))
  | .ext φ => φ h ∧ (∃ o, h.get? a = some o) ∧ ∀ h1 h2 : Heap, φ h1 → (∀ o, h1.get? a = some o → h2.get? a = some o) → φ h2
def HOk (H : Hp) (h : Heap) : Prop := ∀ a o, H a = some o → ObjOk P w H h a o
end
section
variable {P : Program} {w : World} {H H' : Hp} {h h' : Heap} {a : Addr} {o : HO}
theorem ObjOk.lt (x : ObjOk P w H h a o) : a < h.objs.size := by
  cases o with
  | lst xs => obtain ⟨_, _, _, _, e⟩ := x; exact Heap.lt_size e
  | tup xs => obtain ⟨_, _, _, p⟩ := x; exact p.lt
  | dK kvs => obtain ⟨_, _, _, _, o, _, _, e, _⟩ := x; exact Heap.lt_size e
  | dT kvs => obtain ⟨_, _, _, _, o, _, _, e, _⟩ := x; exact Heap.lt_size e
  | set S n => obtain ⟨o, _, _, _, e, _⟩ := x; exact Heap.lt_size e
  | ins C dx fs => obtain ⟨_, _, _, e, _⟩ := x; exact Heap.lt_size e
  | own y => obtain ⟨_, e⟩ := x; exact Heap.lt_size e
  | xd fs => obtain ⟨_, ⟨_, _, _, e, _⟩, _⟩ := x; exact Heap.lt_size e
  | rng lo hi => obtain ⟨_, _, _, e⟩ := x; exact Heap.lt_size e
  | frz ob u => obtain ⟨e, _⟩ := x; exact Heap.lt_size e
  | tbl ps => exact Heap.lt_size (show h.get? a = some _ from x)
  | met f y => exact Heap.lt_size (show h.get? a = some _ from x)
  | ext φ => obtain ⟨_, ⟨_, e⟩, _⟩ := x; exact Heap.lt_size e
theorem Paired.mapP {α β : Type} {F G : α → β → Prop} : ∀ {l₁ : List α} {l₂ : List β}, Paired F l₁ l₂ → (∀ a b, F a b → G a b) → Paired G l₁ l₂
  | _, _, .nil, _ => .nil
  | _, _, .cons r t, f => .cons (f _ _ r) (Paired.mapP t f)
theorem ObjOk.stay (x : ObjOk P w H h a o) (k : ∀ b u, (b = a ∨ H b = some (.own a)) → h.get? b = some u → h'.get? b = some u)
    (ho : ∀ b, H b = some (.own a) → H' b = some (.own a)) (ht : ∀ b xs, H b = some (.tup xs) → H' b = some (.tup xs)) : ObjOk P w H' h' a o := by
  induction o with
  | lst xs => obtain ⟨z, its, n, r, e⟩ := x; exact ⟨z, its, n, r, k _ _ (.inl rfl) e⟩
  | tup xs => obtain ⟨z, its, r, ob, e, c⟩ := x; exact ⟨z, its, r, ob, k _ _ (.inl rfl) e, c⟩
  | dK kvs => obtain ⟨z, y, vs, r, ob, es, ep, e, c⟩ := x; exact ⟨z, y, vs, r, ob, es, ep, k _ _ (.inl rfl) e, c⟩
  | dT kvs =>
    obtain ⟨z, y, xs, r, ob, es, ep, e, c⟩ := x
    exact ⟨z, y, xs, Paired.mapP r fun p q z => ⟨z.1, ht _ _ z.2.1, z.2.2⟩, ob, es, ep, k _ _ (.inl rfl) e, c⟩
  | set S n => obtain ⟨ob, es, ep, t, e, c⟩ := x; exact ⟨ob, es, ep, t, k _ _ (.inl rfl) e, c⟩
  | ins C dx fs =>
    obtain ⟨d, z, ne, e, mA, ⟨od, es, ep, e2, c⟩, r⟩ := x
    exact ⟨ho _ d, z, ne, k _ _ (.inl rfl) e, mA, ⟨od, es, ep, k _ _ (.inr d) e2, c⟩, r⟩
  | own y => obtain ⟨ob, e⟩ := x; exact ⟨ob, k _ _ (.inl rfl) e⟩
  | xd fs => obtain ⟨mA, ⟨od, es, ep, e, c⟩, r⟩ := x; exact ⟨mA, ⟨od, es, ep, k _ _ (.inl rfl) e, c⟩, r⟩
  | rng lo hi => obtain ⟨t, u, v, e⟩ := x; exact ⟨t, u, v, k _ _ (.inl rfl) e⟩
  | frz ob u ih => obtain ⟨e, q⟩ := x; exact ⟨k _ _ (.inl rfl) e, ih q⟩
  | tbl ps =>
    have e : h.get? a = some { cls := .none, data := .fields ps } := x
    show h'.get? a = some { cls := .none, data := .fields ps }
    exact k a _ (.inl rfl) e
  | met f y =>
    have e : h.get? a = some (PySem.W.methodObj (.ref f) (.ref y)) := x
    show h'.get? a = some (PySem.W.methodObj (.ref f) (.ref y))
    exact k a _ (.inl rfl) e
  | ext φ => obtain ⟨p, ⟨o, e⟩, st⟩ := x; exact ⟨st _ _ p fun o q => k _ _ (.inl rfl) q, ⟨o, k _ _ (.inl rfl) e⟩, st⟩
theorem HOk.lt (x : HOk P w H h) (e : H a = some o) : a < h.objs.size := (x a o e).lt
theorem HOk.fresh (x : HOk P w H h) (e : h.objs.size ≤ a) : H a = none := by
  cases q : H a with
  | none => rfl
  | some u => exact absurd (Nat.lt_of_lt_of_le (x.lt q) e) (Nat.lt_irrefl _)
theorem HOk.kept (x : HOk P w H h) (k : ∀ b u, h.get? b = some u → h'.get? b = some u) : HOk P w H h' := fun a o e =>
  (x a o e).stay (fun b u _ q => k b u q) (fun _ q => q) fun _ _ q => q
theorem HOk.laid (x : HOk P w H h) (k : ∀ b u, h.get? b = some u → h'.get? b = some u) (hp : h.objs.size ≤ a) (new : ObjOk P w (upd H a o) h' a o) : HOk P w (upd H a o) h' := fun b u e => by
  have hn := x.fresh hp
  by_cases hb : b = a
  · subst hb; rw [upd_same] at e; cases e; exact new
  · rw [upd_ne hb] at e
    exact (x b u e).stay (fun c v _ q => k c v q) (fun c q => by rw [upd_ne (ne_of_none q hn)]; exact q) fun c xs q => by rw [upd_ne (ne_of_none q hn)]; exact q
end
def Rd (H : Hp) (a : Addr) (u : HO) : Prop := H a = some u ∨ ∃ o, H a = some (.frz o u)
theorem Rd.of {H : Hp} {a : Addr} {u : HO} (h : H a = some u) : Rd H a u := .inl h
theorem Rd.ok {P : Program} {w : World} {H : Hp} {h : Heap} {a : Addr} {u : HO} (r : Rd H a u) (x : HOk P w H h) : ObjOk P w H h a u := by
  rcases r with r | ⟨o, r⟩
  · exact x a u r
  · obtain ⟨_, q⟩ := x a _ r
    exact q
def Mut : Option HO → Prop
  | some (.lst _) => True
  | some (.dK _) => True
  | some (.dT _) => True
  | some (.set _ _) => True
  | some (.ins _ _ _) => True
  | some (.ext _) => True
  | _ => False
section
variable {P : Program} {w : World} {H : Hp} {h h' : Heap} {x e : Addr} {o' : HO}
theorem HOk.write (ok : HOk P w H h) (mu : Mut (H x)) (he : e = x ∨ H e = some (.own x)) (k : ∀ b u, b ≠ e → h.get? b = some u → h'.get? b = some u) (heo : ∃ u, h'.get? e = some u)
    (new : ObjOk P w (upd H x o') h' x o') : HOk P w (upd H x o') h' := fun b u q => by
  have nown : ∀ c y, H c = some (.own y) → c ≠ x := fun c y r z => by subst z; rw [r] at mu; exact mu
  have ntup : ∀ c xs, H c = some (.tup xs) → c ≠ x := fun c xs r z => by subst z; rw [r] at mu; exact mu
  by_cases hb : b = x
  · subst hb; rw [upd_same] at q; cases q; exact new
  · rw [upd_ne hb] at q
    by_cases hbe : b = e
    · have q' : H b = some (.own x) := by
        rcases he with z | z
        · exact absurd (hbe.trans z) hb
        · rw [hbe]; exact z
      rw [q] at q'; cases q'
      obtain ⟨v, hv⟩ := heo
      exact ⟨v, by rw [hbe]; exact hv⟩
    · refine (ok b u q).stay (fun c v hc r => k c v ?_ r) (fun c r => by rw [upd_ne (nown c b r)]; exact r) fun c xs r => by rw [upd_ne (ntup c xs r)]; exact r
      rcases hc with rfl | hc
      · exact hbe
      · rintro rfl
        rcases he with z | z
        · exact nown c b hc z
        · rw [hc] at z; cases z; exact hb rfl
end
structure Un (fs ex : List Addr) (H H' : Hp) (h h' : Heap) : Prop where
  keep : ∀ b o, h.get? b = some o → H b = none → b ∉ fs → b ∉ ex → h'.get? b = some o
  slot : ∀ b o, h.get? b = some o → H b = none → b ∈ fs → b ∉ ex → ∃ sl, h'.get? b = some { o with slots := sl }
  free : ∀ b o, h.get? b = some o → H b = none → b ∉ ex → H' b = none
  there : ∀ b o, h.get? b = some o → b ∉ ex → ∃ o', h'.get? b = some o'
  tups : ∀ b xs, H b = some (.tup xs) → H' b = some (.tup xs)
  frzs : ∀ b o u, H b = some (.frz o u) → H' b = some (.frz o u)
  tbls : ∀ b ps, H b = some (.tbl ps) → ∃ more, H' b = some (.tbl (ps ++ more))
section
variable {fs fs' ex ex' : List Addr} {H H1 H2 : Hp} {h h1 h2 h' : Heap} {a x e : Addr} {o : HO}
theorem Un.any (u : Un fs ex H H1 h h1) {b : Addr} {ob : Obj} (q : h.get? b = some ob) (n : H b = none) (hx : b ∉ ex) : ∃ sl, h1.get? b = some { ob with slots := sl } := by
  by_cases hb : b ∈ fs
  · exact u.slot b ob q n hb hx
  · exact ⟨ob.slots, u.keep b ob q n hb hx⟩
theorem Un.trans (a : Un fs ex H H1 h h1) (b : Un fs ex H1 H2 h1 h2) : Un fs ex H H2 h h2 where
  keep := fun c ob q n hc hx => b.keep c ob (a.keep c ob q n hc hx) (a.free c ob q n hx) hc hx
  slot := fun c ob q n hc hx => by
    obtain ⟨sl, e1⟩ := a.slot c ob q n hc hx
    obtain ⟨sl', e2⟩ := b.slot c _ e1 (a.free c ob q n hx) hc hx
    exact ⟨sl', e2⟩
  free := fun c ob q n hx => by
    obtain ⟨o', e1⟩ := a.there c ob q hx
    exact b.free c o' e1 (a.free c ob q n hx) hx
  there := fun c ob q hx => by
    obtain ⟨o', e1⟩ := a.there c ob q hx
    exact b.there c o' e1 hx
  tups := fun c xs q => b.tups c xs (a.tups c xs q)
  frzs := fun c ob xs q => b.frzs c ob xs (a.frzs c ob xs q)
  tbls := fun c ps q => by
    obtain ⟨m1, e1⟩ := a.tbls c ps q
    obtain ⟨m2, e2⟩ := b.tbls c _ e1
    exact ⟨m1 ++ m2, by rw [e2, Array.append_assoc]⟩
theorem Un.kept (k : ∀ b u, h.get? b = some u → h'.get? b = some u) : Un fs ex H H h h' :=
  ⟨fun b ob q _ _ _ => k b ob q, fun b ob q _ _ _ => ⟨ob.slots, k b ob q⟩, fun _ _ _ n _ => n, fun b ob q _ => ⟨ob, k b ob q⟩, fun _ _ q => q, fun _ _ _ q => q, fun _ ps q => ⟨#[], by rw [q]; simp⟩⟩
theorem Un.refl : Un fs ex H H h h := Un.kept fun _ _ q => q
theorem Un.laid (k : ∀ b u, h.get? b = some u → h'.get? b = some u) (hp : h.objs.size ≤ a) (hn : H a = none) : Un fs ex H (upd H a o) h h' where
  keep := fun b u q _ _ _ => k b u q
  slot := fun b u q _ _ _ => ⟨u.slots, k b u q⟩
  free := fun b u q n _ => by rw [upd_ne (Nat.ne_of_lt (Nat.lt_of_lt_of_le (Heap.lt_size q) hp))]; exact n
  there := fun b u q _ => ⟨u, k b u q⟩
  tups := fun b xs q => by rw [upd_ne (ne_of_none q hn)]; exact q
  frzs := fun b u xs q => by rw [upd_ne (ne_of_none q hn)]; exact q
  tbls := fun b ps q => ⟨#[], by rw [upd_ne (ne_of_none q hn), q]; simp⟩
theorem Un.write (mu : Mut (H x)) (he : e = x ∨ H e = some (.own x)) (k : ∀ b u, b ≠ e → h.get? b = some u → h'.get? b = some u) (heo : ∃ u, h'.get? e = some u) : Un fs ex H (upd H x o) h h' := by
  have hx : ∀ b, H b = none → b ≠ x := fun b n z => by subst z; rw [n] at mu; exact mu
  have hb : ∀ b, H b = none → b ≠ e := fun b n z => by
    subst z
    rcases he with r | r
    · exact hx b n r
    · rw [n] at r; cases r
  have hm : ∀ b u, H b = some u → ¬ Mut (some u) → b ≠ x := fun b u q nm z => by subst z; rw [q] at mu; exact nm mu
  refine ⟨fun b u q n _ _ => k b u (hb b n) q, fun b u q n _ _ => ⟨u.slots, k b u (hb b n) q⟩, fun b u q n _ => by rw [upd_ne (hx b n)]; exact n, fun b u q _ => ?_,
    fun b xs q => by rw [upd_ne (hm b _ q fun z => z)]; exact q, fun b u xs q => by rw [upd_ne (hm b _ q fun z => z)]; exact q, fun b ps q => ⟨#[], by rw [upd_ne (hm b _ q fun z => z), q]; simp⟩⟩
  by_cases hbe : b = e
  · subst hbe; exact heo
  · exact ⟨u, k b u hbe q⟩
theorem Un.mono (u : Un fs ex H H1 h h1) (hs : ∀ b ∈ fs, b ∈ fs') (hx : ∀ b ∈ ex, b ∈ ex') : Un fs' ex' H H1 h h1 :=
  ⟨fun b ob q n hb he => u.keep b ob q n (fun z => hb (hs b z)) fun z => he (hx b z), fun _ _ q n _ he => u.any q n fun z => he (hx _ z), fun b ob q n he => u.free b ob q n fun z => he (hx b z), fun b ob q he => u.there b ob q fun z => he (hx b z), u.tups, u.frzs, u.tbls⟩
end
def trk (h : Heap) (H : Hp) : List Addr := (List.range h.objs.size).filter fun a => (H a).isSome
def hidT (h : Heap) (H : Hp) : Heap := PySem.W.hideAll h (trk h H)
theorem hidT_size (h : Heap) (H : Hp) : (hidT h H).objs.size = h.objs.size := PySem.W.hideAll_size _ _
theorem hidT_get {h : Heap} {H : Hp} {b : Addr} {o : Obj} (e : h.get? b = some o) (n : H b = none) : (hidT h H).get? b = some o :=
  PySem.W.hideAll_get _ e fun hm => by
    have q : (H b).isSome = true := (List.mem_filter.mp hm).2
    rw [n] at q; simp at q
theorem of_hidT {h : Heap} {H : Hp} {b : Addr} {o : Obj} (e : (hidT h H).get? b = some o) : h.get? b = some o ∧ H b = none := by
  have e' : h.get? b = some o := PySem.W.of_hideAll (trk h H) e
  refine ⟨e', ?_⟩
  cases q : H b with
  | none => rfl
  | some x =>
    have hm : b ∈ trk h H := List.mem_filter.mpr ⟨List.mem_range.mpr (Heap.lt_size e'), by simp [q]⟩
    have z : (hidT h H).get? b = none := PySem.W.hideAll_none (trk h H) hm
    rw [z] at e; cases e
def allNews (g h : Heap) (L : Addr) : List (Addr × Obj) := (List.range h.objs.size).filterMap fun a => if a = L ∨ (g.get? a).isSome = true then none else (h.get? a).map fun o => (a, o)
def rest (g h : Heap) (L d : Addr) : List (Addr × Obj) := (allNews g h L).filter fun p => decide (p.1 ≠ d)
end L2
namespace L2
open PySem PySem.Spec PyProof.Rows
structure Mod (K : PySem.W.Frag) (mg : Str → Option Value) (base : Heap) : Prop where
  kin : K.In base
  glob : base.Ns mainGlobals mg
  blt : ∃ mb, base.Ns builtinsNs mb ∧ ∀ x : Str, x ≠ "__name__" → mb x = bootBuiltins x
  nolimit : base.NoLimit
structure Cx where
  prog : Program
  w : World
  K : PySem.W.Frag
  mg : Str → Option Value
  base : Heap
  A : Around
  N : List Str
  s₀ : Shared
  H₀ : Hp
  env : Env
  outer : List Env
  stack : List Env
  ex : List Addr
  fn : Str → Bool
  calm : Bool
  pn : List (Addr × Obj)
  xe : Value → Shared → Prop
def frs (l : List Env) : List Addr := l.filterMap (·.frame)
abbrev Cx.fs (X : Cx) : List Addr := frs X.outer
def Vis (sc : Scope) (x : Str) : Prop := sc.names.lookup x = some .local ∨ sc.names.lookup x = some .cell ∨ sc.names.lookup x = some .free
def Loc (sc : Scope) (x : Str) : Prop := sc.names.lookup x = some .local ∨ sc.names.lookup x = some .cell
def Look (env : Env) (h : Heap) (m : Str → Option Value) (x : Str) (u : Value) : Prop :=
  (env.kindOf x = some .local ∧ m x = some u) ∨ ((env.kindOf x = some .cell ∨ env.kindOf x = some .free) ∧ ∃ c, env.cells.lookup x = some c ∧ h.IsCell c (some u))
structure Cx.Ok (X : Cx) : Prop where
  mod : Mod X.K X.mg X.base
  kind : X.env.scope.kind = .function
  glob : X.env.globals = mainGlobals
  blt : X.env.builtins = builtinsNs
  above : X.s₀.heap.objs.size ≤ X.env.locals
  inj : ∀ x y c, X.env.cells.lookup x = some c → X.env.cells.lookup y = some c → x = y
  has : ∀ x, (X.env.kindOf x = some .cell ∨ X.env.kindOf x = some .free) → ∃ c, X.env.cells.lookup x = some c
  cab : ∀ x c, X.fn x = true → X.env.cells.lookup x = some c → X.s₀.heap.objs.size ≤ c
  hd : X.calm = true → X.A.handled = none
  frames : X.A.frames = some X.stack
  stk : X.stack = X.outer ∨ (X.stack = X.env :: X.outer ∧ X.env.frame = some X.env.locals)
  exf : ∀ b ∈ X.ex, b ≠ X.env.locals ∧ ∀ x c, X.env.cells.lookup x = some c → c ≠ b
  bs : ∀ b o, X.base.get? b = some o → X.s₀.heap.get? b = some o ∧ X.H₀ b = none
  bsz : X.base.objs.size ≤ X.s₀.heap.objs.size
  noex : ∀ b o, X.base.get? b = some o → b ∉ X.ex
  exfs : ∀ b ∈ X.ex, b ∉ X.fs
  funs : X.s₀.heap.FunFrames X.base X.outer
  frf : ∀ b ∈ X.fs, X.H₀ b = none
structure Inv (X : Cx) (pins : List (Addr × Obj)) (σ : List (Option V)) (H : Hp) (s : Shared) : Prop where
  ok : X.Ok
  os : s.os = X.s₀.os
  bare : AllBare s.gens
  base : Un X.fs X.ex X.H₀ H X.s₀.heap s.heap
  loc : ∃ m, s.heap.Ns X.env.locals m ∧ ∀ (i : Nat) (x : Str) (v : V), X.N[i]? = some x → σ[i]? = some (some v) → Vis X.env.scope x → ∃ u, RelV v u ∧ Look X.env s.heap m x u
  cell : ∀ x c, X.env.cells.lookup x = some c → ∃ v, s.heap.IsCell c v
  free : H X.env.locals = none
  freeC : ∀ x c, X.env.cells.lookup x = some c → H c = none
  pin : ∀ p ∈ X.pn ++ pins, s.heap.get? p.1 = some p.2 ∧ H p.1 = none ∧ p.1 ≠ X.env.locals ∧ p.1 ∉ X.fs ∧ ∀ v, p.2.data ≠ .cell v
  hok : HOk X.prog X.w H s.heap
  len : σ.length = X.N.length
section
variable {X : Cx} {pins : List (Addr × Obj)} {σ : List (Option V)} {H H' : Hp} {s : Shared} {h' : Heap}
theorem Cx.Ok.nofr (ok : X.Ok) {b : Addr} {o : Obj} (e : X.base.get? b = some o) : b ∉ X.fs := fun hb => by
  have := (ok.funs.mem hb).1
  rw [e] at this; cases this
theorem Inv.bs (I : Inv X pins σ H s) : ∀ b o, X.base.get? b = some o → s.heap.get? b = some o ∧ H b = none := fun b o e =>
  ⟨I.base.keep b o (I.ok.bs b o e).1 (I.ok.bs b o e).2 (I.ok.nofr e) (I.ok.noex b o e), I.base.free b o (I.ok.bs b o e).1 (I.ok.bs b o e).2 (I.ok.noex b o e)⟩
theorem Inv.bk (I : Inv X pins σ H s) : ∀ b o, X.base.get? b = some o → s.heap.get? b = some o := fun b o e => (I.bs b o e).1
theorem Inv.mod (I : Inv X pins σ H s) : Mod X.K X.mg X.base := I.ok.mod
theorem Inv.kIn (I : Inv X pins σ H s) : X.K.In s.heap := I.ok.mod.kin.keeps I.bk
theorem Inv.nolimit (I : Inv X pins σ H s) : s.heap.NoLimit := I.ok.mod.nolimit.keeps I.bk
theorem Inv.fr (I : Inv X pins σ H s) : ∃ m, Fr X.base X.env.locals s.heap m :=
  let ⟨m, hn, _⟩ := I.loc
  ⟨m, hn, I.bk, Nat.le_trans I.ok.bsz I.ok.above⟩
theorem Inv.lt (I : Inv X pins σ H s) : X.env.locals < s.heap.objs.size := let ⟨_, hn, _⟩ := I.loc; hn.lt
theorem Inv.sz (I : Inv X pins σ H s) : X.s₀.heap.objs.size ≤ s.heap.objs.size := Nat.le_trans I.ok.above (Nat.le_of_lt I.lt)
theorem Inv.nofs (I : Inv X pins σ H s) {a : Addr} (h : s.heap.objs.size ≤ a) : a ∉ X.fs := fun hb => by
  obtain ⟨_, o, ho, _⟩ := I.ok.funs.mem hb
  exact absurd (Nat.lt_of_lt_of_le (Heap.lt_size ho) (Nat.le_trans I.sz h)) (Nat.lt_irrefl _)
theorem Inv.cne (I : Inv X pins σ H s) : ∀ x c, X.env.cells.lookup x = some c → c ≠ X.env.locals := fun x c e z => by
  obtain ⟨v, o, ho, hd⟩ := I.cell x c e
  obtain ⟨m, ⟨o', es, ep, ho', hd', _⟩, _⟩ := I.loc
  rw [z, ho'] at ho; cases ho; rw [hd'] at hd; cases hd
theorem Inv.funs (I : Inv X pins σ H s) : s.heap.FunFrames X.base X.outer := by
  have all : ∀ (l : List Env), (∀ b ∈ frs l, b ∈ X.fs) → X.s₀.heap.FunFrames X.base l → s.heap.FunFrames X.base l := by
    intro l
    induction l with
    | nil => intro _ _; trivial
    | cons env r ih =>
      intro hs hl
      obtain ⟨hk, ⟨L, o, hf, hn, ho, hd⟩, hr⟩ := hl
      have hL : L ∈ X.fs := hs L (by unfold frs; rw [List.filterMap_cons, hf]; exact List.mem_cons_self)
      obtain ⟨sl, e⟩ := I.base.slot L o ho (I.ok.frf L hL) hL fun z => I.ok.exfs L z hL
      exact ⟨hk, ⟨L, _, hf, hn, e, hd⟩, ih (fun b hb => hs b (by unfold frs; rw [List.filterMap_cons, hf]; exact List.mem_cons_of_mem _ hb)) hr⟩
  exact all X.outer (fun _ hb => hb) I.ok.funs
theorem Inv.stack (I : Inv X pins σ H s) : s.heap.FunFrames X.base X.stack := by
  rcases I.ok.stk with e | ⟨e, hf⟩
  · rw [e]; exact I.funs
  · rw [e]
    obtain ⟨m, hn, _⟩ := I.loc
    refine .cons (by rw [I.ok.kind]; decide) hf hn ?_ I.funs
    exact Heap.get?_none_of_le (Nat.le_trans I.ok.bsz I.ok.above)
theorem Inv.stkSub (I : Inv X pins σ H s) : ∀ b ∈ frs X.stack, b ∈ X.env.locals :: X.fs := fun b hb => by
  rcases I.ok.stk with e | ⟨e, hf⟩
  · rw [e] at hb; exact List.mem_cons_of_mem _ hb
  · rw [e] at hb
    unfold frs at hb
    rw [List.filterMap_cons, hf] at hb
    exact hb
theorem Inv.stkFree (I : Inv X pins σ H s) : ∀ b ∈ frs X.stack, H b = none := fun b hb => by
  rcases List.mem_cons.mp (I.stkSub b hb) with e | hb
  · rw [e]; exact I.free
  · obtain ⟨_, o, ho, _⟩ := I.ok.funs.mem hb
    exact I.base.free b o ho (I.ok.frf b hb) fun z => I.ok.exfs b z hb
theorem Inv.step {g' : Array GenState} {t' : Nat} {d' : Drawn} {ch : List Addr} (I : Inv X pins σ H s)
    (hch : ∀ b ∈ ch, (b ∈ X.ex ∨ X.s₀.heap.objs.size ≤ b) ∧ b ≠ X.env.locals ∧ (∀ x c, X.env.cells.lookup x = some c → c ≠ b) ∧ ∀ p ∈ X.pn ++ pins, p.1 ≠ b)
    (keep : ∀ b o, b ≠ X.env.locals → b ∉ X.fs → b ∉ ch → s.heap.get? b = some o → H b = none → h'.get? b = some o)
    (slot : ∀ b o, b ≠ X.env.locals → b ∈ X.fs → b ∉ ch → s.heap.get? b = some o → H b = none → ∃ sl, h'.get? b = some { o with slots := sl }) (free : ∀ b o, b ∉ ch → s.heap.get? b = some o → H b = none → H' b = none)
    (there : ∀ b o, b ∉ ch → s.heap.get? b = some o → ∃ o', h'.get? b = some o')
    (tups : ∀ b xs, H b = some (.tup xs) → H' b = some (.tup xs)) (frzs : ∀ b o u, H b = some (.frz o u) → H' b = some (.frz o u)) (tbls : ∀ b ps, H b = some (.tbl ps) → ∃ more, H' b = some (.tbl (ps ++ more)))
    (ns : ∀ m, s.heap.Ns X.env.locals m → h'.Ns X.env.locals m) (hok : HOk X.prog X.w H' h') (hg : AllBare g') :
    Inv X pins σ H' { s with heap := h', gens := g', drawn := d', toks := t' } := by
  have neL : ∀ b o, X.s₀.heap.get? b = some o → b ≠ X.env.locals := fun b o e => Nat.ne_of_lt (Nat.lt_of_lt_of_le (Heap.lt_size e) I.ok.above)
  have neC : ∀ b o, X.s₀.heap.get? b = some o → b ∉ X.ex → b ∉ ch := fun b o e hx hb => by
    rcases (hch b hb).1 with z | z
    · exact hx z
    · exact absurd (Nat.lt_of_lt_of_le (Heap.lt_size e) z) (Nat.lt_irrefl _)
  have cellK : ∀ x c, X.env.cells.lookup x = some c → ∀ v, s.heap.IsCell c v → h'.IsCell c v := fun x c e v ⟨o, ho, hd⟩ => by
    have nch : c ∉ ch := fun z => (hch c z).2.2.1 x c e rfl
    by_cases hc : c ∈ X.fs
    · obtain ⟨sl, q⟩ := slot c o (I.cne x c e) hc nch ho (I.freeC x c e)
      exact ⟨_, q, hd⟩
    · exact ⟨o, keep c o (I.cne x c e) hc nch ho (I.freeC x c e), hd⟩
  refine ⟨I.ok, I.os, hg, ⟨fun b o e n hb hx => ?_, fun b o e n hb hx => ?_, fun b o e n hx => ?_, fun b o e hx => ?_, fun b xs e => tups b xs (I.base.tups b xs e), fun b o xs e => frzs b o xs (I.base.frzs b o xs e), fun b ps e => ?_⟩, ?_, fun x c e => ?_, ?_, fun x c e => ?_, fun p hp => ?_, hok, I.len⟩
  · exact keep b o (neL b o e) hb (neC b o e hx) (I.base.keep b o e n hb hx) (I.base.free b o e n hx)
  · obtain ⟨sl, e1⟩ := I.base.slot b o e n hb hx
    obtain ⟨sl', e2⟩ := slot b _ (neL b o e) hb (neC b o e hx) e1 (I.base.free b o e n hx)
    exact ⟨sl', e2⟩
  · obtain ⟨o', e1⟩ := I.base.there b o e hx
    exact free b o' (neC b o e hx) e1 (I.base.free b o e n hx)
  · obtain ⟨o', e1⟩ := I.base.there b o e hx
    exact there b o' (neC b o e hx) e1
  · obtain ⟨m1, e1⟩ := I.base.tbls b ps e
    obtain ⟨m2, e2⟩ := tbls b _ e1
    exact ⟨m1 ++ m2, by rw [e2, Array.append_assoc]⟩
  · obtain ⟨m, hn, hl⟩ := I.loc
    refine ⟨m, ns m hn, fun i x v e1 e2 e3 => ?_⟩
    obtain ⟨u, r, l⟩ := hl i x v e1 e2 e3
    refine ⟨u, r, ?_⟩
    rcases l with l | ⟨k, c, e, z⟩
    · exact .inl l
    · exact .inr ⟨k, c, e, cellK x c e _ z⟩
  · obtain ⟨v, z⟩ := I.cell x c e
    exact ⟨v, cellK x c e v z⟩
  · obtain ⟨m, ⟨o, _, _, ho, _⟩, _⟩ := I.loc
    exact free _ o (fun z => (hch _ z).2.1 rfl) ho I.free
  · obtain ⟨v, o, ho, hd⟩ := I.cell x c e
    exact free c o (fun z => (hch c z).2.2.1 x c e rfl) ho (I.freeC x c e)
  · obtain ⟨e, n, ne, nf, d⟩ := I.pin p hp
    have nch : p.1 ∉ ch := fun z => (hch p.1 z).2.2.2 p hp rfl
    exact ⟨keep p.1 p.2 ne nf nch e n, free p.1 p.2 nch e n, ne, nf, d⟩
theorem Inv.un {t' : Nat} (I : Inv X pins σ H s) (u : Un X.fs [] H H' s.heap h') (hok : HOk X.prog X.w H' h') : Inv X pins σ H' { s with heap := h', toks := t' } := by
  obtain ⟨m, ⟨o, es, ep, ho, r⟩, _⟩ := id I.loc
  obtain ⟨sl, hL⟩ := u.any ho I.free (by simp)
  exact I.step (g' := s.gens) (d' := s.drawn) (ch := []) (fun _ z => nomatch z) (fun b o _ hb _ e n => u.keep b o e n hb (by simp)) (fun b o _ hb _ e n => u.slot b o e n hb (by simp)) (fun b o _ e n => u.free b o e n (by simp)) (fun b o _ e => u.there b o e (by simp)) u.tups u.frzs u.tbls (fun m' hm => by
    obtain ⟨o', es', ep', ho', r'⟩ := hm
    rw [ho] at ho'; cases ho'
    exact ⟨_, es', ep', hL, r'⟩) hok I.bare
theorem Inv.call {g' : Array GenState} {t' : Nat} {d' : Drawn} {ch : List Addr} (I : Inv X pins σ H s) (u : Un (frs X.stack) ch H H' s.heap h') (hok : HOk X.prog X.w H' h') (hg : AllBare g')
    (hch : ∀ b ∈ ch, (b ∈ X.ex ∨ X.s₀.heap.objs.size ≤ b) ∧ b ≠ X.env.locals ∧ (∀ x c, X.env.cells.lookup x = some c → c ≠ b) ∧ ∀ p ∈ X.pn ++ pins, p.1 ≠ b) :
    Inv X pins σ H' { s with heap := h', gens := g', drawn := d', toks := t' } := by
  obtain ⟨m, ⟨o, es, ep, ho, r⟩, _⟩ := id I.loc
  obtain ⟨sl, hL⟩ := u.any ho I.free fun z => (hch _ z).2.1 rfl
  exact I.step (ch := ch) hch (fun b o hL hb hc e n => u.keep b o e n (fun z => (List.mem_cons.mp (I.stkSub b z)).elim hL hb) hc) (fun b o _ _ hc e n => u.any e n hc) (fun b o hc e n => u.free b o e n hc) (fun b o hc e => u.there b o e hc) u.tups u.frzs u.tbls (fun m' hm => by
    obtain ⟨o', es', ep', ho', r'⟩ := hm
    rw [ho] at ho'; cases ho'
    exact ⟨_, es', ep', hL, r'⟩) hok hg
theorem Inv.turned {t' : Nat} {it : Addr} (I : Inv X pins σ H s) (k : ∀ b o, b ≠ it → s.heap.get? b = some o → h'.get? b = some o) (hn : H it = none) (hL : it ≠ X.env.locals)
    (h1 : it ∈ X.ex ∨ X.s₀.heap.objs.size ≤ it) (h2 : ∀ x c, X.env.cells.lookup x = some c → c ≠ it) (h3 : ∀ p ∈ X.pn ++ pins, p.1 ≠ it) : Inv X pins σ H { s with heap := h', toks := t' } := by
  have nit : ∀ b u, H b = some u → b ≠ it := fun b u e z => by rw [z, hn] at e; cases e
  refine I.step (g' := s.gens) (d' := s.drawn) (ch := [it]) (fun b hb => ?_) (fun b o _ _ hc e _ => k b o (fun z => hc (by simp [z])) e) (fun b o _ _ hc e _ => ⟨o.slots, k b o (fun z => hc (by simp [z])) e⟩) (fun _ _ _ _ n => n)
    (fun b o hc e => ⟨o, k b o (fun z => hc (by simp [z])) e⟩) (fun _ _ e => e) (fun _ _ _ e => e) (fun b ps e => ⟨#[], by rw [e]; simp⟩) (fun m hm => ?_) (fun b u e => ?_) I.bare
  · have e : b = it := by simpa using hb
    subst e
    exact ⟨h1, hL, h2, h3⟩
  · obtain ⟨o, es, ep, ho, r⟩ := hm
    exact ⟨o, es, ep, k _ o (Ne.symm hL) ho, r⟩
  · refine (I.hok b u e).stay (fun c v hc q => k c v ?_ q) (fun _ q => q) fun _ _ q => q
    rcases hc with z | z
    · rw [z]; exact nit b u e
    · exact nit c _ z
theorem Inv.tok (I : Inv X pins σ H s) (t : Nat) : Inv X pins σ H { s with toks := t } := I.un (h' := s.heap) (t' := t) Un.refl I.hok
theorem Inv.kept {t' : Nat} (I : Inv X pins σ H s) (k : ∀ b u, s.heap.get? b = some u → h'.get? b = some u) : Inv X pins σ H { s with heap := h', toks := t' } := I.un (Un.kept k) (I.hok.kept k)
theorem Inv.laid {a : Addr} {o : HO} {t' : Nat} (I : Inv X pins σ H s) (k : ∀ b u, s.heap.get? b = some u → h'.get? b = some u) (hp : s.heap.objs.size ≤ a) (new : ObjOk X.prog X.w (upd H a o) h' a o) :
    Inv X pins σ (upd H a o) { s with heap := h', toks := t' } := I.un (Un.laid k hp (I.hok.fresh hp)) (I.hok.laid k hp new)
theorem Inv.write {x e : Addr} {o : HO} {t' : Nat} (I : Inv X pins σ H s) (mu : Mut (H x)) (he : e = x ∨ H e = some (.own x)) (k : ∀ b u, b ≠ e → s.heap.get? b = some u → h'.get? b = some u) (heo : ∃ u, h'.get? e = some u)
    (new : ObjOk X.prog X.w (upd H x o) h' x o) : Inv X pins σ (upd H x o) { s with heap := h', toks := t' } := I.un (Un.write mu he k heo) (I.hok.write mu he k heo new)
theorem Inv.pins_of {pins' : List (Addr × Obj)} (I : Inv X pins σ H s) (h : ∀ p ∈ pins', s.heap.get? p.1 = some p.2 ∧ H p.1 = none ∧ p.1 ≠ X.env.locals ∧ p.1 ∉ X.fs ∧ ∀ v, p.2.data ≠ .cell v) : Inv X pins' σ H s :=
  ⟨I.ok, I.os, I.bare, I.base, I.loc, I.cell, I.free, I.freeC, fun p hp => (List.mem_append.mp hp).elim (fun z => I.pin p (List.mem_append_left _ z)) (h p), I.hok, I.len⟩
theorem nodup_ix {N : List Str} (hN : N.Nodup) {i j : Nat} {x : Str} (a : N[i]? = some x) (b : N[j]? = some x) : i = j := by
  obtain ⟨h1, e1⟩ := List.getElem?_eq_some_iff.mp a
  obtain ⟨h2, e2⟩ := List.getElem?_eq_some_iff.mp b
  exact (List.getElem_inj hN).mp (e1.trans e2.symm)
theorem store_ok2 {M : Model} {A : Around} {E : Value → Shared → Prop} {i : Nat} {x : Str} {v : V} {u : Value} {Q : Unit → Shared → Prop} (I : Inv X pins σ H s) (hN : X.N.Nodup) (hi : X.N[i]? = some x) (hx : Loc X.env.scope x) (r : RelV v u)
    (h : ∀ s', Inv X pins (σ.set i (some v)) H s' → (∃ a, Heap.SameBut a s.heap s'.heap ∧ (a = X.env.locals ∨ X.env.cells.lookup x = some a)) → Q () s') (hf : X.fn x = true ∨ X.env.scope.names.lookup x = some .local := by first | exact .inl rfl | exact .inr rfl | assumption) : wpAny M A (storeName X.env x u) Q E s := by
  obtain ⟨m, hn, hl⟩ := id I.loc
  have hcls : (X.env.scope.kind == .class || (X.env.scope.kind == .module && X.env.locals != X.env.globals)) = false := by rw [I.ok.kind]; rfl
  have hiσ : i < σ.length := by rw [I.len]; exact (List.getElem?_eq_some_iff.mp hi).1
  have cne := I.cne
  have tracked : ∀ {a : Addr} {h' : Heap}, (∃ o, s.heap.get? a = some o ∧ H a = none) → Heap.SameBut a s.heap h' → HOk X.prog X.w H h' := fun {a h'} ha hs b ob e => by
    obtain ⟨_, _, hfree⟩ := ha
    refine (I.hok b ob e).stay (fun c w' hc q => (hs.2 c ?_).trans q) (fun _ q => q) fun _ _ q => q
    rintro rfl
    rcases hc with rfl | hc
    · rw [hfree] at e; cases e
    · rw [hfree] at hc; cases hc
  rcases hx with hk | hk
  · refine wpAny_storeName_local hk hn (fun h' hn' hs => ?_) hcls
    obtain ⟨oL, _, _, hoL, _⟩ := id hn
    refine h _ ⟨I.ok, I.os, I.bare, ⟨fun b o e n hb hx => ?_, fun b o e n hb hx => ?_, I.base.free, fun b o e hx => ?_, I.base.tups, I.base.frzs, I.base.tbls⟩, ⟨_, hn', fun j y v' e1 e2 e3 => ?_⟩, fun y c e => ?_, I.free, I.freeC, fun p hp => ?_, tracked ⟨oL, hoL, I.free⟩ hs, by simpa using I.len⟩ ⟨_, hs, .inl rfl⟩
    · exact (hs.2 b (Nat.ne_of_lt (Nat.lt_of_lt_of_le (Heap.lt_size e) I.ok.above))).trans (I.base.keep b o e n hb hx)
    · obtain ⟨sl, e1⟩ := I.base.slot b o e n hb hx
      exact ⟨sl, (hs.2 b (Nat.ne_of_lt (Nat.lt_of_lt_of_le (Heap.lt_size e) I.ok.above))).trans e1⟩
    · obtain ⟨o', e1⟩ := I.base.there b o e hx
      exact ⟨o', (hs.2 b (Nat.ne_of_lt (Nat.lt_of_lt_of_le (Heap.lt_size e) I.ok.above))).trans e1⟩
    · by_cases hj : j = i
      · subst hj
        rw [hi] at e1; cases e1
        rw [List.getElem?_set_self hiσ] at e2
        cases e2
        exact ⟨u, r, .inl ⟨hk, by simp⟩⟩
      · rw [List.getElem?_set_ne (Ne.symm hj)] at e2
        obtain ⟨u', r', q⟩ := hl j y v' e1 e2 e3
        refine ⟨u', r', ?_⟩
        rcases q with ⟨k, e⟩ | ⟨k, c, e, z⟩
        · refine .inl ⟨k, ?_⟩
          have : y ≠ x := fun e => hj (nodup_ix hN e1 (e ▸ hi))
          simp [this, e]
        · exact .inr ⟨k, c, e, z.sameBut hs (cne y c e)⟩
    · obtain ⟨w', z⟩ := I.cell y c e
      exact ⟨w', z.sameBut hs (cne y c e)⟩
    · obtain ⟨e, n, ne, nf, d⟩ := I.pin p hp
      exact ⟨(hs.2 p.1 ne).trans e, n, ne, nf, d⟩
  · have hfn : X.fn x = true := by
      rcases hf with z | z
      · exact z
      · rw [z] at hk; cases hk
    obtain ⟨c, hc⟩ := I.ok.has x (.inl hk)
    obtain ⟨w', z⟩ := I.cell x c hc
    refine wpAny_storeName_cell I.ok.kind hk hc z (fun h' hc' hs => ?_)
    obtain ⟨oc, hoc, hocd⟩ := id z
    refine h { s with heap := h' } ⟨I.ok, I.os, I.bare, ⟨fun b o e n hb hx => ?_, fun b o e n hb hx => ?_, I.base.free, fun b o e hx => ?_, I.base.tups, I.base.frzs, I.base.tbls⟩, ⟨m, hn.sameBut hs (Ne.symm (cne x c hc)), fun j y v' e1 e2 e3 => ?_⟩, fun y c' e => ?_, I.free, I.freeC, fun p hp => ?_, tracked ⟨oc, hoc, I.freeC x c hc⟩ hs, by simpa using I.len⟩ ⟨c, hs, .inr hc⟩
    · exact (hs.2 b (Nat.ne_of_lt (Nat.lt_of_lt_of_le (Heap.lt_size e) (I.ok.cab x c hfn hc)))).trans (I.base.keep b o e n hb hx)
    · obtain ⟨sl, e1⟩ := I.base.slot b o e n hb hx
      exact ⟨sl, (hs.2 b (Nat.ne_of_lt (Nat.lt_of_lt_of_le (Heap.lt_size e) (I.ok.cab x c hfn hc)))).trans e1⟩
    · obtain ⟨o', e1⟩ := I.base.there b o e hx
      exact ⟨o', (hs.2 b (Nat.ne_of_lt (Nat.lt_of_lt_of_le (Heap.lt_size e) (I.ok.cab x c hfn hc)))).trans e1⟩
    · by_cases hj : j = i
      · subst hj
        rw [hi] at e1; cases e1
        rw [List.getElem?_set_self hiσ] at e2
        cases e2
        exact ⟨u, r, .inr ⟨.inl hk, c, hc, hc'⟩⟩
      · rw [List.getElem?_set_ne (Ne.symm hj)] at e2
        obtain ⟨u', r', q⟩ := hl j y v' e1 e2 e3
        refine ⟨u', r', ?_⟩
        rcases q with q | ⟨k, c', e, z'⟩
        · exact .inl q
        · refine .inr ⟨k, c', e, z'.sameBut hs ?_⟩
          rintro rfl
          exact hj (nodup_ix hN e1 (I.ok.inj _ _ _ e hc ▸ hi))
    · by_cases hcc : c' = c
      · subst hcc; exact ⟨_, hc'⟩
      · obtain ⟨w2, z2⟩ := I.cell y c' e
        exact ⟨w2, z2.sameBut hs hcc⟩
    · obtain ⟨e, n, ne, nf, d⟩ := I.pin p hp
      refine ⟨(hs.2 p.1 ?_).trans e, n, ne, nf, d⟩
      intro q
      rw [q, hoc] at e
      have q' : oc = p.2 := Option.some.inj e
      exact d w' (by rw [← q']; exact hocd)
theorem store_ok {M : Model} {A : Around} {E : Value → Shared → Prop} {i : Nat} {x : Str} {v : V} {u : Value} {Q : Unit → Shared → Prop} (I : Inv X pins σ H s) (hN : X.N.Nodup) (hi : X.N[i]? = some x) (hx : Loc X.env.scope x) (r : RelV v u)
    (h : ∀ s', Inv X pins (σ.set i (some v)) H s' → Q () s') (hf : X.fn x = true ∨ X.env.scope.names.lookup x = some .local := by first | exact .inl rfl | exact .inr rfl | assumption) : wpAny M A (storeName X.env x u) Q E s :=
  store_ok2 I hN hi hx r (fun s' I' _ => h s' I') hf
theorem Inv.call' {s' : Shared} {ch : List Addr} (I : Inv X pins σ H s) (ho : s'.os = s.os) (u : Un (frs X.stack) ch H H' s.heap s'.heap) (hok : HOk X.prog X.w H' s'.heap) (hg : AllBare s'.gens)
    (hch : ∀ b ∈ ch, (b ∈ X.ex ∨ X.s₀.heap.objs.size ≤ b) ∧ b ≠ X.env.locals ∧ (∀ x c, X.env.cells.lookup x = some c → c ≠ b) ∧ ∀ p ∈ X.pn ++ pins, p.1 ≠ b) : Inv X pins σ H' s' := by
  obtain ⟨h', g', d', t', o'⟩ := s'
  have e : o' = s.os := ho
  subst e
  exact I.call (g' := g') (t' := t') (d' := d') u hok hg hch
end
abbrev XK := Value → Option Addr → Hp → Prop
abbrev St := List (Option V)
abbrev VK := V → Hp → Prop
abbrev TE := St → Hp → VK → Prop
abbrev TT := St → Hp → (Bool → Hp → Prop) → Prop
abbrev TA := St → Hp → (List V → Hp → Prop) → Prop
structure Ends where
  nx : St → Hp → Prop
  rt : VK
  bk : St → Hp → Prop := fun _ _ => False
  ct : St → Hp → Prop := fun _ _ => False
abbrev TS := Ends → St → Hp → Prop
def EP (X : Cx) (pins : List (Addr × Obj)) (σ : St) (Q : VK) (u : Value) (s' : Shared) : Prop := ∃ v H', Inv X pins σ H' s' ∧ RelV v u ∧ Q v H'
def TP (X : Cx) (pins : List (Addr × Obj)) (σ : St) (Q : Bool → Hp → Prop) (b : Bool) (s' : Shared) : Prop := ∃ H', Inv X pins σ H' s' ∧ Q b H'
def AP (X : Cx) (pins : List (Addr × Obj)) (σ : St) (Q : List V → Hp → Prop) (us : List Value) (s' : Shared) : Prop := ∃ vs H', Inv X pins σ H' s' ∧ Vals vs us ∧ Q vs H'
def SP (X : Cx) (pins : List (Addr × Obj)) (D : Ends) (f : Flow) (s' : Shared) : Prop :=
  match f with
  | .next => ∃ σ' H', Inv X pins σ' H' s' ∧ D.nx σ' H'
  | .brk => ∃ σ' H', Inv X pins σ' H' s' ∧ D.bk σ' H'
  | .cont => ∃ σ' H', Inv X pins σ' H' s' ∧ D.ct σ' H'
  | .ret u => ∃ v σ' H', Inv X pins σ' H' s' ∧ RelV v u ∧ D.rt v H'
def PE (X : Cx) (e : Expr) (t : TE) : Prop :=
  ∀ (pins : List (Addr × Obj)) (s : Shared) (σ : St) (H : Hp) (Q : VK), Inv X pins σ H s → t σ H Q → wpAny (model X.prog X.w) X.A (eval e X.env) (EP X pins σ Q) X.xe s
def PT (X : Cx) (e : Expr) (t : TT) : Prop :=
  ∀ (pins : List (Addr × Obj)) (s : Shared) (σ : St) (H : Hp) (Q : Bool → Hp → Prop), Inv X pins σ H s → t σ H Q → wpAny (model X.prog X.w) X.A (isTrue e X.env (eval e X.env)) (TP X pins σ Q) X.xe s
def PW (X : Cx) (e : Expr) (t : TT) : Prop :=
  ∀ (whole : Sem Value) (pins : List (Addr × Obj)) (s : Shared) (σ : St) (H : Hp) (Q : Bool → Hp → Prop), Inv X pins σ H s → t σ H Q → wpAny (model X.prog X.w) X.A (isTrue e X.env whole) (TP X pins σ Q) X.xe s
theorem PW.pt {X : Cx} {e : Expr} {t : TT} (h : PW X e t) : PT X e t := h _
def PA (X : Cx) (es : List Expr) (t : TA) : Prop :=
  ∀ (pos : Pos) (pins : List (Addr × Obj)) (s : Shared) (σ : St) (H : Hp) (Q : List V → Hp → Prop), Inv X pins σ H s → t σ H Q → wpAny (model X.prog X.w) X.A (spliced (backTo pos (starEach es X.env))) (AP X pins σ Q) X.xe s
def PS (X : Cx) (st : Stmt) (t : TS) : Prop :=
  ∀ (pins : List (Addr × Obj)) (s : Shared) (σ : St) (H : Hp) (D : Ends), Inv X pins σ H s → t D σ H → wpAny (model X.prog X.w) X.A (exec st X.env) (SP X pins D) X.xe s
def PSs (X : Cx) (st : List Stmt) (t : TS) : Prop :=
  ∀ (pins : List (Addr × Obj)) (s : Shared) (σ : St) (H : Hp) (D : Ends), Inv X pins σ H s → t D σ H → wpAny (model X.prog X.w) X.A (execs st X.env) (SP X pins D) X.xe s
theorem thn {α : Type} {t : Sem α} {Q Q' : α → Shared → Prop} {M : Model} {A : Around} {E : Value → Shared → Prop} {s : Shared} (h : wpAny M A t Q E s) (hQ : ∀ a s, Q a s → Q' a s) : wpAny M A t Q' E s := wpAny_mono h hQ fun _ _ x => x
end L2
namespace L2
open PySem PySem.Spec PyProof.Rows
section
variable {X : Cx}
def tVar (i : Nat) : TE := fun σ H Q => ∃ v, σ[i]? = some (some v) ∧ Q v H
def tC (v : V) : TE := fun _ H Q => Q v H
theorem pe_var {i : Nat} {x : Str} {pos : Pos} (hN : X.N[i]? = some x) (hv : Vis X.env.scope x) (hd : (x == ("__debug__" : Str)) = false := by decide) (hcd : (x == ("__classdict__" : Str)) = false := by decide) : PE X (.Name x pos) (tVar i) := by
  intro pins s σ H Q I h
  obtain ⟨v, e, h⟩ := h
  obtain ⟨m, hn, hl⟩ := I.loc
  obtain ⟨u, r, l⟩ := hl i x v hN e hv
  have fin : EP X pins σ Q u s := ⟨v, H, I, r, h⟩
  rcases l with ⟨hk, hm⟩ | ⟨hk, c, hc, hcell⟩
  · exact wpAny_Name (wpAny_loadName_local I.ok.kind hk hn hm fin) hd
  · rcases hk with hk | hk
    · exact wpAny_Name (wpAny_loadName_cell I.ok.kind hk hc hcell fin) hd
    · exact wpAny_Name (wpAny_loadName_free I.ok.kind hk hc hcell fin hcd) hd
theorem pe_int {i j pos} : PE X (.Constant (.int i) j pos) (tC (.int i)) := fun _ _ _ H _ I h => wpAny_Constant_int ⟨.int i, H, I.tok _, ⟨_, rfl⟩, h⟩
theorem pe_bl {b j pos} : PE X (.Constant (.bool b) j pos) (tC (.bl b)) := fun _ _ _ H _ I h => Constant_bool ⟨.bl b, H, I, rfl, h⟩
theorem pe_str {x j pos} : PE X (.Constant (.str x) j pos) (tC (.str x)) := fun _ _ _ H _ I h => Calls.Constant_str ⟨.str x, H, I.tok _, ⟨_, rfl⟩, h⟩
def Gl (X : Cx) (x : Str) : Prop := X.env.kindOf x = some .globalImplicit
theorem ld_glob {E : Value → Shared → Prop} {pins : List (Addr × Obj)} {s : Shared} {σ : St} {H : Hp} {x : Str} {u : Value} {pos : Pos} {Q : Value → Shared → Prop} (I : Inv X pins σ H s) (hg : Gl X x) (hm : X.mg x = some u) (h : Q u s)
    (hd : (x == ("__debug__" : Str)) = false := by decide) : wpAny (model X.prog X.w) X.A (eval (.Name x pos) X.env) Q E s :=
  Calls.Name_function_global I.ok.kind hg (Calls.loadGlobal_global (by rw [I.ok.glob]; exact I.mod.glob.keeps I.bk) hm h) hd
theorem ld_blt {E : Value → Shared → Prop} {pins : List (Addr × Obj)} {s : Shared} {σ : St} {H : Hp} {x : Str} {u : Value} {pos : Pos} {Q : Value → Shared → Prop} (I : Inv X pins σ H s) (hg : Gl X x) (hm : X.mg x = none) (hv : bootBuiltins x = some u) (h : Q u s)
    (hn : x ≠ "__name__" := by decide) (hd : (x == ("__debug__" : Str)) = false := by decide) : wpAny (model X.prog X.w) X.A (eval (.Name x pos) X.env) Q E s := by
  obtain ⟨mb, h1, h2⟩ := I.mod.blt
  exact Calls.Name_function_global I.ok.kind hg (Calls.loadGlobal_builtin (by rw [I.ok.glob]; exact I.mod.glob.keeps I.bk) hm (by rw [I.ok.blt]; exact h1.keeps I.bk) ((h2 x hn).trans hv) h) hd
theorem pe_glob {x : Str} {v : V} {u : Value} {pos : Pos} (hg : Gl X x) (hm : X.mg x = some u) (r : RelV v u) (hd : (x == ("__debug__" : Str)) = false := by decide) : PE X (.Name x pos) (tC v) :=
  fun _ _ _ H _ I h => ld_glob I hg hm ⟨v, H, I, r, h⟩ hd
theorem pe_bltn {x : Str} {v : V} {u : Value} {pos : Pos} (hg : Gl X x) (hm : X.mg x = none) (hv : bootBuiltins x = some u) (r : RelV v u) (hn : x ≠ "__name__" := by decide) (hd : (x == ("__debug__" : Str)) = false := by decide) : PE X (.Name x pos) (tC v) :=
  fun _ _ _ H _ I h => ld_blt I hg hm hv ⟨v, H, I, r, h⟩ hn hd
variable {a b : Expr} {ta tb : TE} {pos : Pos}
def tB (t : TE) : TT := fun σ H Q => t σ H fun x H1 => ∃ c, x = .bl c ∧ Q c H1
theorem pt_val {e : Expr} {t : TE} (h : PE X e t) (he : ∀ whole, isTrue e X.env whole = (do let v ← whole; standAt e.pos; holding [v] (truthy v)) := by intro _; rfl) : PT X e (tB t) := by
  intro pins s σ H Q I hw
  refine isTrue_plain (thn (h pins s σ H _ I hw) fun v s1 ⟨x, H1, I1, r1, q1⟩ => ?_) (he _)
  obtain ⟨d, rfl, q⟩ := q1
  cases r1
  exact wpAny_truthy_bool ⟨H1, I1, q⟩
variable {tA tB' : TT} {rest : List Expr}
def tAnd (t u : TT) : TT := fun σ H Q => t σ H fun c H1 => if c = true then u σ H1 Q else Q false H1
def tOr (t u : TT) : TT := fun σ H Q => t σ H fun c H1 => if c = true then Q true H1 else u σ H1 Q
def tNot (t : TT) : TT := fun σ H Q => t σ H fun c H1 => Q (!c) H1
theorem pw_or1 (ha : PT X a tA) : PW X (.BoolOp .Or [a] pos) tA := by
  intro wh pins s σ H Q I h
  refine isTrue_or (thn (ha pins s σ H Q I h) fun c s1 e => ?_)
  cases c with
  | false => exact isTrue_or_nil e
  | true => exact e
theorem pw_or (ha : PT X a tA) (hb : PW X (.BoolOp .Or (b :: rest) pos) tB') : PW X (.BoolOp .Or (a :: b :: rest) pos) (tOr tA tB') := by
  intro wh pins s σ H Q I h
  refine isTrue_or (thn (ha pins s σ H _ I h) fun c s1 ⟨H1, I1, q1⟩ => ?_)
  cases c with
  | true => exact ⟨H1, I1, q1⟩
  | false => exact hb wh pins s1 σ H1 Q I1 q1
theorem pt_not (ha : PT X a tA) : PT X (.UnaryOp .Not a pos) (tNot tA) := by
  intro pins s σ H Q I h
  exact isTrue_not (ha pins s σ H (fun c H1 => Q (!c) H1) I h)
def tAndV (ta tb : TE) : TE := fun σ H Q => ta σ H fun x H1 => ∃ c, x = .bl c ∧ if c = true then tb σ H1 Q else Q (.bl false) H1
def tOrV (ta tb : TE) : TE := fun σ H Q => ta σ H fun x H1 => ∃ c, x = .bl c ∧ if c = true then Q (.bl true) H1 else tb σ H1 Q
def tNotV (ta : TE) : TE := fun σ H Q => ta σ H fun x H1 => ∃ c, x = .bl c ∧ Q (.bl (!c)) H1
theorem pe_one {op} {t : TE} (h : PE X a t) : PE X (.BoolOp op [a] pos) t := fun pins s σ H Q I hw => BoolOp_one (h pins s σ H Q I hw)
theorem pe_and (ha : PE X a ta) (hb : PE X (.BoolOp .And (b :: rest) pos) tb) : PE X (.BoolOp .And (a :: b :: rest) pos) (tAndV ta tb) := by
  intro pins s σ H Q I h
  refine BoolOp_and (thn (ha pins s σ H _ I h) fun v s1 ⟨x, H1, I1, r1, q1⟩ => ?_)
  obtain ⟨c, rfl, q1⟩ := q1
  cases r1
  refine wpAny_truthy_bool ?_
  cases c with
  | true => exact hb pins s1 σ H1 Q I1 q1
  | false => exact ⟨.bl false, H1, I1, rfl, q1⟩
theorem pe_not (ha : PE X a ta) : PE X (.UnaryOp .Not a pos) (tNotV ta) := by
  intro pins s σ H Q I h
  refine UnaryOp_ (thn (ha pins s σ H _ I h) fun v s1 ⟨x, H1, I1, r1, q1⟩ => ?_)
  obtain ⟨c, rfl, q1⟩ := q1
  cases r1
  exact not_of (wpAny_truthy_bool ⟨.bl (!c), H1, I1, rfl, q1⟩)
def tIf (t : TT) (ta tb : TE) : TE := fun σ H Q => t σ H fun c H1 => if c = true then ta σ H1 Q else tb σ H1 Q
end
end L2
namespace L2
open PySem PySem.Spec PyProof.Rows
def SqL (K : PySem.W.Frag) (H : Hp) (a : Addr) (xs : List V) : Prop :=
  Rd H a (.lst xs) ∨
    ∃ (o : Obj) (its : Array Value) (n : Nat), K.lookup a = some o ∧ o.cls = .type "list" ∧ o.dict = none ∧ o.data = .seq its n ∧ its.size ≤ sizeLine ∧ Vals xs its.toList
def SqT (K : PySem.W.Frag) (H : Hp) (a : Addr) (xs : List V) : Prop :=
  Rd H a (.tup xs) ∨
    ∃ (o : Obj) (its : Array Value) (n : Nat), K.lookup a = some o ∧ o.cls = .type "tuple" ∧ o.data = .seq its n ∧ its.size ≤ sizeLine ∧ Vals xs its.toList
def absV : Value → Option V
  | .none => some .non
  | .bool b => some (.bl b)
  | .int i _ => some (.int i)
  | .str x _ => some (.str x)
  | .bytes b _ => some (.byt b)
  | .float b _ => some (.flt b)
  | .ref a => some (.ref a)
  | .type n => some (.ty n)
  | _ => none
theorem RelV.abs {x : V} {u : Value} (r : RelV x u) : absV u = some x := by
  cases x with
  | non => cases r; rfl
  | bl _ => cases r; rfl
  | int _ => obtain ⟨t, rfl⟩ := r; rfl
  | str _ => obtain ⟨t, rfl⟩ := r; rfl
  | byt _ => obtain ⟨t, rfl⟩ := r; rfl
  | flt _ => obtain ⟨t, rfl⟩ := r; rfl
  | ref _ => cases r; rfl
  | ty _ => cases r; rfl
theorem RelV.inj {x y : V} {u : Value} (r : RelV x u) (q : RelV y u) : x = y := Option.some.inj (r.abs.symm.trans q.abs)
theorem Vals.inj : ∀ {xs ys : List V} {us : List Value}, Vals xs us → Vals ys us → xs = ys
  | _, _, _, .nil, .nil => rfl
  | _, _, _, .cons r t, .cons r' t' => by rw [r.inj r', Vals.inj t t']
section
variable {X : Cx} {pins : List (Addr × Obj)} {σ : St} {H : Hp} {s : Shared} {a : Addr} {xs ys : List V}
theorem SqL.of {K : PySem.W.Frag} (h : H a = some (.lst xs)) : SqL K H a xs := .inl (.inl h)
theorem SqT.of {K : PySem.W.Frag} (h : H a = some (.tup xs)) : SqT K H a xs := .inl (.inl h)
theorem Inv.list (I : Inv X pins σ H s) (h : SqL X.K H a xs) : ∃ its : List Value, Vals xs its ∧ PlainL s.heap a its.toArray ∧ xs.length ≤ sizeLine := by
  rcases h with h | ⟨o, its, n, hk, hc, hd, hs, hz, r⟩
  · obtain ⟨z, its, n, r, e⟩ := h.ok I.hok
    exact ⟨its, r, ⟨_, n, e, rfl, rfl, rfl⟩, z⟩
  · refine ⟨its.toList, r, ⟨o, n, I.kIn a o hk, hc, hd, by simpa using hs⟩, ?_⟩
    have e := r.length
    simp only [Array.length_toList] at e
    omega
theorem Inv.tuple (I : Inv X pins σ H s) (h : SqT X.K H a xs) : ∃ its : List Value, Vals xs its ∧ IsTup s.heap a its.toArray ∧ xs.length ≤ sizeLine := by
  rcases h with h | ⟨o, its, n, hk, hc, hs, hz, r⟩
  · obtain ⟨z, its, r, p⟩ := h.ok I.hok
    exact ⟨its, r, p, z⟩
  · refine ⟨its.toList, r, ⟨o, I.kIn a o hk, hc, n, by simpa using hs⟩, ?_⟩
    have e := r.length
    simp only [Array.length_toList] at e
    omega
theorem Inv.list_inj (I : Inv X pins σ H s) (h : SqL X.K H a xs) (h' : SqL X.K H a ys) : xs = ys := by
  obtain ⟨its, r, ⟨o, n, e, _, _, d⟩, _⟩ := I.list h
  obtain ⟨its', r', ⟨o', n', e', _, _, d'⟩, _⟩ := I.list h'
  rw [e] at e'; cases e'
  rw [d] at d'
  injection d' with d1 _
  have : its = its' := by simpa using congrArg Array.toList d1
  subst this
  exact r.inj r'
theorem Inv.tuple_inj (I : Inv X pins σ H s) (h : SqT X.K H a xs) (h' : SqT X.K H a ys) : xs = ys := by
  obtain ⟨its, r, ⟨o, e, _, n, d⟩, _⟩ := I.tuple h
  obtain ⟨its', r', ⟨o', e', _, n', d'⟩, _⟩ := I.tuple h'
  rw [e] at e'; cases e'
  rw [d] at d'
  injection d' with d1 _
  have : its = its' := by simpa using congrArg Array.toList d1
  subst this
  exact r.inj r'
end
abbrev Cx.wish (X : Cx) (E : Value → Shared → Prop) : Cx := { X with xe := E }
abbrev Cx.nox (X : Cx) : Cx := X.wish fun _ _ => False
theorem Cx.Ok.wish {X : Cx} (ok : X.Ok) (E : Value → Shared → Prop) : (X.wish E).Ok :=
  ⟨ok.mod, ok.kind, ok.glob, ok.blt, ok.above, ok.inj, ok.has, ok.cab, ok.hd, ok.frames, ok.stk, ok.exf, ok.bs, ok.bsz, ok.noex, ok.exfs, ok.funs, ok.frf⟩
theorem Cx.Ok.unwish {X : Cx} {E : Value → Shared → Prop} (ok : (X.wish E).Ok) : X.Ok :=
  ⟨ok.mod, ok.kind, ok.glob, ok.blt, ok.above, ok.inj, ok.has, ok.cab, ok.hd, ok.frames, ok.stk, ok.exf, ok.bs, ok.bsz, ok.noex, ok.exfs, ok.funs, ok.frf⟩
section
variable {X : Cx} {pins : List (Addr × Obj)} {σ : St} {H : Hp} {s : Shared} {E : Value → Shared → Prop}
theorem Inv.wish (I : Inv X pins σ H s) (E : Value → Shared → Prop) : Inv (X.wish E) pins σ H s := ⟨I.ok.wish E, I.os, I.bare, I.base, I.loc, I.cell, I.free, I.freeC, I.pin, I.hok, I.len⟩
theorem Inv.unwish (I : Inv (X.wish E) pins σ H s) : Inv X pins σ H s := ⟨I.ok.unwish, I.os, I.bare, I.base, I.loc, I.cell, I.free, I.freeC, I.pin, I.hok, I.len⟩
theorem SP.unwish {D : Ends} {f : Flow} {s' : Shared} (h : SP (X.wish E) pins D f s') : SP X pins D f s' := by
  cases f with
  | next => obtain ⟨σ', H', I, q⟩ := h; exact ⟨σ', H', I.unwish, q⟩
  | brk => obtain ⟨σ', H', I, q⟩ := h; exact ⟨σ', H', I.unwish, q⟩
  | cont => obtain ⟨σ', H', I, q⟩ := h; exact ⟨σ', H', I.unwish, q⟩
  | ret u => obtain ⟨v, σ', H', I, r, q⟩ := h; exact ⟨v, σ', H', I.unwish, r, q⟩
theorem PE.nox {e : Expr} {t : TE} (h : PE X.nox e t) : PE X e t := fun pins s σ H Q I hw =>
  wpAny_mono (h pins s σ H Q (I.wish _) hw) (fun _ _ ⟨v, H', I', r, q⟩ => ⟨v, H', I'.unwish, r, q⟩) fun _ _ z => False.elim z
theorem PT.nox {e : Expr} {t : TT} (h : PT X.nox e t) : PT X e t := fun pins s σ H Q I hw =>
  wpAny_mono (h pins s σ H Q (I.wish _) hw) (fun _ _ ⟨H', I', q⟩ => ⟨H', I'.unwish, q⟩) fun _ _ z => False.elim z
theorem PSs.nox {st : List Stmt} {t : TS} (h : PSs X.nox st t) : PSs X st t := fun pins s σ H D I hw =>
  wpAny_mono (h pins s σ H D (I.wish _) hw) (fun _ _ q => q.unwish) fun _ _ z => False.elim z
end
section
variable {X : Cx} {st : Stmt} {rest : List Stmt} {t u : TS} {e : Expr} {te : TE} {pos : Pos}
def tNext : TS := fun D σ H => D.nx σ H
def tSeq (t u : TS) : TS := fun D σ H => t { D with nx := u D } σ H
theorem pss_nil : PSs X [] tNext := fun _ _ σ H _ I h => wpAny_execs_nil ⟨σ, H, I, h⟩
theorem pss_cons (h1 : PS X st t) (h2 : PSs X rest u) : PSs X (st :: rest) (tSeq t u) := by
  intro pins s σ H D I h
  refine wpAny_execs_cons (thn (h1 pins s σ H { D with nx := u D } I h) fun f s1 q => ?_)
  cases f with
  | next =>
    obtain ⟨σ', H', I', q⟩ := q
    exact h2 pins s1 σ' H' D I' q
  | ret v => exact q
  | brk => exact q
  | cont => exact q
theorem pss_one (h1 : PS X st t) : PSs X [st] t := by
  intro pins s σ H D I h
  refine wpAny_execs_cons (thn (h1 pins s σ H D I h) fun f s1 q => ?_)
  cases f with
  | next => exact wpAny_execs_nil q
  | ret v => exact q
  | brk => exact q
  | cont => exact q
def tBreak : TS := fun D σ H => D.bk σ H
def tCont : TS := fun D σ H => D.ct σ H
theorem Inv.quiet {pins : List (Addr × Obj)} {σ : St} {H : Hp} {s : Shared} (I : Inv X pins σ H s) : interactive X.env = false := by simp [interactive, I.ok.kind]
def tDrop (te : TE) : TS := fun D σ H => te σ H fun _ H1 => D.nx σ H1
theorem ps_expr (he : PE X e te) (hs : swapsWith e none pos.line X.env = pure false := by rfl) : PS X (.Expr e pos) (tDrop te) := by
  intro pins s σ H D I h
  exact wpAny_Expr_any (thn (he pins s σ H _ I h) fun v s1 ⟨x, H1, I1, r1, q1⟩ => ⟨σ, H1, I1, q1⟩) I.quiet hs
def tRet (te : TE) : TS := fun D σ H => te σ H D.rt
theorem ps_ret (he : PE X e te) : PS X (.Return (some e) pos) (tRet te) := by
  intro pins s σ H D I h
  exact wpAny_Return_some (thn (he pins s σ H _ I h) fun v s1 ⟨x, H1, I1, r1, q1⟩ => ⟨x, σ, H1, I1, r1, q1⟩)
def tRetN : TS := fun D _ H => D.rt .non H
def tIfS (c : TT) (t u : TS) : TS := fun D σ H => c σ H fun b H1 => if b = true then t D σ H1 else u D σ H1
theorem ps_if {c : Expr} {a b : List Stmt} {tc : TT} (hc : PT X c tc) (ha : PSs X a t) (hb : PSs X b u) : PS X (.If c a b pos) (tIfS tc t u) := by
  intro pins s σ H D I h
  refine wpAny_If (thn (hc pins s σ H _ I h) fun d s1 ⟨H1, I1, q1⟩ => ?_)
  cases d with
  | true => exact ha pins s1 σ H1 D I1 q1
  | false => exact hb pins s1 σ H1 D I1 q1
def tNever : TS := fun _ _ _ => False
end
abbrev TG := V → St → Hp → (St → Hp → Prop) → Prop
abbrev TGs := List V → St → Hp → (St → Hp → Prop) → Prop
def PG (X : Cx) (target : Expr) (t : TG) : Prop :=
  ∀ (pins : List (Addr × Obj)) (s : Shared) (σ : St) (H : Hp) (v : V) (u : Value) (Q : St → Hp → Prop), Inv X pins σ H s → RelV v u → t v σ H Q →
    wpAny (model X.prog X.w) X.A (assign target X.env u) (fun _ s' => ∃ σ' H', Inv X pins σ' H' s' ∧ Q σ' H') X.xe s
def PGs (X : Cx) (ts : List Expr) (t : TGs) : Prop :=
  ∀ (pins : List (Addr × Obj)) (s : Shared) (σ : St) (H : Hp) (vs : List V) (us : List Value) (Q : St → Hp → Prop), Inv X pins σ H s → Vals vs us → t vs σ H Q →
    wpAny (model X.prog X.w) X.A (assignInOrder ((assignEach ts X.env).map (·.2)) us) (fun _ s' => ∃ σ' H', Inv X pins σ' H' s' ∧ Q σ' H') X.xe s
section
variable {X : Cx} {pos : Pos}
def gName (i : Nat) : TG := fun v σ H Q => Q (σ.set i (some v)) H
theorem pg_name {i : Nat} {x : Str} (hN : X.N.Nodup) (hi : X.N[i]? = some x) (hx : Loc X.env.scope x) (hf : X.fn x = true ∨ X.env.scope.names.lookup x = some .local := by first | exact .inl rfl | exact .inr rfl | assumption) : PG X (.Name x pos) (gName i) := by
  intro pins s σ H v u Q I r h
  exact wpAny_assign_Name (store_ok I hN hi hx r (fun s' I' => ⟨_, H, I', h⟩) hf)
def gNil : TGs := fun vs σ H Q => vs = [] ∧ Q σ H
def gCons (t : TG) (u : TGs) : TGs := fun vs σ H Q => ∃ v r, vs = v :: r ∧ t v σ H fun σ' H' => u r σ' H' Q
theorem pgs_nil : PGs X [] gNil := by
  intro pins s σ H vs us Q I r h
  obtain ⟨e, h⟩ := h
  subst e
  cases r
  exact assignInOrder_nil ⟨σ, H, I, h⟩
theorem pgs_cons {e : Expr} {es : List Expr} {t : TG} {u : TGs} (h1 : PG X e t) (h2 : PGs X es u)
    (hs : (assignEach (e :: es) X.env).map (·.2) = assign e X.env :: (assignEach es X.env).map (·.2) := by rfl) : PGs X (e :: es) (gCons t u) := by
  intro pins s σ H vs us Q I r h
  obtain ⟨v, vr, e1, h⟩ := h
  subst e1
  cases r with
  | cons r rr =>
    rw [hs]
    refine assignInOrder_cons (thn (h1 pins s σ H _ _ _ I r h) fun _ s1 ⟨σ1, H1, I1, q1⟩ => ?_)
    exact h2 pins s1 σ1 H1 _ _ Q I1 rr q1
def gTup (K : PySem.W.Frag) (n : Nat) (t : TGs) : TG := fun v σ H Q => ∃ a xs, v = .ref a ∧ SqT K H a xs ∧ xs.length = n ∧ t xs σ H Q
theorem pg_tup {es : List Expr} {k : Nat} {t : TGs} {n : Nat} (hc : X.calm = true) (h : PGs X es t)
    (hn : (assignEach es X.env).length = n := by rfl) (hst : (assignEach es X.env).findIdx? (·.1) = none := by rfl) : PG X (.Tuple es k pos) (gTup X.K n t) := by
  intro pins s σ H v u Q I r hw
  obtain ⟨a, xs, e1, hq, hl, hw⟩ := hw
  subst e1
  cases r
  obtain ⟨its, rv, ht, hz⟩ := I.tuple hq
  refine assign_Tuple_tuple (I.ok.hd hc) ht (by simp [hn, ← hl, rv.length]) hst fun h' hx => ?_
  have I1 : Inv X pins σ H { s with heap := h' } := I.kept (t' := s.toks) fun b o e => hx b o (Nat.ne_of_lt (Heap.lt_size e)) e
  exact h pins _ σ H xs _ Q I1 (by simpa using rv) hw
def tAsg (te : TE) (g : TG) : TS := fun D σ H => te σ H fun x H1 => g x σ H1 D.nx
theorem ps_asg {tg e : Expr} {te : TE} {g : TG} (he : PE X e te) (hg : PG X tg g) (hs : swapsWithSole [tg] e pos.line X.env = pure false := by rfl) (hw : swappedStores [tg] e X.env = pure none := by rfl)
    (h1 : (assignEach [tg] X.env).map (·.2) = [assign tg X.env] := by rfl) : PS X (.Assign [tg] e pos) (tAsg te g) := by
  intro pins s σ H D I h
  refine wpAny_Assign_stores (thn (he pins s σ H _ I h) fun v s1 ⟨x, H1, I1, r1, q1⟩ => ?_) hs hw
  rw [h1]
  exact thn (hg pins s1 σ H1 x v _ I1 r1 q1) fun _ s2 q => q
theorem ps_set {i : Nat} {x : Str} {e : Expr} {te : TE} {pos' : Pos} (hN : X.N.Nodup) (hi : X.N[i]? = some x) (hx : Loc X.env.scope x) (he : PE X e te) (hs : swapsWith e (some (.Name x pos')) pos.line X.env = pure false := by rfl) (hf : X.fn x = true ∨ X.env.scope.names.lookup x = some .local := by first | exact .inl rfl | exact .inr rfl | assumption) :
    PS X (.Assign [.Name x pos'] e pos) (tAsg te (gName i)) := by
  intro pins s σ H D I h
  refine wpAny_Assign_Name (thn (he pins s σ H _ I h) fun v s1 ⟨y, H1, I1, r1, q1⟩ => ?_) hs
  exact store_ok I1 hN hi hx r1 (fun s2 I2 => ⟨_, H1, I2, q1⟩) hf
end
section
variable {X : Cx} {pos : Pos}
def tWhile (c : TT) (tb : TS) : TS := fun D σ H => ∃ W : Nat → St → Hp → Prop, (∃ m, W m σ H) ∧ ∀ m σ H, W m σ H →
  c σ H fun b H1 => if b = true then ∃ N : St → Hp → Prop, (∀ σ' H', N σ' H' → ∃ m', m' < m ∧ W m' σ' H') ∧ tb { D with nx := N, ct := N, bk := D.nx } σ H1 else D.nx σ H1
theorem ps_while {c : Expr} {body : List Stmt} {tc : TT} {tb : TS} (hp : PassesOwn (model X.prog X.w) X.A X.env X.xe) (hc : PT X c tc) (hb : PSs X body tb) : PS X (.While c body [] pos) (tWhile tc tb) := by
  intro pins s σ H D I h
  obtain ⟨W, ⟨m0, w0⟩, turn⟩ := h
  refine wpAny_While (codeAny_whileLoop (fun n s' => ∃ σ' H', Inv X pins σ' H' s' ∧ W n σ' H') ?_ m0 ⟨σ, H, I, w0⟩)
  rintro n s1 ⟨σ1, H1, I1, w1⟩
  refine wpAny_passesOwn hp (thn (hc pins s1 σ1 H1 _ I1 (turn n σ1 H1 w1)) fun b s2 ⟨H2, I2, q2⟩ => ?_)
  cases b with
  | true =>
    obtain ⟨N, hN, q2⟩ := q2
    rw [if_pos rfl]
    refine wpAny_passesOwn hp (thn (hb pins s2 σ1 H2 _ I2 q2) fun f s3 q3 => ?_)
    cases f with
    | next =>
      obtain ⟨σ3, H3, I3, n3⟩ := q3
      obtain ⟨m', hm, w3⟩ := hN σ3 H3 n3
      exact ⟨m', hm, σ3, H3, I3, w3⟩
    | cont =>
      obtain ⟨σ3, H3, I3, n3⟩ := q3
      obtain ⟨m', hm, w3⟩ := hN σ3 H3 n3
      exact ⟨m', hm, σ3, H3, I3, w3⟩
    | brk => exact q3
    | ret v => exact q3
  | false =>
    rw [if_neg Bool.false_ne_true]
    exact wpAny_execs_nil ⟨σ1, H2, I2, q2⟩
end
structure It where
  go : Nat → Hp → Prop
  yld : Nat → Hp → V → Hp → Prop
  stop : Nat → Hp → Prop
def FpOk (X : Cx) (pins : List (Addr × Obj)) (H : Hp) (b : Addr) : Prop :=
  H b = none ∧ b ≠ X.env.locals ∧ b ∉ X.fs ∧ (b ∈ X.ex ∨ X.s₀.heap.objs.size ≤ b) ∧ (∀ x c, X.env.cells.lookup x = some c → c ≠ b) ∧ ∀ p ∈ X.pn ++ pins, p.1 ≠ b
theorem Inv.fpOk {X : Cx} {pins : List (Addr × Obj)} {σ : St} {H H' : Hp} {s : Shared} {b : Addr} (I : Inv X pins σ H s) (hb : s.heap.objs.size ≤ b) (hn : H' b = none) : FpOk X pins H' b := by
  refine ⟨hn, Nat.ne_of_gt (Nat.lt_of_lt_of_le I.lt hb), I.nofs hb, .inr (Nat.le_trans I.sz hb), fun x c e z => ?_, fun p hp z => ?_⟩
  · obtain ⟨v, q⟩ := I.cell x c e
    exact absurd (Nat.lt_of_lt_of_le q.lt (by rw [z]; exact hb)) (Nat.lt_irrefl _)
  · exact absurd (Nat.lt_of_lt_of_le (Heap.lt_size (I.pin p hp).1) (by rw [z]; exact hb)) (Nat.lt_irrefl _)
structure Turn (P : Program) (w : World) (K : PySem.W.Frag) (tg : Expr) (J : It) (fp : List Addr) (it : Addr) (tn : Nat → Heap → Prop) : Prop where
  mem : it ∈ fp
  obj : ∀ i h, tn i h → ∀ b ∈ fp, ∃ o, h.get? b = some o ∧ ∀ v, o.data ≠ .cell v
  keep : ∀ i h h', tn i h → (∀ b ∈ fp, ∀ o, h.get? b = some o → h'.get? b = some o) → tn i h'
  item : ∀ (X : Cx), X.prog = P → X.w = w → X.K = K → X.calm = true → ∀ (i : Nat) (pins : List (Addr × Obj)) (s : Shared) (σ : St) (H : Hp) (E : Value → Shared → Prop), Inv X pins σ H s → (∀ b ∈ fp, FpOk X pins H b) → tn i s.heap → J.go i H →
    wpAny (model P w) X.A (pyNext (.ref it)) (fun r s1 => ∃ u, r = some u ∧
      wpAny (model P w) X.A (letOwnedTupleGo tg (.ref it) u) (fun _ s2 => ∃ x H', Inv X pins σ H' s2 ∧ RelV x u ∧ J.yld i H x H' ∧ tn (i + 1) s2.heap ∧ ∀ b ∈ fp, H' b = none) E s1) E s
  done : ∀ (X : Cx), X.prog = P → X.w = w → X.K = K → X.calm = true → ∀ (i : Nat) (pins : List (Addr × Obj)) (s : Shared) (σ : St) (H : Hp) (E : Value → Shared → Prop), Inv X pins σ H s → (∀ b ∈ fp, FpOk X pins H b) → tn i s.heap → J.stop i H →
    wpAny (model P w) X.A (pyNext (.ref it)) (fun r s1 => r = none ∧ Inv X pins σ H s1) E s
  self : ∀ (A : Around) (i : Nat) (s : Shared) (Q : Value → Shared → Prop) (E : Value → Shared → Prop), tn i s.heap → Q (.ref it) s → wpAny (model P w) A (pyIter (.ref it)) Q E s
abbrev TI := St → Hp → (It → Hp → Prop) → Prop
def PIE (X : Cx) (pins : List (Addr × Obj)) (σ : St) (tg : Expr) (R : It → Hp → Prop) (itv : Value) (s2 : Shared) : Prop :=
  ∃ (it : Addr) (fp : List Addr) (tn : Nat → Heap → Prop) (J : It) (H' : Hp), itv = .ref it ∧ Inv X pins σ H' s2 ∧ Turn X.prog X.w X.K tg J fp it tn ∧ tn 0 s2.heap ∧ (∀ b ∈ fp, FpOk X pins H' b) ∧ R J H'
def PI (X : Cx) (tg iter : Expr) (wi : TI) : Prop :=
  ∀ (pins : List (Addr × Obj)) (s : Shared) (σ : St) (H : Hp) (R : It → Hp → Prop), Inv X pins σ H s → wi σ H R →
    wpAny (model X.prog X.w) X.A (eval iter X.env) (fun v s1 => wpAny (model X.prog X.w) X.A (pyIter v) (PIE X pins σ tg R) X.xe s1) X.xe s
theorem go_of {M : Model} {A : Around} {E : Value → Shared → Prop} {s : Shared} {tg : Expr} {it : Addr} {u : Value} {o : Obj} {n : String} {vs : Array Value} {Q : Unit → Shared → Prop} (ho : s.heap.get? it = some o) (hc : o.cls = .type n) (hd : o.data = .fields vs)
    (hn : ["enumerate", "zip", "dict_itemiterator", "dict_reverseitemiterator", "odict_iterator", "itertools.zip_longest", "itertools.pairwise"].contains n = false) (hQ : Q () s) : wpAny M A (letOwnedTupleGo tg (.ref it) u) Q E s := by
  unfold letOwnedTupleGo
  cases tg <;> first
    | exact wpAny_pure hQ
    | (cases u <;> first
        | exact wpAny_pure hQ
        | (refine wpAny_bind (wpAny_load ho ?_)
           rw [hc, hd]
           show wpAny M A (if (["enumerate", "zip", "dict_itemiterator", "dict_reverseitemiterator", "odict_iterator", "itertools.zip_longest", "itertools.pairwise"].contains n && vs[0]? == some (rawInt _)) = true then _ else _) Q E s
           rw [if_neg (by intro h; rw [hn, Bool.false_and] at h; cases h)]
           exact wpAny_pure hQ))
def Itl (K : PySem.W.Frag) (a : Addr) : It :=
  ⟨fun i H => ∃ xs x, SqL K H a xs ∧ xs[i]? = some x, fun i H x H' => H' = H ∧ ∀ xs, SqL K H a xs → xs[i]? = some x, fun i H => ∃ xs, SqL K H a xs ∧ xs.length ≤ i⟩
def Itt (K : PySem.W.Frag) (a : Addr) : It :=
  ⟨fun i H => ∃ xs x, SqT K H a xs ∧ xs[i]? = some x, fun i H x H' => H' = H ∧ ∀ xs, SqT K H a xs → xs[i]? = some x, fun i H => ∃ xs, SqT K H a xs ∧ xs.length ≤ i⟩
def Itr (lo : Int) (n : Nat) : It := ⟨fun i _ => i < n, fun i H x H' => H' = H ∧ x = .int (lo + i), fun i _ => n ≤ i⟩
theorem turn_list {P : Program} {w : World} {K : PySem.W.Frag} {tg : Expr} (a it : Addr) : Turn P w K tg (Itl K a) [it] it (fun i h => h.IsListIter it a i) where
  mem := by simp
  obj := fun i h st b hb => by
    have e : b = it := by simpa using hb
    subst e
    obtain ⟨o, e, c, d⟩ := st
    exact ⟨o, e, fun v z => by rw [d] at z; cases z⟩
  keep := fun i h h' st k => st.at fun o e => k it (by simp) o e
  item := by
    intro X hP hw hK hc i pins s σ H E I hf st hg
    subst hP hw hK
    obtain ⟨xs, x, hq, hx⟩ := hg
    obtain ⟨its, rv, p, hz⟩ := I.list hq
    obtain ⟨u, hu, ru⟩ := rv.get hx
    obtain ⟨f0, f1, f2, f3, f4, f5⟩ := hf it (by simp)
    refine wpAny_pyNext_list_item st p.isList (x := u) (by simpa using hu) fun h' st' sb => ?_
    have I1 : Inv X pins σ H { s with heap := h' } := I.turned (t' := s.toks) (fun b o hb e => (sb.2 b hb).trans e) f0 f1 f3 f4 f5
    obtain ⟨o, e, c, d⟩ := id st'
    exact ⟨u, rfl, go_of (s := { s with heap := h' }) e c d (by decide) ⟨x, H, I1, ru, ⟨rfl, fun ys hy => by rw [I.list_inj hy hq]; exact hx⟩, st', fun b hb => (hf b hb).1⟩⟩
  done := by
    intro X hP hw hK hc i pins s σ H E I hf st hg
    subst hP hw hK
    obtain ⟨xs, hq, hx⟩ := hg
    obtain ⟨its, rv, p, hz⟩ := I.list hq
    obtain ⟨f0, f1, f2, f3, f4, f5⟩ := hf it (by simp)
    have hl := rv.length
    exact wpAny_pyNext_list_end (I.ok.hd hc) st p.isList (by simp; omega) fun h' eb => ⟨rfl, I.turned (t' := s.toks) (fun b o hb e => eb b o hb e) f0 f1 f3 f4 f5⟩
  self := fun _ _ _ _ _ st h => wpAny_pyIter_listiter st h
theorem turn_tuple {P : Program} {w : World} {K : PySem.W.Frag} {tg : Expr} (a it : Addr) : Turn P w K tg (Itt K a) [it] it (fun i h => h.IsTupleIter it a i) where
  mem := by simp
  obj := fun i h st b hb => by
    have e : b = it := by simpa using hb
    subst e
    obtain ⟨o, e, c, d⟩ := st
    exact ⟨o, e, fun v z => by rw [d] at z; cases z⟩
  keep := fun i h h' st k => st.at fun o e => k it (by simp) o e
  item := by
    intro X hP hw hK hc i pins s σ H E I hf st hg
    subst hP hw hK
    obtain ⟨xs, x, hq, hx⟩ := hg
    obtain ⟨its, rv, p, hz⟩ := I.tuple hq
    obtain ⟨u, hu, ru⟩ := rv.get hx
    obtain ⟨f0, f1, f2, f3, f4, f5⟩ := hf it (by simp)
    refine wpAny_pyNext_tuple_item st (show s.heap.IsTuple a its.toArray from p) (x := u) (by simpa using hu) fun h' st' sb => ?_
    have I1 : Inv X pins σ H { s with heap := h' } := I.turned (t' := s.toks) (fun b o hb e => (sb.2 b hb).trans e) f0 f1 f3 f4 f5
    obtain ⟨o, e, c, d⟩ := id st'
    exact ⟨u, rfl, go_of (s := { s with heap := h' }) e c d (by decide) ⟨x, H, I1, ru, ⟨rfl, fun ys hy => by rw [I.tuple_inj hy hq]; exact hx⟩, st', fun b hb => (hf b hb).1⟩⟩
  done := by
    intro X hP hw hK hc i pins s σ H E I hf st hg
    subst hP hw hK
    obtain ⟨xs, hq, hx⟩ := hg
    obtain ⟨its, rv, p, hz⟩ := I.tuple hq
    obtain ⟨f0, f1, f2, f3, f4, f5⟩ := hf it (by simp)
    have hl := rv.length
    exact wpAny_pyNext_tuple_end (I.ok.hd hc) st (show s.heap.IsTuple a its.toArray from p) (by simp; omega) fun h' eb => ⟨rfl, I.turned (t' := s.toks) (fun b o hb e => eb b o hb e) f0 f1 f3 f4 f5⟩
  self := fun _ _ _ _ _ st h => wpAny_pyIter_tupleiter st h
theorem turn_range {P : Program} {w : World} {K : PySem.W.Frag} {tg : Expr} (it : Addr) (lo : Int) (n : Nat) : Turn P w K tg (Itr lo n) [it] it (fun i h => IsRangeIter h it (lo + (i : Nat) * 1) ((n : Int) - (i : Nat)) 1) where
  mem := by simp
  obj := fun i h st b hb => by
    have e : b = it := by simpa using hb
    subst e
    exact ⟨_, st, fun v z => by
      have z' : Data.fields _ = Data.cell v := z
      cases z'⟩
  keep := fun i h h' st k => k it (by simp) _ st
  item := by
    intro X hP hw hK hc i pins s σ H E I hf st hg
    subst hP hw hK
    obtain ⟨f0, f1, f2, f3, f4, f5⟩ := hf it (by simp)
    have W := Walks.range (prog := X.prog) (w := X.w) (I.ok.hd hc) it lo 1 n
    refine W.item i s _ _ hg st fun v h' tk hv st' kk => ?_
    obtain ⟨t, rfl⟩ := hv
    have I1 : Inv X pins σ H { s with heap := h', toks := tk } := I.turned (fun b o hb e => kk b o (by simpa using hb) e) f0 f1 f3 f4 f5
    refine ⟨_, rfl, go_of (s := { s with heap := h', toks := tk }) (n := "range_iterator") st' rfl rfl (by decide) ⟨.int (lo + i), H, I1, ⟨t, ?_⟩, ⟨rfl, rfl⟩, st', fun b hb => (hf b hb).1⟩⟩
    rw [Int.mul_one]
  done := by
    intro X hP hw hK hc i pins s σ H E I hf st hg
    subst hP hw hK
    obtain ⟨f0, f1, f2, f3, f4, f5⟩ := hf it (by simp)
    exact wpAny_pyNext_range_end (I.ok.hd hc) st (by have : n ≤ i := hg; omega) fun h' eb => ⟨rfl, I.turned (t' := s.toks) (fun b o hb e => eb b o hb e) f0 f1 f3 f4 f5⟩
  self := fun _ _ _ _ _ st h => wpAny_pyIter_rangeiter st h
end L2
namespace L2
open PySem PySem.Spec PyProof.Rows
section
variable {X : Cx} {tg : Expr}
def iList (K : PySem.W.Frag) (tl : TE) : TI := fun σ H R => tl σ H fun x H1 => ∃ a, x = .ref a ∧ (∃ xs, SqL K H1 a xs) ∧ R (Itl K a) H1
def iTup (K : PySem.W.Frag) (tl : TE) : TI := fun σ H R => tl σ H fun x H1 => ∃ a, x = .ref a ∧ (∃ xs, SqT K H1 a xs) ∧ R (Itt K a) H1
theorem pi_list {l : Expr} {tl : TE} (hl : PE X l tl) : PI X tg l (iList X.K tl) := by
  intro pins s σ H R I h
  refine thn (hl pins s σ H _ I h) fun v s1 ⟨x, H1, I1, r1, q1⟩ => ?_
  obtain ⟨a, e, ⟨xs, hq⟩, q⟩ := q1
  subst e
  cases r1
  obtain ⟨its, rv, p, hz⟩ := I1.list hq
  refine wpAny_pyIter_list p.isList ?_
  refine ⟨s1.heap.objs.size, [s1.heap.objs.size], _, _, H1, rfl, I1.kept (t' := s1.toks) fun b o e => Heap.get?_push_of_some _ e, turn_list a _, ⟨_, Heap.get?_push_size _ rfl, rfl, rfl⟩, fun b hb => ?_, q⟩
  have e : b = s1.heap.objs.size := by simpa using hb
  subst e
  exact I1.fpOk (Nat.le_refl _) (I1.hok.fresh (Nat.le_refl _))
theorem pi_tup {l : Expr} {tl : TE} (hl : PE X l tl) : PI X tg l (iTup X.K tl) := by
  intro pins s σ H R I h
  refine thn (hl pins s σ H _ I h) fun v s1 ⟨x, H1, I1, r1, q1⟩ => ?_
  obtain ⟨a, e, ⟨xs, hq⟩, q⟩ := q1
  subst e
  cases r1
  obtain ⟨its, rv, p, hz⟩ := I1.tuple hq
  refine wpAny_pyIter_tuple (show s1.heap.IsTuple a its.toArray from p) ?_
  refine ⟨s1.heap.objs.size, [s1.heap.objs.size], _, _, H1, rfl, I1.kept (t' := s1.toks) fun b o e => Heap.get?_push_of_some _ e, turn_tuple a _, ⟨_, Heap.get?_push_size _ rfl, rfl, rfl⟩, fun b hb => ?_, q⟩
  have e : b = s1.heap.objs.size := by simpa using hb
  subst e
  exact I1.fpOk (Nat.le_refl _) (I1.hok.fresh (Nat.le_refl _))
theorem range_it {pins : List (Addr × Obj)} {σ : St} {H : Hp} {s : Shared} {R : It → Hp → Prop} {E : Value → Shared → Prop} {lo hi : Int} {t u v : Tok} {tk : Nat} (I : Inv X pins σ H s) (h1 : -(2 ^ 62) ≤ lo) (h2 : lo < 2 ^ 62) (h3 : -(2 ^ 62) ≤ hi) (h4 : hi < 2 ^ 62)
    (q : R (Itr lo (hi - lo).toNat) H) : wpAny (model X.prog X.w) X.A (pyIter (.ref s.heap.objs.size)) (PIE X pins σ tg R) E { s with heap := s.heap.push { cls := .type "range", data := .fields #[.int lo t, .int hi u, .int 1 v] }, toks := tk } := by
  refine wpAny_pyIter_range (IsRange.new ..) (small_one h1 h2 h3 h4) ?_
  have I1 : Inv X pins σ H { s with heap := s.heap.push { cls := .type "range", data := .fields #[.int lo t, .int hi u, .int 1 v] }, toks := tk } := I.kept fun b o e => Heap.get?_push_of_some _ e
  refine ⟨(s.heap.push { cls := .type "range", data := .fields #[.int lo t, .int hi u, .int 1 v] }).objs.size, [(s.heap.push { cls := .type "range", data := .fields #[.int lo t, .int hi u, .int 1 v] }).objs.size], _, _, H, rfl,
    I1.kept (t' := tk) fun b o e => Heap.get?_push_of_some _ e, turn_range _ lo (hi - lo).toNat, ?_, fun b hb => ?_, q⟩
  · have e1 : lo + ((0 : Nat) : Int) * 1 = lo := by simp
    have e2 : (((hi - lo).toNat : Nat) : Int) - ((0 : Nat) : Int) = Builtin.Range.rangeSize lo hi 1 := by rw [rangeSize_one]; split <;> omega
    show IsRangeIter _ _ (lo + ((0 : Nat) : Int) * 1) ((((hi - lo).toNat : Nat) : Int) - ((0 : Nat) : Int)) 1
    rw [e1, e2]
    exact Heap.get?_push_size _ rfl
  · have e : b = (s.heap.push { cls := .type "range", data := .fields #[.int lo t, .int hi u, .int 1 v] }).objs.size := by simpa using hb
    subst e
    exact I1.fpOk (Nat.le_refl _) (I1.hok.fresh (Nat.le_refl _))
def iRng1 (ta : TA) : TI := fun σ H R => ta σ H fun vs H1 => ∃ j : Int, vs = [.int j] ∧ -(2 ^ 62) ≤ j ∧ j < 2 ^ 62 ∧ R (Itr 0 j.toNat) H1
def iRng2 (ta : TA) : TI := fun σ H R => ta σ H fun vs H1 => ∃ i j : Int, vs = [.int i, .int j] ∧ (-(2 ^ 62) ≤ i ∧ i < 2 ^ 62 ∧ -(2 ^ 62) ≤ j ∧ j < 2 ^ 62) ∧ R (Itr i (j - i).toNat) H1
theorem pi_range1 {a : Expr} {ta : TA} {p pos : Pos} (hg : Gl X "range") (hm : X.mg "range" = none) (ha : PA X [a] ta) (hs : starEach [a] X.env = [(false, eval a X.env)] := by rfl) : PI X tg (.Call (.Name "range" p) [a] [] pos) (iRng1 ta) := by
  intro pins s σ H R I h
  refine Call_ (ld_blt I hg hm boot_range (PyProof.Rows.callWith_type1 (thn (ha pos pins s σ H _ I h) fun us s1 ⟨vs, H1, I1, r1, q1⟩ => ?_) hs rfl))
  obtain ⟨j, e, q1, q2, q⟩ := q1
  subst e
  cases r1 with
  | cons r rr =>
    cases rr
    obtain ⟨t, rfl⟩ := r
    exact call_range_1 (range_it I1 (by omega) (by omega) q1 q2 (by simpa using q))
def tFor (wi : TI) (g : TG) (tb : TS) : TS := fun D σ H => wi σ H fun J H1 => ∃ W : Nat → Nat → St → Hp → Prop, (∃ m, W 0 m σ H1) ∧ ∀ i m σ H, W i m σ H →
  (J.stop i H ∧ D.nx σ H) ∨ (J.go i H ∧ ∃ N : St → Hp → Prop, (∀ σ' H', N σ' H' → ∃ m', m' < m ∧ W (i + 1) m' σ' H') ∧ ∀ x H', J.yld i H x H' → g x σ H' fun σ2 H2 => tb { D with nx := N, ct := N, bk := D.nx } σ2 H2)
def pinsAt (fp : List Addr) (h : Heap) : List (Addr × Obj) := fp.filterMap fun b => (h.get? b).map fun o => (b, o)
theorem mem_pinsAt {fp : List Addr} {h : Heap} {b : Addr} {o : Obj} (hb : b ∈ fp) (e : h.get? b = some o) : (b, o) ∈ pinsAt fp h := List.mem_filterMap.mpr ⟨b, hb, by rw [e]; rfl⟩
theorem of_pinsAt {fp : List Addr} {h : Heap} {p : Addr × Obj} (hp : p ∈ pinsAt fp h) : p.1 ∈ fp ∧ h.get? p.1 = some p.2 := by
  obtain ⟨b, hb, e⟩ := List.mem_filterMap.mp hp
  cases q : h.get? b with
  | none => rw [q] at e; cases e
  | some o =>
    rw [q] at e
    have e' : (b, o) = p := Option.some.inj e
    subst e'
    exact ⟨hb, q⟩
theorem Inv.pinned {pins : List (Addr × Obj)} {σ : St} {H : Hp} {s : Shared} {fp : List Addr} (I : Inv X pins σ H s) (hf : ∀ b ∈ fp, FpOk X pins H b) (ho : ∀ b ∈ fp, ∃ o, s.heap.get? b = some o ∧ ∀ v, o.data ≠ .cell v) : Inv X (pins ++ pinsAt fp s.heap) σ H s :=
  I.pins_of fun p hp => (List.mem_append.mp hp).elim (fun z => I.pin p (List.mem_append_right _ z)) fun z => by
    obtain ⟨hb, e⟩ := of_pinsAt z
    obtain ⟨f0, f1, f2, _⟩ := hf p.1 hb
    obtain ⟨o, e', d⟩ := ho p.1 hb
    rw [e] at e'; cases e'
    exact ⟨e, f0, f1, f2, d⟩
theorem Inv.unpinned {pins pl : List (Addr × Obj)} {σ : St} {H : Hp} {s : Shared} (I : Inv X (pins ++ pl) σ H s) : Inv X pins σ H s := I.pins_of fun p hp => I.pin p (List.mem_append_right _ (List.mem_append_left _ hp))
theorem ps_for {iter : Expr} {body : List Stmt} {wi : TI} {g : TG} {tb : TS} {pos : Pos} (hp : PassesOwn (model X.prog X.w) X.A X.env X.xe) (hc : X.calm = true) (hi : PI X tg iter wi) (hg : PG X tg g) (hb : PSs X body tb)
    (hs : ∀ x, foldedSetIterable iter X.env x = pure x := by intro _; rfl) : PS X (.For tg iter body [] pos) (tFor wi g tb) := by
  intro pins s σ H D I h
  refine wpAny_For (thn (hi pins s σ H _ I h) fun v s1 h1 => thn h1 fun itv s2 h2 => ?_) hs
  obtain ⟨it, fp, tn, J, H2, e, I2, T, st2, f2, W, ⟨m0, w0⟩, turn⟩ := h2
  subst e
  have stat : ∀ {H' : Hp}, (∀ b ∈ fp, H' b = none) → ∀ b ∈ fp, FpOk X pins H' b := fun hn b hb => ⟨hn b hb, (f2 b hb).2⟩
  refine codeAny_forLoop_any (fun n s' => ∃ i σ' H', Inv X pins σ' H' s' ∧ tn i s'.heap ∧ (∀ b ∈ fp, H' b = none) ∧ W i n σ' H') ?_ m0 ⟨0, σ, H2, I2, st2, fun b hb => (f2 b hb).1, w0⟩
  rintro n s3 ⟨i, σ3, H3, I3, st3, fr3, w3⟩
  rcases turn i n σ3 H3 w3 with ⟨stop, qn⟩ | ⟨go, N, hN, step⟩
  · refine wpAny_passesOwn hp (thn (T.done X rfl rfl rfl hc i pins s3 σ3 H3 X.xe I3 (stat fr3) st3 stop) fun r s4 ⟨hr, I4⟩ => ?_)
    subst hr
    exact wpAny_execs_nil ⟨σ3, H3, I4, qn⟩
  · refine wpAny_passesOwn hp (thn (T.item X rfl rfl rfl hc i pins s3 σ3 H3 X.xe I3 (stat fr3) st3 go) fun r s4 ⟨u, hr, h4⟩ => ?_)
    subst hr
    refine wpAny_passesOwn hp (thn h4 fun _ s5 ⟨x, H5, I5, r5, y5, st5, fr5⟩ => ?_)
    have I5' := I5.pinned (stat fr5) (T.obj _ _ st5)
    refine wpAny_passesOwn hp (thn (hg _ s5 σ3 H5 x u _ I5' r5 (step x H5 y5)) fun _ s6 ⟨σ6, H6, I6, q6⟩ => ?_)
    refine wpAny_passesOwn hp (thn (hb _ s6 σ6 H6 _ I6 q6) fun f s7 q7 => ?_)
    have again : ∀ {σ7 : St} {H7 : Hp}, Inv X (pins ++ pinsAt fp s5.heap) σ7 H7 s7 → N σ7 H7 → ∃ m, m < n ∧ ∃ i σ' H', Inv X pins σ' H' s7 ∧ tn i s7.heap ∧ (∀ b ∈ fp, H' b = none) ∧ W i m σ' H' := fun {σ7 H7} I7 n7 => by
      obtain ⟨m', hm, w7⟩ := hN σ7 H7 n7
      refine ⟨m', hm, i + 1, σ7, H7, I7.unpinned, T.keep _ _ _ st5 fun b hb o e => (I7.pin (b, o) (List.mem_append_right _ (List.mem_append_right _ (mem_pinsAt hb e)))).1, fun b hb => ?_, w7⟩
      obtain ⟨o, e, d⟩ := T.obj _ _ st5 b hb
      exact (I7.pin (b, o) (List.mem_append_right _ (List.mem_append_right _ (mem_pinsAt hb e)))).2.1
    cases f with
    | next => obtain ⟨σ7, H7, I7, n7⟩ := q7; exact again I7 n7
    | cont => obtain ⟨σ7, H7, I7, n7⟩ := q7; exact again I7 n7
    | brk => obtain ⟨σ7, H7, I7, q7⟩ := q7; exact ⟨σ7, H7, I7.unpinned, q7⟩
    | ret v => obtain ⟨x7, σ7, H7, I7, r7, q7⟩ := q7; exact ⟨x7, σ7, H7, I7.unpinned, r7, q7⟩
end
theorem for_list {K : PySem.W.Frag} {a : Addr} {xs : List V} {g : TG} {tb : TS} {D : Ends} {σ : St} {H : Hp} (Pv : Nat → St → Hp → Prop) (h0 : Pv 0 σ H) (hl : ∀ i σ H, i ≤ xs.length → Pv i σ H → SqL K H a xs)
    (hs : ∀ i x σ H, xs[i]? = some x → Pv i σ H → g x σ H fun σ2 H2 => tb { D with nx := Pv (i + 1), ct := Pv (i + 1), bk := D.nx } σ2 H2) (hd : ∀ σ H, Pv xs.length σ H → D.nx σ H) :
    ∃ W : Nat → Nat → St → Hp → Prop, (∃ m, W 0 m σ H) ∧ ∀ i m σ H, W i m σ H →
      ((Itl K a).stop i H ∧ D.nx σ H) ∨ ((Itl K a).go i H ∧ ∃ N : St → Hp → Prop, (∀ σ' H', N σ' H' → ∃ m', m' < m ∧ W (i + 1) m' σ' H') ∧ ∀ x H', (Itl K a).yld i H x H' → g x σ H' fun σ2 H2 => tb { D with nx := N, ct := N, bk := D.nx } σ2 H2) := by
  refine ⟨fun i m σ H => m = xs.length - i ∧ i ≤ xs.length ∧ Pv i σ H, ⟨xs.length, by simp, Nat.zero_le _, h0⟩, ?_⟩
  rintro i m σ H ⟨rfl, hi, p⟩
  have q := hl i σ H hi p
  by_cases hlt : i < xs.length
  · refine .inr ⟨⟨xs, xs[i], q, by simp [hlt]⟩, Pv (i + 1), fun σ' H' p' => ⟨xs.length - (i + 1), by omega, rfl, hlt, p'⟩, fun x H' y => ?_⟩
    obtain ⟨e, y⟩ := y
    subst e
    exact hs i x σ _ (y xs q) p
  · have e : i = xs.length := by omega
    subst e
    exact .inl ⟨⟨xs, q, Nat.le_refl _⟩, hd σ H p⟩
theorem for_tup {K : PySem.W.Frag} {a : Addr} {xs : List V} {g : TG} {tb : TS} {D : Ends} {σ : St} {H : Hp} (Pv : Nat → St → Hp → Prop) (h0 : Pv 0 σ H) (hl : ∀ i σ H, i ≤ xs.length → Pv i σ H → SqT K H a xs)
    (hs : ∀ i x σ H, xs[i]? = some x → Pv i σ H → g x σ H fun σ2 H2 => tb { D with nx := Pv (i + 1), ct := Pv (i + 1), bk := D.nx } σ2 H2) (hd : ∀ σ H, Pv xs.length σ H → D.nx σ H) :
    ∃ W : Nat → Nat → St → Hp → Prop, (∃ m, W 0 m σ H) ∧ ∀ i m σ H, W i m σ H →
      ((Itt K a).stop i H ∧ D.nx σ H) ∨ ((Itt K a).go i H ∧ ∃ N : St → Hp → Prop, (∀ σ' H', N σ' H' → ∃ m', m' < m ∧ W (i + 1) m' σ' H') ∧ ∀ x H', (Itt K a).yld i H x H' → g x σ H' fun σ2 H2 => tb { D with nx := N, ct := N, bk := D.nx } σ2 H2) := by
  refine ⟨fun i m σ H => m = xs.length - i ∧ i ≤ xs.length ∧ Pv i σ H, ⟨xs.length, by simp, Nat.zero_le _, h0⟩, ?_⟩
  rintro i m σ H ⟨rfl, hi, p⟩
  have q := hl i σ H hi p
  by_cases hlt : i < xs.length
  · refine .inr ⟨⟨xs, xs[i], q, by simp [hlt]⟩, Pv (i + 1), fun σ' H' p' => ⟨xs.length - (i + 1), by omega, rfl, hlt, p'⟩, fun x H' y => ?_⟩
    obtain ⟨e, y⟩ := y
    subst e
    exact hs i x σ _ (y xs q) p
  · have e : i = xs.length := by omega
    subst e
    exact .inl ⟨⟨xs, q, Nat.le_refl _⟩, hd σ H p⟩
theorem for_range {lo : Int} {n : Nat} {g : TG} {tb : TS} {D : Ends} {σ : St} {H : Hp} (Pv : Nat → St → Hp → Prop) (h0 : Pv 0 σ H)
    (hs : ∀ i σ H, i < n → Pv i σ H → g (.int (lo + i)) σ H fun σ2 H2 => tb { D with nx := Pv (i + 1), ct := Pv (i + 1), bk := D.nx } σ2 H2) (hd : ∀ σ H, Pv n σ H → D.nx σ H) :
    ∃ W : Nat → Nat → St → Hp → Prop, (∃ m, W 0 m σ H) ∧ ∀ i m σ H, W i m σ H →
      ((Itr lo n).stop i H ∧ D.nx σ H) ∨ ((Itr lo n).go i H ∧ ∃ N : St → Hp → Prop, (∀ σ' H', N σ' H' → ∃ m', m' < m ∧ W (i + 1) m' σ' H') ∧ ∀ x H', (Itr lo n).yld i H x H' → g x σ H' fun σ2 H2 => tb { D with nx := N, ct := N, bk := D.nx } σ2 H2) := by
  refine ⟨fun i m σ H => m = n - i ∧ i ≤ n ∧ Pv i σ H, ⟨n, by simp, Nat.zero_le _, h0⟩, ?_⟩
  rintro i m σ H ⟨rfl, hi, p⟩
  by_cases hlt : i < n
  · refine .inr ⟨hlt, Pv (i + 1), fun σ' H' p' => ⟨n - (i + 1), by omega, rfl, hlt, p'⟩, fun x H' y => ?_⟩
    obtain ⟨e, y⟩ := y
    subst e y
    exact hs i σ _ hlt p
  · have e : i = n := by omega
    subst e
    exact .inl ⟨Nat.le_refl _, hd σ H p⟩
end L2
namespace L2
open PySem PySem.Spec PyProof.Rows
abbrev R2 := V → V → Hp → VK → Prop
def OpR (X : Cx) (f : Value → Value → Sem Value) (r : R2) : Prop :=
  ∀ (pins : List (Addr × Obj)) (s : Shared) (σ : St) (H : Hp) (x y : V) (v u : Value) (Q : VK), Inv X pins σ H s → RelV x v → RelV y u → r x y H Q →
    wpAny (model X.prog X.w) X.A (f v u) (EP X pins σ Q) X.xe s
def UnR (X : Cx) (f : Value → Sem Value) (r : V → Hp → VK → Prop) : Prop :=
  ∀ (pins : List (Addr × Obj)) (s : Shared) (σ : St) (H : Hp) (x : V) (v : Value) (Q : VK), Inv X pins σ H s → RelV x v → r x H Q →
    wpAny (model X.prog X.w) X.A (f v) (EP X pins σ Q) X.xe s
def CallR (X : Cx) (f : Value) (r : List V → Hp → VK → Prop) : Prop :=
  ∀ (pins : List (Addr × Obj)) (s : Shared) (σ : St) (H : Hp) (xs : List V) (us : List Value) (Q : VK), Inv X pins σ H s → Vals xs us → r xs H Q →
    wpAny (model X.prog X.w) X.A (call f us) (EP X pins σ Q) X.xe s
def tOp (r : R2) (ta tb : TE) : TE := fun σ H Q => ta σ H fun x H1 => tb σ H1 fun y H2 => r x y H2 Q
def tUn (r : V → Hp → VK → Prop) (ta : TE) : TE := fun σ H Q => ta σ H fun x H1 => r x H1 Q
def rI (C : Int → Int → Prop) (g : Int → Int → V) : R2 := fun x y H Q => ∃ i j, x = .int i ∧ y = .int j ∧ C i j ∧ Q (g i j) H
def rI0 (g : Int → Int → V) : R2 := fun x y H Q => ∃ i j, x = .int i ∧ y = .int j ∧ Q (g i j) H
def rU (g : Int → V) : V → Hp → VK → Prop := fun x H Q => ∃ i, x = .int i ∧ Q (g i) H
section
variable {X : Cx} {a b c : Expr} {ta tb tc : TE} {pos : Pos}
theorem binT (ha : PE X a ta) (hb : PE X b tb) {pins : List (Addr × Obj)} {s : Shared} {σ : St} {H : Hp} {R : V → V → Hp → Prop} (I : Inv X pins σ H s)
    (h : ta σ H fun x H1 => tb σ H1 fun y H2 => R x y H2) {Q : Value → Shared → Prop} {f : Value → Value → Sem Value}
    (hf : ∀ v u s2 x y H2, Inv X pins σ H2 s2 → RelV x v → RelV y u → R x y H2 → wpAny (model X.prog X.w) X.A (f v u) Q X.xe s2) :
    wpAny (model X.prog X.w) X.A (eval a X.env) (fun v s₁ => wpAny (model X.prog X.w) X.A (eval b X.env) (fun u s₂ => wpAny (model X.prog X.w) X.A (f v u) Q X.xe s₂) X.xe s₁) X.xe s := by
  refine thn (ha pins s σ H _ I h) fun v s1 ⟨x, H1, I1, r1, q1⟩ => ?_
  refine thn (hb pins s1 σ H1 _ I1 q1) fun u s2 ⟨y, H2, I2, r2, q2⟩ => ?_
  exact hf v u s2 x y H2 I2 r1 r2 q2
theorem pe_op {op : Operator} {r : R2} (ho : OpR X (binaryOp op) r) (ha : PE X a ta) (hb : PE X b tb) : PE X (.BinOp a op b pos) (tOp r ta tb) := by
  intro pins s σ H Q I h
  exact wpAny_BinOp (binT ha hb I h fun v u s2 x y H2 I2 rx ry q => ho pins s2 σ H2 x y v u Q I2 rx ry q)
theorem pe_un {op : UnaryOp} {r : V → Hp → VK → Prop} (ho : UnR X (unaryOp op) r) (ha : PE X a ta) : PE X (.UnaryOp op a pos) (tUn r ta) := by
  intro pins s σ H Q I h
  exact UnaryOp_ (thn (ha pins s σ H _ I h) fun v s1 ⟨x, H1, I1, r1, q1⟩ => ho pins s1 σ H1 x v Q I1 r1 q1)
theorem opI {f : Value → Value → Sem Value} {C : Int → Int → Prop} {g : Int → Int → Int}
    (rule : ∀ (i j : Int) (t u : Tok) (s : Shared) (Q : Value → Shared → Prop) (E : Value → Shared → Prop), C i j → Q (.int (g i j) s.toks) { s with toks := s.toks + 1 } → wpAny (model X.prog X.w) X.A (f (.int i t) (.int j u)) Q E s) :
    OpR X f (rI C fun i j => .int (g i j)) := by
  intro pins s σ H x y v u Q I rx ry h
  obtain ⟨i, j, rfl, rfl, hc, q⟩ := h
  obtain ⟨t, rfl⟩ := rx
  obtain ⟨t', rfl⟩ := ry
  exact rule i j t t' s _ _ hc ⟨.int (g i j), H, I.tok _, ⟨_, rfl⟩, q⟩
theorem opI0 {f : Value → Value → Sem Value} {g : Int → Int → Int}
    (rule : ∀ (i j : Int) (t u : Tok) (s : Shared) (Q : Value → Shared → Prop) (E : Value → Shared → Prop), Q (.int (g i j) s.toks) { s with toks := s.toks + 1 } → wpAny (model X.prog X.w) X.A (f (.int i t) (.int j u)) Q E s) :
    OpR X f (rI0 fun i j => .int (g i j)) := by
  intro pins s σ H x y v u Q I rx ry h
  obtain ⟨i, j, rfl, rfl, q⟩ := h
  obtain ⟨t, rfl⟩ := rx
  obtain ⟨t', rfl⟩ := ry
  exact rule i j t t' s _ _ ⟨.int (g i j), H, I.tok _, ⟨_, rfl⟩, q⟩
theorem opB0 {f : Value → Value → Sem Value} {g : Int → Int → Bool}
    (rule : ∀ (i j : Int) (t u : Tok) (s : Shared) (Q : Value → Shared → Prop) (E : Value → Shared → Prop), Q (.bool (g i j)) s → wpAny (model X.prog X.w) X.A (f (.int i t) (.int j u)) Q E s) :
    OpR X f (rI0 fun i j => .bl (g i j)) := by
  intro pins s σ H x y v u Q I rx ry h
  obtain ⟨i, j, rfl, rfl, q⟩ := h
  obtain ⟨t, rfl⟩ := rx
  obtain ⟨t', rfl⟩ := ry
  exact rule i j t t' s _ _ ⟨.bl (g i j), H, I, rfl, q⟩
def CPow (i j : Int) : Prop := 0 ≤ j ∧ j ≤ 1000000 ∧ i.natAbs < 2 ^ 64
def CMul (i j : Int) : Prop := (-(2 ^ 64) < i ∧ i < 2 ^ 64) ∨ (-(2 ^ 64) < j ∧ j < 2 ^ 64)
theorem CMul.ok {i j : Int} (h : CMul i j) : IntMulOk i j := by
  rcases h with ⟨h1, h2⟩ | ⟨h1, h2⟩
  · exact .of_left (intBits_le_64 h1 h2)
  · exact .of_right (intBits_le_64 h1 h2)
theorem op_add : OpR X (binaryOp .Add) (rI0 fun i j => .int (i + j)) := opI0 fun _ _ _ _ _ _ _ q => add_int q
theorem op_sub : OpR X (binaryOp .Sub) (rI0 fun i j => .int (i - j)) := opI0 fun _ _ _ _ _ _ _ q => sub_int q
theorem op_mod : OpR X (binaryOp .Mod) (rI (fun _ j => 0 < j) fun i j => .int (i % j)) := opI fun i j _ _ _ _ _ hc q => by
  have h1 : (0 : Int) < j := hc
  exact mod_int' (by omega) (by rw [Int.fmod_eq_emod_of_nonneg i (by omega)]; exact q)
theorem op_pow : OpR X (binaryOp .Pow) (rI CPow fun i j => .int (i ^ j.toNat)) := opI fun _ _ _ _ _ _ _ hc q => pow_int_small hc.1 hc.2.1 hc.2.2 q
theorem unI {f : Value → Sem Value} {g : Int → Int}
    (rule : ∀ (i : Int) (t : Tok) (s : Shared) (Q : Value → Shared → Prop) (E : Value → Shared → Prop), Q (.int (g i) s.toks) { s with toks := s.toks + 1 } → wpAny (model X.prog X.w) X.A (f (.int i t)) Q E s) :
    UnR X f (rU fun i => .int (g i)) := by
  intro pins s σ H x v Q I rx h
  obtain ⟨i, rfl, q⟩ := h
  obtain ⟨t, rfl⟩ := rx
  exact rule i t s _ _ ⟨.int (g i), H, I.tok _, ⟨_, rfl⟩, q⟩
theorem un_neg : UnR X (unaryOp .USub) (rU fun i => .int (-i)) := unI fun _ _ _ _ _ q => neg_int q
end
def scal : V → V → Bool
  | .non, .non => true | .non, .int _ => true | .int _, .non => true | .non, .bl _ => true | .bl _, .non => true | .non, .str _ => true | .str _, .non => true
  | .int _, .int _ => true | .bl _, .bl _ => true | .str _, .str _ => true | .byt _, .byt _ => true
  | .int _, .str _ => true | .str _, .int _ => true | .bl _, .str _ => true | .str _, .bl _ => true
  | _, _ => false
def rEq : R2 := fun x y H Q => scal x y = true ∧ Q (.bl (decide (x = y))) H
def rNe : R2 := fun x y H Q => scal x y = true ∧ Q (.bl (!decide (x = y))) H
theorem dec_int {i j : Int} : decide (V.int i = V.int j) = (i == j) := by
  rw [Bool.eq_iff_iff]
  simp
theorem dec_bl {i j : Bool} : decide (V.bl i = V.bl j) = (i == j) := by
  rw [Bool.eq_iff_iff]
  simp
theorem dec_str {i j : Str} : decide (V.str i = V.str j) = (i == j) := by
  rw [Bool.eq_iff_iff]
  simp
theorem dec_byt {i j : Array UInt8} : decide (V.byt i = V.byt j) = (i.toList == j.toList) := by
  rw [Bool.eq_iff_iff]
  cases i
  cases j
  simp
section
variable {X : Cx} {a b c : Expr} {ta tb tc : TE} {pos : Pos}
theorem fin_bl {pins : List (Addr × Obj)} {σ : St} {H : Hp} {s : Shared} {Q : VK} {k k' : Bool} (I : Inv X pins σ H s) (q : Q (.bl k) H) (e : k = k') : EP X pins σ Q (.bool k') s := by
  subst e
  exact ⟨.bl k, H, I, rfl, q⟩
theorem op_eq : OpR X (compareOp .Eq) rEq := by
  intro pins s σ H x y v u Q I rx ry h
  obtain ⟨hs, q⟩ := h
  cases x with
  | non =>
    cases rx
    cases y with
    | non => cases ry; exact PySem.EqNone.eq_none_none (fin_bl I q (by simp))
    | bl j => cases ry; exact PySem.EqNone.eq_none_bool (fin_bl I q (by simp))
    | int j => obtain ⟨t', rfl⟩ := ry; exact PySem.EqNone.eq_none_int (fin_bl I q (by simp))
    | str j => obtain ⟨t', rfl⟩ := ry; exact PySem.EqNone.eq_none_str (fin_bl I q (by simp))
    | _ => exact absurd (show false = true from hs) Bool.false_ne_true
  | bl i =>
    cases rx
    cases y with
    | non => cases ry; exact PySem.EqNone.eq_bool_none (fin_bl I q (by simp))
    | bl j => cases ry; exact eq_bool (fin_bl I q dec_bl)
    | str j => obtain ⟨t', rfl⟩ := ry; exact PySem.EqMixed.eq_bool_str (fin_bl I q (by simp))
    | _ => exact absurd (show false = true from hs) Bool.false_ne_true
  | int i =>
    obtain ⟨t, rfl⟩ := rx
    cases y with
    | non => cases ry; exact PySem.EqNone.eq_int_none (fin_bl I q (by simp))
    | int j => obtain ⟨t', rfl⟩ := ry; exact eq_int (fin_bl I q dec_int)
    | str j => obtain ⟨t', rfl⟩ := ry; exact PySem.EqMixed.eq_int_str (fin_bl I q (by simp))
    | _ => exact absurd (show false = true from hs) Bool.false_ne_true
  | str i =>
    obtain ⟨t, rfl⟩ := rx
    cases y with
    | non => cases ry; exact PySem.EqNone.eq_str_none (fin_bl I q (by simp))
    | bl j => cases ry; exact PySem.EqMixed.eq_str_bool (fin_bl I q (by simp))
    | int j => obtain ⟨t', rfl⟩ := ry; exact PySem.EqMixed.eq_str_int (fin_bl I q (by simp))
    | str j => obtain ⟨t', rfl⟩ := ry; exact eq_str (fin_bl I q dec_str)
    | _ => exact absurd (show false = true from hs) Bool.false_ne_true
  | byt i =>
    obtain ⟨t, rfl⟩ := rx
    cases y with
    | byt j => obtain ⟨t', rfl⟩ := ry; exact PySem.W.eq_bytes (fin_bl I q dec_byt)
    | _ => exact absurd (show false = true from hs) Bool.false_ne_true
  | _ => cases y <;> exact absurd (show false = true from hs) Bool.false_ne_true
theorem op_ne : OpR X (compareOp .NotEq) rNe := by
  intro pins s σ H x y v u Q I rx ry h
  obtain ⟨hs, q⟩ := h
  cases x with
  | non =>
    cases rx
    cases y with
    | non => cases ry; exact PySem.EqNone.ne_none_none (fin_bl I q (by simp))
    | bl j => cases ry; exact PySem.EqNone.ne_none_bool (fin_bl I q (by simp))
    | int j => obtain ⟨t', rfl⟩ := ry; exact PySem.EqNone.ne_none_int (fin_bl I q (by simp))
    | str j => obtain ⟨t', rfl⟩ := ry; exact PySem.EqNone.ne_none_str (fin_bl I q (by simp))
    | _ => exact absurd (show false = true from hs) Bool.false_ne_true
  | bl i =>
    cases rx
    cases y with
    | non => cases ry; exact PySem.EqNone.ne_bool_none (fin_bl I q (by simp))
    | bl j => cases ry; exact ne_bool (fin_bl I q (congrArg not dec_bl))
    | str j => obtain ⟨t', rfl⟩ := ry; exact PySem.EqMixed.ne_bool_str (fin_bl I q (by simp))
    | _ => exact absurd (show false = true from hs) Bool.false_ne_true
  | int i =>
    obtain ⟨t, rfl⟩ := rx
    cases y with
    | non => cases ry; exact PySem.EqNone.ne_int_none (fin_bl I q (by simp))
    | int j => obtain ⟨t', rfl⟩ := ry; exact ne_int (fin_bl I q (congrArg not dec_int))
    | str j => obtain ⟨t', rfl⟩ := ry; exact PySem.EqMixed.ne_int_str (fin_bl I q (by simp))
    | _ => exact absurd (show false = true from hs) Bool.false_ne_true
  | str i =>
    obtain ⟨t, rfl⟩ := rx
    cases y with
    | non => cases ry; exact PySem.EqNone.ne_str_none (fin_bl I q (by simp))
    | bl j => cases ry; exact PySem.EqMixed.ne_str_bool (fin_bl I q (by simp))
    | int j => obtain ⟨t', rfl⟩ := ry; exact PySem.EqMixed.ne_str_int (fin_bl I q (by simp))
    | str j => obtain ⟨t', rfl⟩ := ry; exact ne_str (fin_bl I q (congrArg not dec_str))
    | _ => exact absurd (show false = true from hs) Bool.false_ne_true
  | byt i =>
    obtain ⟨t, rfl⟩ := rx
    cases y with
    | byt j => obtain ⟨t', rfl⟩ := ry; exact PySem.W.ne_bytes (fin_bl I q (congrArg not dec_byt))
    | _ => exact absurd (show false = true from hs) Bool.false_ne_true
  | _ => cases y <;> exact absurd (show false = true from hs) Bool.false_ne_true
theorem op_lt : OpR X (compareOp .Lt) (rI0 fun i j => .bl (decide (i < j))) := opB0 fun _ _ _ _ _ _ _ q => lt_int q
theorem op_gt : OpR X (compareOp .Gt) (rI0 fun i j => .bl (decide (j < i))) := opB0 fun _ _ _ _ _ _ _ q => gt_int q
theorem nomark (b : Expr) {op : CmpOp} (h : op ≠ .In := by decide) (h2 : op ≠ .NotIn := by decide) : behindInMarks op b = false := by
  have e1 : (op == CmpOp.In) = false := by cases op <;> first | rfl | exact absurd rfl h
  have e2 : (op == CmpOp.NotIn) = false := by cases op <;> first | rfl | exact absurd rfl h2
  cases b <;> simp [behindInMarks, e1, e2]
theorem pe_cmpR {op : CmpOp} {r : R2} (ho : OpR X (compareOp op) r) (ha : PE X a ta) (hb : PE X b tb) (hm : behindInMarks op b = false) : PE X (.Compare a [op] [b] pos) (tOp r ta tb) := by
  intro pins s σ H Q I h
  exact wpAny_Compare1 (binT ha hb I h fun v u s2 x y H2 I2 rx ry q => ho pins s2 σ H2 x y v u Q I2 rx ry q) hm
def tTest (t : TE) : TT := fun σ H Q => t σ H fun x H' => ∃ k, x = .bl k ∧ Q k H'
theorem pt_cmpR {op : CmpOp} {r : R2} (ho : OpR X (compareOp op) r) (ha : PE X a ta) (hb : PE X b tb) (hm : behindInMarks op b = false) : PT X (.Compare a [op] [b] pos) (tTest (tOp r ta tb)) := by
  intro pins s σ H Q I h
  refine wpAny_isTrue_Compare1 (thn (ha pins s σ H _ I h) fun v s1 ⟨x, H1, I1, r1, q1⟩ => thn (hb pins s1 σ H1 _ I1 q1) fun u s2 ⟨y, H2, I2, r2, q2⟩ =>
    thn (ho pins s2 σ H2 x y v u _ I2 r1 r2 q2) fun c s3 ⟨z, H3, I3, r3, k, e, q3⟩ => ?_) hm
  subst e
  cases r3
  exact wpAny_truthy_bool ⟨H3, I3, q3⟩
def tChain (r r' : R2) (ta tb tc : TE) : TE := fun σ H Q => ta σ H fun x H1 => tb σ H1 fun y H2 => r x y H2 fun z H3 => ∃ k, z = .bl k ∧
  (if k = true then tc σ H3 fun w' H4 => r' y w' H4 Q else Q (.bl false) H3)
theorem line63 : (sizeLine : Nat) < 2 ^ 63 := by rw [sizeLine_eq]; decide
theorem vals1 {x : V} {us : List Value} (r : Vals [x] us) : ∃ u, us = [u] ∧ RelV x u := by
  cases r with
  | cons r1 r2 => cases r2; exact ⟨_, rfl, r1⟩
theorem vals2 {x y : V} {us : List Value} (r : Vals [x, y] us) : ∃ u w', us = [u, w'] ∧ RelV x u ∧ RelV y w' := by
  cases r with
  | cons r1 r2 =>
    cases r2 with
    | cons r3 r4 => cases r4; exact ⟨_, _, rfl, r1, r3⟩
theorem call_max2 (hc : X.calm = true) : CallR X (.builtin "max") (fun xs H Q => ∃ i j, xs = [.int i, .int j] ∧ Q (.int (if j > i then j else i)) H) := by
  intro pins s σ H xs us Q I r h
  obtain ⟨i, j, rfl, q⟩ := h
  obtain ⟨u, w', rfl, ⟨t, rfl⟩, ⟨t', rfl⟩⟩ := vals2 r
  refine max_two_ints (I.ok.hd hc) fun h' tk k => ⟨_, H, I.kept k, ?_, q⟩
  by_cases hj : j > i
  · rw [if_pos hj, if_pos hj]; exact ⟨_, rfl⟩
  · rw [if_neg hj, if_neg hj]; exact ⟨_, rfl⟩
theorem call_min2 (hc : X.calm = true) : CallR X (.builtin "min") (fun xs H Q => ∃ i j, xs = [.int i, .int j] ∧ Q (.int (if j < i then j else i)) H) := by
  intro pins s σ H xs us Q I r h
  obtain ⟨i, j, rfl, q⟩ := h
  obtain ⟨u, w', rfl, ⟨t, rfl⟩, ⟨t', rfl⟩⟩ := vals2 r
  refine min_two_ints (I.ok.hd hc) fun h' tk k => ⟨_, H, I.kept k, ?_, q⟩
  by_cases hj : j < i
  · rw [if_pos hj, if_pos hj]; exact ⟨_, rfl⟩
  · rw [if_neg hj, if_neg hj]; exact ⟨_, rfl⟩
end
end L2
namespace L2
open PySem PySem.Spec PyProof.Rows
structure ObjM (h : Heap) (x dx C : Addr) (mA : Str → Option Value) : Prop where
  obj : h.get? x = some (PySem.W.instObj C dx)
  ns : h.Ns1 dx mA
  ne : dx ≠ x
theorem lookIn_ns {h : Heap} {dx : Addr} {mA : Str → Option Value} (n : h.Ns1 dx mA) : ∃ od, h.get? dx = some od ∧ ∀ name, PySem.W.lookIn name od = some (mA name) := by
  obtain ⟨o, es, ep, ho, hd, hk, _, hm⟩ := n
  refine ⟨o, ho, fun name => ?_⟩
  have e := hm name
  unfold nsFind findBy at e
  rw [← Array.find?_toList] at e
  unfold PySem.W.lookIn
  rw [hd]
  dsimp only
  split
  · rename_i y q
    rw [q] at e
    exact congrArg some e
  · rename_i q
    rw [q] at e
    have a : es.toList.any (·.refKey) = false := by
      rw [List.any_eq_false]
      intro y hy
      obtain ⟨z, t, hkey⟩ := hk y (Array.mem_toList_iff.mp hy)
      simp [DictEntry.refKey, hkey]
    have a' : ¬ es.toList.any (·.refKey) = true := by rw [a]; exact Bool.false_ne_true
    rw [if_neg a']
    exact congrArg some e
theorem ObjM.look {h : Heap} {x dx C : Addr} {mA : Str → Option Value} (I : ObjM h x dx C mA) : ∃ od, PySem.W.InstAt h x (PySem.W.instObj C dx) C (some od) ∧ ∀ name, PySem.W.lookIn name od = some (mA name) :=
  let ⟨od, ho, hl⟩ := lookIn_ns I.ns
  ⟨od, ⟨I.obj, rfl, rfl, ho⟩, hl⟩
section
variable {prog : Program} {w : World} {A : Around} {E : Value → Shared → Prop} {s : Shared} {K : PySem.W.Frag} {x dx C f : Addr} {mA : Str → Option Value} {name : Str} {v : Value}
theorem get_map {expr : Bool} {Q : Value → Shared → Prop} (X : K.In s.heap) (I : ObjM s.heap x dx C mA) (hg : PySem.W.plainGet K C name = true) (hh : PySem.W.hasDictIn K C = true)
    (ha : PySem.W.findIn K (.ref C) name = some none) (hv : mA name = some v) (hv' : PySem.W.handedIn v = true) (h : Q v { s with toks := s.toks + 1 }) :
    wpAny (model prog w) A (getAttr (.ref x) name expr) Q E s := by
  obtain ⟨od, J, hl⟩ := I.look
  exact PySem.W.get_value X J (PySem.W.plainGet_of hg).1 (PySem.W.findObj_own hh ha rfl (by rw [hl, hv])) hv' h
theorem get_meth {pl : Sem Bool} {Q : Value × List Value → Shared → Prop} (X : K.In s.heap) (I : ObjM s.heap x dx C mA) (hg : PySem.W.plainGet K C name = true)
    (hf : PySem.W.findIn K (.ref C) name = some (some (.ref f))) (ht : PySem.W.isFn K (.ref f) = true) (hv : mA name = none) (h : Q (.ref f, [.ref x]) s) :
    wpAny (model prog w) A (getMethod (.ref x) name pl) Q E s := by
  obtain ⟨od, J, hl⟩ := I.look
  exact PySem.W.method_fn X J (PySem.W.plainGet_of hg).1 (PySem.W.plainGet_of hg).2 hf (beq_iff_eq.mp ht) (by show (PySem.W.lookIn name od).map (·.isSome) = some false; rw [hl, hv]; rfl) h
theorem set_map {ns : List Str} {Q : Unit → Shared → Prop} (X : K.In s.heap) (I : ObjM s.heap x dx C mA)
    (hs : PySem.W.findIn K (.ref C) "__setattr__" = some (some (.builtin "object.__setattr__"))) (hp : PySem.W.plainOver K C = true) (ht : PySem.W.takerIn K C name = some none) (hh : PySem.W.hasDictIn K C = true)
    (hw : PySem.Within mA ns) (hsz : ns.length ≤ sizeLine)
    (h : ∀ h', ObjM h' x dx C (fun y => if y = name then some v else mA y) → Heap.SameBut dx s.heap h' → Q () { s with heap := h', toks := s.toks + 2 }) :
    wpAny (model prog w) A (setAttr (.ref x) name v) Q E s := by
  obtain ⟨od, J, hl⟩ := I.look
  refine PySem.W.set_plain X J hs (PySem.W.osa_open (s := { s with toks := s.toks + 1 }) (r := none) X J hp ht fun b => ?_)
  obtain ⟨cd, hc, hd'⟩ := PySem.W.any_some hh
  have hx : s.heap.get? x = some ⟨.ref C, some dx, .plain, #[]⟩ := I.obj
  refine wpAny_bind (wpAny_pure (wpAny_bind (wpAny_bind (wpAny_loadPart hx (wpAny_bind (PySem.W.Looks.here (s := { s with toks := s.toks + 1 }) (PySem.W.looks_clsIn X hc) ?_))))))
  rw [hd']
  refine wpAny_pure (a := some dx) (wpAny_bind (wpAny_pure (wpAny_bind ?_)))
  refine wpAny_nsSet1 (s := { s with toks := s.toks + 1 }) I.ns fun h' hn2 hs2 => ?_
  obtain ⟨oD, esD, epD, hoD, hdD, hcD⟩ := hn2.count (PySem.Within.cons name v hw)
  refine wpAny_bind (wpAny_lookBehind hoD (by rw [hdD]; exact pastItsLine_dict (Nat.le_trans hcD (by rw [List.length_cons]; omega))) ?_)
  exact wpAny_pure (h _ ⟨(hs2.2 _ (Ne.symm I.ne)).trans I.obj, hn2, I.ne⟩ hs2)
theorem make_map {R : Result → Shared → Prop} {vs : List Value} {kw : List (Str × Value)} (X : K.In s.heap) (hm : PySem.W.makesIn K C = true)
    (hi : PySem.W.findIn K (.ref C) "__init__" = some (some (.ref f))) (hf : PySem.W.typeIn K (.ref f) = some (.type "function"))
    (h : codeAny (model prog w) (A.under (.builtin "type.__call__" ⟨.ref C :: vs, kw⟩)) (.call (.ref f) ⟨.ref (s.heap.objs.size + 1) :: vs, kw⟩) (PySem.W.InitBack (s.heap.objs.size + 1) R)
      { s with heap := (s.heap.push PySem.W.emptyDict).push (PySem.W.instObj C s.heap.objs.size) }) :
    codeAny (model prog w) A (.call (.ref C) ⟨vs, kw⟩) R s := by
  obtain ⟨hh, g, d, t, os⟩ := s
  exact PySem.W.make_core (PySem.W.makes_of X hm) (PySem.W.looks_findIn X hi) (fun self => PySem.W.bind_fn X self hf) (.inl rfl) h
end
def putF (f : Str) (v : V) : List (Str × V) → List (Str × V)
  | [] => [(f, v)]
  | (g, x) :: r => if g = f then (g, v) :: r else (g, x) :: putF f v r
theorem lookup_putF (f g : Str) (v : V) : ∀ fs : List (Str × V), (putF f v fs).lookup g = if g = f then some v else fs.lookup g
  | [] => by
    show List.lookup g [(f, v)] = _
    by_cases h : g = f
    · have hb : (g == f) = true := beq_iff_eq.mpr h
      simp only [List.lookup, hb, if_pos h]
    · have hb : (g == f) = false := beq_eq_false_iff_ne.mpr h
      simp only [List.lookup, hb, if_neg h]
  | (k, x) :: r => by
    have ih := lookup_putF f g v r
    rw [show putF f v ((k, x) :: r) = (if k = f then (k, v) :: r else (k, x) :: putF f v r) from rfl]
    by_cases hk : k = f
    · rw [if_pos hk]
      by_cases h : g = k
      · have hb : (g == k) = true := beq_iff_eq.mpr h
        simp only [List.lookup, hb, if_pos (h.trans hk)]
      · have hb : (g == k) = false := beq_eq_false_iff_ne.mpr h
        simp only [List.lookup, hb, if_neg (fun e : g = f => h (e.trans hk.symm))]
    · rw [if_neg hk]
      by_cases h : g = k
      · have hb : (g == k) = true := beq_iff_eq.mpr h
        simp only [List.lookup, hb, if_neg (fun e : g = f => hk (h.symm.trans e))]
      · have hb : (g == k) = false := beq_eq_false_iff_ne.mpr h
        simp only [List.lookup, hb]
        exact ih
theorem keys_putF (f : Str) (v : V) : ∀ fs : List (Str × V), f ∈ (putF f v fs).map (·.1) ∧ ∀ g, g ∈ fs.map (·.1) → g ∈ (putF f v fs).map (·.1)
  | [] => ⟨by simp [putF], fun g h => by simp at h⟩
  | (k, x) :: r => by
    obtain ⟨i1, i2⟩ := keys_putF f v r
    rw [show putF f v ((k, x) :: r) = (if k = f then (k, v) :: r else (k, x) :: putF f v r) from rfl]
    by_cases hk : k = f
    · rw [if_pos hk]
      subst hk
      exact ⟨by simp, fun g h => by simpa using h⟩
    · rw [if_neg hk]
      refine ⟨?_, fun g h => ?_⟩
      · rw [List.map_cons]
        exact List.mem_cons_of_mem _ i1
      · rw [List.map_cons] at h ⊢
        rcases List.mem_cons.mp h with e | e
        · exact List.mem_cons.mpr (.inl e)
        · exact List.mem_cons_of_mem _ (i2 g e)
theorem length_putF (f : Str) (v : V) : ∀ fs : List (Str × V), (putF f v fs).length ≤ fs.length + 1
  | [] => by simp [putF]
  | (k, x) :: r => by
    have ih := length_putF f v r
    rw [show putF f v ((k, x) :: r) = (if k = f then (k, v) :: r else (k, x) :: putF f v r) from rfl]
    by_cases hk : k = f
    · rw [if_pos hk, List.length_cons, List.length_cons]; omega
    · rw [if_neg hk, List.length_cons, List.length_cons]; omega
theorem RelO.some_of {v : V} {o : Option Value} (r : RelO (some v) o) : ∃ u, o = some u ∧ RelV v u := by
  cases o with
  | none => exact (show False from r).elim
  | some u => exact ⟨u, rfl, r⟩
theorem RelO.none_of {o : Option Value} (r : RelO none o) : o = none := by
  cases o with
  | none => rfl
  | some u => exact (show False from r).elim
theorem handed_of {v : V} {u : Value} (r : RelV v u) : PySem.W.handedIn u = true := by
  cases v with
  | non => cases (show u = Value.none from r); rfl
  | bl b => cases (show u = Value.bool b from r); rfl
  | int i => obtain ⟨t, e⟩ := (show ∃ t, u = Value.int i t from r); cases e; rfl
  | str x => obtain ⟨t, e⟩ := (show ∃ t, u = Value.str x t from r); cases e; rfl
  | byt b => obtain ⟨t, e⟩ := (show ∃ t, u = Value.bytes b t from r); cases e; rfl
  | flt b => obtain ⟨t, e⟩ := (show ∃ t, u = Value.float b t from r); cases e; rfl
  | ref a => cases (show u = Value.ref a from r); rfl
  | ty n => cases (show u = Value.type n from r); rfl
section
variable {P : Program} {w : World} {H H' : Hp} {h h' : Heap} {a C dx : Addr} {fs fs' : List (Str × V)}
theorem ins_get (hok : HOk P w H h) (e : H a = some (.ins C dx fs)) : ∃ mA, ObjM h a dx C mA ∧ (∀ f, RelO (fs.lookup f) (mA f)) ∧ PySem.Within mA (fs.map (·.1)) ∧ fs.length ≤ 1000 ∧ H dx = some (.own a) := by
  obtain ⟨d, z, ne, ob, mA, n, r, q⟩ := (show ObjOk P w H h a (.ins C dx fs) from hok a _ e)
  exact ⟨mA, ⟨ob, n, ne⟩, r, q, z, d⟩
end
structure Cls (K : PySem.W.Frag) (C : Addr) : Prop where
  pg : PySem.W.plainGet K C Str.empty = true
  hd : PySem.W.hasDictIn K C = true
  po : PySem.W.plainOver K C = true
  sa : PySem.W.findIn K (.ref C) "__setattr__" = some (some (.builtin "object.__setattr__"))
theorem Cls.get {K : PySem.W.Frag} {C : Addr} (c : Cls K C) (f : Str) : PySem.W.plainGet K C f = true := c.pg
def NoAttr (K : PySem.W.Frag) (C : Addr) (f : Str) : Prop := PySem.W.findIn K (.ref C) f = some none
theorem NoAttr.taker {K : PySem.W.Frag} {C : Addr} {f : Str} (n : NoAttr K C f) : PySem.W.takerIn K C f = some none := by
  unfold PySem.W.takerIn
  rw [show PySem.W.findIn K (.ref C) f = some none from n]
  rfl
structure Con (K : PySem.W.Frag) (C : Addr) (f : Str) (v : V) (u : Value) : Prop where
  at_ : PySem.W.findIn K (.ref C) f = some (some u)
  rel : RelV v u
  get : PySem.W.specialIn K u "__get__" = some none
  cp : PySem.W.copiedNames.contains f = false
structure Meth (K : PySem.W.Frag) (C : Addr) (m : Str) (f : Addr) : Prop where
  at_ : PySem.W.findIn K (.ref C) m = some (some (.ref f))
  fn : PySem.W.isFn K (.ref f) = true
  kp : PySem.W.keepIn K (.ref f) = true
section
variable {X : Cx} {pins : List (Addr × Obj)} {σ : St} {H : Hp} {s : Shared} {a C dx : Addr} {fs : List (Str × V)} {f : Str} {v : V} {A : Around} {E : Value → Shared → Prop}
theorem getattr_ok {b : Bool} {Q : Value → Shared → Prop} (I : Inv X pins σ H s) (e : H a = some (.ins C dx fs)) (c : Cls X.K C) (n : NoAttr X.K C f) (l : fs.lookup f = some v)
    (h : ∀ u s', Inv X pins σ H s' → RelV v u → Q u s') : wpAny (model X.prog X.w) A (getAttr (.ref a) f b) Q E s := by
  obtain ⟨mA, O, r, _, _, _⟩ := ins_get I.hok e
  obtain ⟨u, hu, ru⟩ := RelO.some_of (v := v) (o := mA f) (by rw [← l]; exact r f)
  exact get_map I.kIn O (c.get f) c.hd n hu (handed_of ru) (h u _ (I.tok _) ru)
theorem getmeth_ok {m : Str} {g : Addr} {pl : Sem Bool} {Q : Value × List Value → Shared → Prop} (I : Inv X pins σ H s) (e : H a = some (.ins C dx fs)) (c : Cls X.K C) (k : Meth X.K C m g) (l : fs.lookup m = none)
    (h : Q (.ref g, [.ref a]) s) : wpAny (model X.prog X.w) A (getMethod (.ref a) m pl) Q E s := by
  obtain ⟨mA, O, r, _, _, _⟩ := ins_get I.hok e
  have hn : mA m = none := RelO.none_of (by rw [← l]; exact r m)
  exact get_meth I.kIn O (c.get m) k.at_ k.fn hn h
theorem setattr_ok {y : V} {u : Value} {Q : Unit → Shared → Prop} (I : Inv X pins σ H s) (e : H a = some (.ins C dx fs)) (c : Cls X.K C) (n : NoAttr X.K C f) (hl : fs.length < 1000) (ry : RelV y u)
    (h : ∀ s', Inv X pins σ (upd H a (.ins C dx (putF f y fs))) s' → Q () s') : wpAny (model X.prog X.w) A (setAttr (.ref a) f u) Q E s := by
  obtain ⟨mA, O, r, wi, _, ho⟩ := ins_get I.hok e
  have hz : (fs.map (·.1)).length ≤ sizeLine := by rw [List.length_map, sizeLine_eq]; omega
  refine set_map I.kIn O c.sa c.po n.taker c.hd wi hz fun h' O' sb => h _ ?_
  have hd : ∃ o, h'.get? dx = some o := let ⟨o, _, _, e', _⟩ := O'.ns; ⟨o, e'⟩
  refine I.write (x := a) (e := dx) (by rw [e]; exact True.intro) (.inr ho) (fun b q hb z => (sb.2 b hb).trans z) hd ?_
  refine ⟨by rw [upd_ne O.ne]; exact ho, ?_, O.ne, O'.obj, _, O'.ns, fun g => ?_, fun g hg => ?_⟩
  · have := length_putF f y fs; omega
  · show RelO ((putF f y fs).lookup g) (if g = f then some u else mA g)
    rw [lookup_putF]
    by_cases q : g = f
    · rw [if_pos q, if_pos q]; exact ry
    · rw [if_neg q, if_neg q]; exact r g
  · by_cases q : g = f
    · rw [q]; exact (keys_putF f y fs).1
    · refine (keys_putF f y fs).2 g (wi g fun z => hg ?_)
      show (if g = f then some u else mA g) = none
      rw [if_neg q]; exact z
theorem Inv.made (I : Inv X pins σ H s) : Inv X pins σ (upd (upd H s.heap.objs.size (.own (s.heap.objs.size + 1))) (s.heap.objs.size + 1) (.ins C s.heap.objs.size []))
    { s with heap := (s.heap.push PySem.W.emptyDict).push (PySem.W.instObj C s.heap.objs.size) } := by
  have e1 : (s.heap.push PySem.W.emptyDict).get? s.heap.objs.size = some PySem.W.emptyDict := Heap.get?_push_size s.heap rfl
  have e2 : ((s.heap.push PySem.W.emptyDict).push (PySem.W.instObj C s.heap.objs.size)).get? (s.heap.objs.size + 1) = some (PySem.W.instObj C s.heap.objs.size) := by
    have := Heap.get?_push_size (s.heap.push PySem.W.emptyDict) (o := PySem.W.instObj C s.heap.objs.size) rfl
    rwa [Heap.size_push] at this
  have e3 : (s.heap.push PySem.W.emptyDict).Ns s.heap.objs.size (fun _ => none) := ⟨PySem.W.emptyDict, #[], _, e1, rfl, (fun e he => absurd he (by simp)), fun _ => rfl⟩
  have I1 := I.laid (a := s.heap.objs.size) (o := .own (s.heap.objs.size + 1)) (h' := s.heap.push PySem.W.emptyDict) (t' := s.toks) (fun b u q => Heap.get?_push_of_some _ q) (Nat.le_refl _) ⟨_, e1⟩
  refine I1.laid (a := s.heap.objs.size + 1) (o := .ins C s.heap.objs.size []) (t' := s.toks) (fun b u q => Heap.get?_push_of_some _ q) (Nat.le_of_eq (Heap.size_push _ _)) ?_
  have ne : s.heap.objs.size ≠ s.heap.objs.size + 1 := Nat.ne_of_lt (Nat.lt_succ_self _)
  refine ⟨by rw [upd_ne ne, upd_same], Nat.zero_le _, ne, e2, fun _ => none, (Heap.Ns1.of_empty e3).at fun o q => Heap.get?_push_of_some _ q, fun _ => True.intro, fun y hy => absurd rfl hy⟩
theorem attr_of {prog : Program} {w : World} {env : Env} {e : Expr} {f : Str} {pos : Pos} {s : Shared} {Q : Value → Shared → Prop} (hb : attributeBase e f env (eval e env) = eval e env)
    (h : wpAny (model prog w) A (eval e env) (fun o s₁ => wpAny (model prog w) A (getAttr o f true) Q E s₁) E s) : wpAny (model prog w) A (eval (.Attribute e f pos) env) Q E s :=
  Attribute_any_ h (by rw [arm_eval_Attribute, hb])
end
def tFld (K : PySem.W.Frag) (ta : TE) (f : Str) : TE := fun σ H Q => ta σ H fun x H1 => ∃ a C dx fs v, x = .ref a ∧ H1 a = some (.ins C dx fs) ∧ Cls K C ∧ NoAttr K C f ∧ fs.lookup f = some v ∧ Q v H1
def sFld (K : PySem.W.Frag) (ta tv : TE) (f : Str) : TS := fun D σ H => tv σ H fun y H1 => ta σ H1 fun x H2 => ∃ a C dx fs, x = .ref a ∧ H2 a = some (.ins C dx fs) ∧ Cls K C ∧ NoAttr K C f ∧ fs.length < 1000 ∧
  D.nx σ (upd H2 a (.ins C dx (putF f y fs)))
section
variable {X : Cx} {o e value : Expr} {f : Str} {pos pos' tpos : Pos} {ta tv : TE}
theorem pe_fld (he : PE X e ta) (hb : attributeBase e f X.env (eval e X.env) = eval e X.env) : PE X (.Attribute e f pos) (tFld X.K ta f) := by
  intro pins s σ H Q I h
  refine attr_of hb (thn (he pins s σ H _ I h) fun u s1 ⟨x, H1, I1, rx, a, C, dx, fs, v, ex, ea, c, n, l, q⟩ => ?_)
  subst ex
  obtain rfl : u = Value.ref a := rx
  exact getattr_ok I1 ea c n l fun u' s2 I2 ru => ⟨v, H1, I2, ru, q⟩
theorem ps_fld (ha : PE X o ta) (hv : PE X value tv) (hs : swapsWith value (some (.Attribute o f pos')) pos.line X.env = pure false) : PS X (.Assign [.Attribute o f pos'] value pos) (sFld X.K ta tv f) := by
  intro pins s σ H D I h
  refine plainObj_wpAny_Assign_Attribute (thn (hv pins s σ H _ I h) fun u s1 ⟨y, H1, I1, ry, q⟩ => thn (ha pins s1 σ H1 _ I1 q) fun ov s2 ⟨x, H2, I2, rx, a, C, dx, fs, ex, ea, c, n, l, q2⟩ => ?_) hs
  subst ex
  obtain rfl : ov = Value.ref a := rx
  exact setattr_ok I2 ea c n l ry fun s3 I3 => ⟨σ, _, I3, q2⟩
end
section
variable {X : Cx} {pins : List (Addr × Obj)} {σ : St} {H : Hp} {s : Shared} {A : Around} {E : Value → Shared → Prop} {Q : Value → Shared → Prop} {c : Value} {b : Bool}
inductive TyOf (K : PySem.W.Frag) (H : Hp) : V → Value → Prop where
  | non : TyOf K H .non (.type "NoneType")
  | bl (x : Bool) : TyOf K H (.bl x) (.type "bool")
  | int (i : Int) : TyOf K H (.int i) (.type "int")
  | str (x : Str) : TyOf K H (.str x) (.type "str")
  | flt (x : UInt64) : TyOf K H (.flt x) (.type "float")
  | lst {a : Addr} {xs : List V} (e : H a = some (.lst xs)) : TyOf K H (.ref a) (.type "list")
  | frz {a : Addr} {o : Obj} {xs : List V} (e : H a = some (.frz o (.lst xs))) : TyOf K H (.ref a) (.type "list")
  | tup {a : Addr} {xs : List V} (e : H a = some (.tup xs)) : TyOf K H (.ref a) (.type "tuple")
  | dK {a : Addr} {kvs : List (Key × V)} (e : H a = some (.dK kvs)) : TyOf K H (.ref a) (.type "dict")
  | dT {a : Addr} {kvs : List (List Key × V)} (e : H a = some (.dT kvs)) : TyOf K H (.ref a) (.type "dict")
  | ins {a C dx : Addr} {fs : List (Str × V)} (e : H a = some (.ins C dx fs)) (cl : Cls K C) (ha : PySem.W.findIn K (.ref C) "__class__" = some (some (.builtin "object.__class__")))
      (hn : PySem.W.specialIn K (.builtin "object.__class__") "__get__" = some (some (.builtin "getset_descriptor.__get__"))) (htk : PySem.W.takesIn K (.builtin "object.__class__") = some true)
      (hm : PySem.W.mroIn K C (.type "object") = some true) : TyOf K H (.ref a) (.ref C)
theorem isinst_ok {x : V} {u t : Value} (I : Inv X pins σ H s) (rx : RelV x u) (ty : TyOf X.K H x t) (e : PySem.W.kitOne X.K t c = some b) (h : ∀ tk, Q (.bool b) { s with toks := tk }) :
    wpAny (model X.prog X.w) A (call (.builtin "isinstance") [u, c]) Q E s := by
  cases ty with
  | non => cases (show u = Value.none from rx); exact PySem.W.kia_one PySem.W.kitx_none I.kIn True.intro e (fun z => nomatch z) h
  | bl y => cases (show u = Value.bool y from rx); exact PySem.W.kia_one PySem.W.kitx_bool I.kIn True.intro e (fun z => nomatch z) h
  | int i => obtain ⟨t, q⟩ := (show ∃ t, u = Value.int i t from rx); cases q; exact PySem.W.kia_one PySem.W.kitx_int I.kIn True.intro e (fun z => nomatch z) h
  | str y => obtain ⟨t, q⟩ := (show ∃ t, u = Value.str y t from rx); cases q; exact PySem.W.kia_one PySem.W.kitx_str I.kIn True.intro e (fun z => nomatch z) h
  | flt y => obtain ⟨t, q⟩ := (show ∃ t, u = Value.float y t from rx); cases q; exact PySem.W.kia_one PySem.W.kitx_float I.kIn True.intro e (fun z => nomatch z) h
  | @lst a xs ea =>
    cases (show u = Value.ref a from rx)
    obtain ⟨_, _, n, _, h1⟩ := (show ObjOk X.prog X.w H s.heap a (.lst xs) from I.hok a _ ea)
    exact PySem.W.kia_one PySem.W.kitx_list I.kIn ⟨_, h1, rfl⟩ e (fun z => nomatch z) h
  | @frz a ob xs ea =>
    cases (show u = Value.ref a from rx)
    obtain ⟨_, _, _, n, _, h1⟩ := (show ObjOk X.prog X.w H s.heap a (.frz ob (.lst xs)) from I.hok a _ ea)
    exact PySem.W.kia_one PySem.W.kitx_list I.kIn ⟨_, h1, rfl⟩ e (fun z => nomatch z) h
  | @tup a xs ea =>
    cases (show u = Value.ref a from rx)
    obtain ⟨_, _, _, p⟩ := (show ObjOk X.prog X.w H s.heap a (.tup xs) from I.hok a _ ea)
    obtain ⟨o, h1, h2, _⟩ := p
    exact PySem.W.kia_one PySem.W.kitx_tuple I.kIn ⟨o, h1, h2⟩ e (fun z => nomatch z) h
  | @dK a kvs ea =>
    cases (show u = Value.ref a from rx)
    obtain ⟨_, _, vs, _, p⟩ := (show ObjOk X.prog X.w H s.heap a (.dK kvs) from I.hok a _ ea)
    obtain ⟨o, es, ep, h1, h2, _⟩ := p
    exact PySem.W.kia_one PySem.W.kitx_dict I.kIn ⟨o, h1, h2.1⟩ e (fun z => nomatch z) h
  | @dT a kvs ea =>
    cases (show u = Value.ref a from rx)
    obtain ⟨_, _, xs, _, o, es, ep, h1, h2, _⟩ := (show ObjOk X.prog X.w H s.heap a (.dT kvs) from I.hok a _ ea)
    exact PySem.W.kia_one PySem.W.kitx_dict I.kIn ⟨o, h1, h2.1⟩ e (fun z => nomatch z) h
  | @ins a C dx fs ea cl ha hn htk hm =>
    cases (show u = Value.ref a from rx)
    obtain ⟨mA, O, _⟩ := ins_get I.hok ea
    obtain ⟨od, J, _⟩ := O.look
    exact PySem.W.kia_one (PySem.W.kitx_own (cl.get _) cl.hd ha hn htk hm) I.kIn J e (fun z => nomatch z) h
end
end L2
namespace L2
open PySem PySem.Spec PyProof.Rows
structure Room (k : Nat) (A : Around) : Prop where
  hd : A.handled = none
  dp : A.depth + 3 * k + 5 < recursionLimit
  un : A.units + 16 * k + 200 < cLine
theorem Room.mono {j k : Nat} {A : Around} (r : Room k A) (h : j ≤ k) : Room j A := ⟨r.hd, by have := r.dp; omega, by have := r.un; omega⟩
theorem Room.deeper {k : Nat} {A : Around} (r : Room (k + 1) A) (env : Env) : Room k (A.deeper env) :=
  ⟨r.hd, by have := r.dp; show A.depth + 1 + 3 * k + 5 < _; omega, by have := r.un; show A.units + 3 + 16 * k + 200 < _; omega⟩
theorem Room.in1 {k : Nat} {A : Around} (r : Room (k + 1) A) : Room k A.in1 :=
  ⟨r.hd, by have := r.dp; show A.depth + 3 * k + 5 < _; omega, by have := r.un; show A.units + 1 + 16 * k + 200 < _; omega⟩
theorem make_depth {A : Around} {C : Addr} {us : List Value} {kw : List (Str × Value)} : (A.under (.builtin "type.__call__" ⟨.ref C :: us, kw⟩)).depth = A.depth + 1 := by
  first | rfl | simp [Around.under, Code.weight, Code.isCreation, Code.isGuard, Code.isCaller, Code.frames, Code.isFrame, guardIds]
theorem make_units {A : Around} {C : Addr} {us : List Value} {kw : List (Str × Value)} : (A.under (.builtin "type.__call__" ⟨.ref C :: us, kw⟩)).units = A.units + 1 := by
  first | rfl | simp [Around.under, Code.cUnits, Code.frames, Code.isFrame]
theorem Room.make {k : Nat} {A : Around} (r : Room (k + 1) A) (C : Addr) (us : List Value) (kw : List (Str × Value)) : Room k (A.under (.builtin "type.__call__" ⟨.ref C :: us, kw⟩)) :=
  ⟨r.hd, by have := r.dp; rw [make_depth]; omega, by have := r.un; rw [make_units]; omega⟩
theorem Room.depth {k : Nat} {A : Around} (r : Room k A) : A.depth < recursionLimit := by have := r.dp; omega
theorem Room.units {k : Nat} {A : Around} (r : Room k A) : A.units + 64 < cLine := by have := r.un; omega
def tNil : TA := fun _ H Q => Q [] H
def tCons (ta : TE) (tr : TA) : TA := fun σ H Q => ta σ H fun x H1 => tr σ H1 fun xs H2 => Q (x :: xs) H2
section
variable {X : Cx} {e : Expr} {es : List Expr} {te : TE} {t : TA} {pos : Pos}
theorem pa_nil : PA X [] tNil := fun _ _ _ _ H Q I h => Calls.spliced_nil ⟨[], H, I, .nil, h⟩
theorem pa_cons (ha : PE X e te) (hr : PA X es t) (hs : starEach (e :: es) X.env = (false, eval e X.env) :: starEach es X.env := by rfl) : PA X (e :: es) (tCons te t) := by
  intro pos pins s σ H Q I h
  rw [hs]
  show wpAny _ _ (spliced ((false, eval e X.env) :: backTo pos (starEach es X.env))) _ _ s
  refine Calls.spliced_cons (thn (ha pins s σ H _ I h) fun u s1 ⟨x, H1, I1, r1, q1⟩ => ?_)
  exact thn (hr pos pins s1 σ H1 _ I1 q1) fun us s2 ⟨xs, H2, I2, r2, q2⟩ => ⟨x :: xs, H2, I2, .cons r1 r2, q2⟩
def tTup (t : TA) : TE := fun σ H Q => t σ H fun xs H1 => xs.length ≤ sizeLine ∧ ∀ p, H1 p = none → Q (.ref p) (upd H1 p (.tup xs))
def tLst (t : TA) : TE := fun σ H Q => t σ H fun xs H1 => xs.length ≤ sizeLine ∧ ∀ p, H1 p = none → Q (.ref p) (upd H1 p (.lst xs))
theorem pe_tup {x1} (h : PA X es t) : PE X (.Tuple es x1 pos) (tTup t) := by
  intro pins s σ H Q I hq
  refine wpAny_Tuple_spliced (thn (h pos pins s σ H _ I hq) fun us s1 ⟨xs, H1, I1, r, z, q⟩ => ⟨by rw [← r.length]; exact z, ?_⟩)
  have hf : H1 s1.heap.objs.size = none := I1.hok.fresh (Nat.le_refl _)
  refine ⟨.ref s1.heap.objs.size, upd H1 s1.heap.objs.size (.tup xs), I1.laid (t' := s1.toks) (fun b u e => Heap.get?_push_of_some _ e) (Nat.le_refl _) ?_, rfl, q _ hf⟩
  exact ⟨z, us, r, ⟨_, Heap.get?_push_size _ rfl, rfl, _, rfl⟩⟩
theorem pe_lst (h : PA X es t) : PE X (.List es pos) (tLst t) := by
  intro pins s σ H Q I hq
  refine wpAny_List_spliced (thn (h pos pins s σ H _ I hq) fun us s1 ⟨xs, H1, I1, r, z, q⟩ => ⟨by rw [← r.length]; exact z, ?_⟩)
  have hf : H1 s1.heap.objs.size = none := I1.hok.fresh (Nat.le_refl _)
  refine ⟨.ref s1.heap.objs.size, upd H1 s1.heap.objs.size (.lst xs), I1.laid (t' := s1.toks) (fun b u e => Heap.get?_push_of_some _ e) (Nat.le_refl _) ?_, rfl, q _ hf⟩
  exact ⟨z, us, 0, r, Heap.get?_push_size _ rfl⟩
end
abbrev Sp := List V → Hp → VK → XK → Prop
abbrev CXT := List Env → Hp → Shared → XK → Value → Shared → Prop
structure Env0 (P : Program) (w : World) (K : PySem.W.Frag) (mg : Str → Option Value) (base : Heap) (A : Around) (outer : List Env) (s : Shared) (H : Hp) : Prop where
  frames : A.frames = some outer
  mod : Mod K mg base
  bs : ∀ b o, base.get? b = some o → s.heap.get? b = some o ∧ H b = none
  bsz : base.objs.size ≤ s.heap.objs.size
  funs : s.heap.FunFrames base outer
  frf : ∀ b ∈ frs outer, H b = none
  hok : HOk P w H s.heap
  bare : AllBare s.gens
def CE (outer : List Env) (P : Program) (w : World) (H : Hp) (s : Shared) (Q : VK) (u : Value) (s' : Shared) : Prop :=
  ∃ v H', s'.os = s.os ∧ AllBare s'.gens ∧ Un (frs outer) [] H H' s.heap s'.heap ∧ HOk P w H' s'.heap ∧ RelV v u ∧ Q v H'
def CR (CX : CXT) (outer : List Env) (P : Program) (w : World) (H : Hp) (s : Shared) (Q : VK) (E : XK) (r : Result) (s' : Shared) : Prop :=
  match r with
  | .ok (.ret u) => CE outer P w H s Q u s'
  | .ok _ => False
  | .error e => CX outer H s E e s'
structure FnOk (P : Program) (w : World) (K : PySem.W.Frag) (mg : Str → Option Value) (base : Heap) (CX : CXT) (k : Nat) (f : Addr) (fd : FuncData) (ps : List Str) (sp : Sp) : Prop where
  len : ∀ vs H Q E, sp vs H Q E → vs.length = ps.length
  run : ∀ (A : Around) (outer : List Env) (s : Shared) (H : Hp) (args : Args) (us : List Value) (vs : List V) (Q : VK) (E : XK), Room k A → Env0 P w K mg base A outer s H → BindsTo s fd args (ps.zip us) → Vals vs us → sp vs H Q E →
    codeAny (model P w) A (.call (.ref f) args) (CR CX outer P w H s Q E) s
theorem FnOk.mono {P : Program} {w : World} {K : PySem.W.Frag} {mg : Str → Option Value} {base : Heap} {CX : CXT} {j k : Nat} {f : Addr} {fd : FuncData} {ps : List Str} {sp : Sp} (F : FnOk P w K mg base CX j f fd ps sp) (h : j ≤ k) :
    FnOk P w K mg base CX k f fd ps sp := ⟨F.len, fun A outer s H args us vs Q E hr => F.run A outer s H args us vs Q E (hr.mono h)⟩
theorem FnOk.imp {P : Program} {w : World} {K : PySem.W.Frag} {mg : Str → Option Value} {base : Heap} {CX : CXT} {k : Nat} {f : Addr} {fd : FuncData} {ps : List Str} {sp sp' : Sp} (F : FnOk P w K mg base CX k f fd ps sp)
    (h : ∀ vs H Q E, sp' vs H Q E → sp vs H Q E) : FnOk P w K mg base CX k f fd ps sp' :=
  ⟨fun vs H Q E q => F.len vs H Q E (h _ _ _ _ q), fun A outer s H args us vs Q E hr he hb hv hs => F.run A outer s H args us vs Q E hr he hb hv (h _ _ _ _ hs)⟩
theorem Env0.make {P : Program} {w : World} {K : PySem.W.Frag} {mg : Str → Option Value} {base : Heap} {A : Around} {outer : List Env} {s : Shared} {H : Hp} (e : Env0 P w K mg base A outer s H) (C : Addr) (us : List Value) (kw : List (Str × Value)) :
    Env0 P w K mg base (A.under (.builtin "type.__call__" ⟨.ref C :: us, kw⟩)) outer s H := ⟨by first | exact e.frames | (simpa [Around.under, Code.envs, Code.isFrame, pushEnvs] using e.frames), e.mod, e.bs, e.bsz, e.funs, e.frf, e.hok, e.bare⟩
theorem Env0.in1 {P : Program} {w : World} {K : PySem.W.Frag} {mg : Str → Option Value} {base : Heap} {A : Around} {outer : List Env} {s : Shared} {H : Hp} (e : Env0 P w K mg base A outer s H) :
    Env0 P w K mg base A.in1 outer s H := ⟨e.frames, e.mod, e.bs, e.bsz, e.funs, e.frf, e.hok, e.bare⟩
section
variable {X : Cx} {pins : List (Addr × Obj)} {σ : St} {H : Hp} {s s' : Shared}
theorem Inv.env0 (I : Inv X pins σ H s) : Env0 X.prog X.w X.K X.mg X.base X.A X.stack s H :=
  ⟨I.ok.frames, I.ok.mod, I.bs, Nat.le_trans I.ok.bsz I.sz, I.stack, I.stkFree, I.hok, I.bare⟩
theorem Inv.after {Q : VK} {u : Value} (I : Inv X pins σ H s) (h : CE X.stack X.prog X.w H s Q u s') : EP X pins σ Q u s' := by
  obtain ⟨v, H', os, bare, un, hok, r, q⟩ := h
  obtain ⟨hh, g, d, t, os'⟩ := s'
  obtain rfl : os' = s.os := os
  exact ⟨v, H', I.call (h' := hh) (g' := g) (d' := d) (t' := t) (ch := []) un hok bare (fun b z => absurd z (by simp)), r, q⟩
end
def tCall (sp : Sp) (dvs : List V) (E : XK) (t : TA) : TE := fun σ H Q => t σ H fun vs H1 => sp (vs ++ dvs) H1 Q E
def tMake (C : Addr) (sp : Sp) (dvs : List V) (E : XK) (t : TA) : TE := fun σ H Q => t σ H fun vs H1 => ∀ x dx, H1 x = none → H1 dx = none → dx ≠ x →
  sp (.ref x :: (vs ++ dvs)) (upd (upd H1 dx (.own x)) x (.ins C dx [])) (fun v H2 => v = .non ∧ Q (.ref x) H2) E
def Binds (K : PySem.W.Frag) (fd : FuncData) (ps : List Str) (ds : List Value) : Prop :=
  ∀ (s : Shared) (us : List Value), K.In s.heap → (us ++ ds).length = ps.length → BindsTo s fd ⟨us, []⟩ (ps.zip (us ++ ds))
theorem Binds.all {K : PySem.W.Frag} {fd : FuncData} {ps : List Str} (h : ∀ us : List Value, us.length = ps.length → bindArgs fd ⟨us, []⟩ = pure (ps.zip us)) : Binds K fd ps [] := fun s us _ hl => by
  rw [List.append_nil] at hl ⊢
  exact .of_eq (h us hl)
def Passes (CX : CXT) (X : Cx) (E : XK) : Prop := ∀ (pins : List (Addr × Obj)) (σ : St) (H : Hp) (s : Shared) (e : Value) (s' : Shared), Inv X pins σ H s → CX X.stack H s E e s' → X.xe e s'
section
variable {X : Cx} {CX : CXT} {k : Nat} {f C : Addr} {fd : FuncData} {ps : List Str} {sp : Sp} {dvs : List V} {ds : List Value} {E : XK} {x m : Str} {p pos apos : Pos} {e o : Expr} {es : List Expr} {ta : TE} {t : TA}
theorem run_fn {pins : List (Addr × Obj)} {σ : St} {H : Hp} {s : Shared} {Q : VK} {us : List Value} {vs : List V} (F : FnOk X.prog X.w X.K X.mg X.base CX k f fd ps sp) (hr : Room k X.A) (hb : Binds X.K fd ps ds) (hd : Vals dvs ds) (hx : Passes CX X E)
    (I : Inv X pins σ H s) (r : Vals vs us) (h : sp (vs ++ dvs) H Q E) : wpAny (model X.prog X.w) X.A (call (.ref f) us) (EP X pins σ Q) X.xe s := by
  have r2 : Vals (vs ++ dvs) (us ++ ds) := r.append hd
  have hl : (us ++ ds).length = ps.length := by rw [← r2.length]; exact F.len _ _ _ _ h
  refine wpAny_call (codeAny_mono (F.run X.A X.stack s H ⟨us, []⟩ (us ++ ds) (vs ++ dvs) Q E hr I.env0 (hb s us I.kIn hl) r2 h) fun r s' hq => ?_)
  cases r with
  | error e => exact hx pins σ H s e s' I hq
  | ok fl =>
    cases fl with
    | ret u => exact I.after hq
    | next => exact False.elim hq
    | brk => exact False.elim hq
    | cont => exact False.elim hq
theorem pe_call (F : FnOk X.prog X.w X.K X.mg X.base CX k f fd ps sp) (hr : Room k X.A) (hg : Gl X x) (hm : X.mg x = some (.ref f)) (hk : PySem.W.keepIn X.K (.ref f) = true) (hb : Binds X.K fd ps ds) (hd : Vals dvs ds) (hx : Passes CX X E)
    (ha : PA X (e :: es) t) (hdb : (x == ("__debug__" : Str)) = false := by decide) (he : starEach (e :: es) X.env = (false, eval e X.env) :: starEach es X.env := by rfl) (hpl : (backTo pos (starEach es X.env)).any (·.1) = false := by rfl) :
    PE X (.Call (.Name x p) (e :: es) [] pos) (tCall sp dvs E t) := by
  intro pins s σ H Q I h
  refine wpAny_Call_Name_kw (ld_glob I hg hm ?_ hdb)
  refine PySem.W.callWith_K (h₀ := X.base) I.ok.mod.kin hk (thn (ha pos pins s σ H _ I h) fun us s1 ⟨vs, H1, I1, r, q⟩ => ⟨I1.kIn, ?_⟩) he hpl
  exact run_fn F hr hb hd hx I1 r q
structure Mk (K : PySem.W.Frag) (C f : Addr) : Prop where
  makes : PySem.W.makesIn K C = true
  init : PySem.W.findIn K (.ref C) "__init__" = some (some (.ref f))
  fn : PySem.W.isFn K (.ref f) = true
  kp : PySem.W.keepIn K (.ref C) = true
theorem run_make {pins : List (Addr × Obj)} {σ : St} {H : Hp} {s : Shared} {Q : VK} {us : List Value} {vs : List V} (M : Mk X.K C f) (F : FnOk X.prog X.w X.K X.mg X.base CX k f fd ps sp) (hr : Room (k + 1) X.A) (hb : Binds X.K fd ps ds) (hd : Vals dvs ds)
    (hx : Passes CX X E) (I : Inv X pins σ H s) (r : Vals vs us)
    (h : ∀ x dx, H x = none → H dx = none → dx ≠ x → sp (.ref x :: (vs ++ dvs)) (upd (upd H dx (.own x)) x (.ins C dx [])) (fun v H2 => v = .non ∧ Q (.ref x) H2) E) :
    wpAny (model X.prog X.w) X.A (call (.ref C) us) (EP X pins σ Q) X.xe s := by
  have hq := h (s.heap.objs.size + 1) s.heap.objs.size (I.hok.fresh (Nat.le_succ _)) (I.hok.fresh (Nat.le_refl _)) (Nat.ne_of_lt (Nat.lt_succ_self _))
  have I2 := Inv.made (C := C) I
  have r2 : Vals (V.ref (s.heap.objs.size + 1) :: (vs ++ dvs)) (Value.ref (s.heap.objs.size + 1) :: (us ++ ds)) := .cons rfl (r.append hd)
  have hl : (Value.ref (s.heap.objs.size + 1) :: us ++ ds).length = ps.length := by
    have e := r2.length
    rw [F.len _ _ _ _ hq] at e
    exact e.symm
  refine wpAny_call (make_map (f := f) I.kIn M.makes M.init (beq_iff_eq.mp M.fn) (codeAny_mono (F.run _ X.stack _ _ ⟨Value.ref (s.heap.objs.size + 1) :: us, []⟩ (Value.ref (s.heap.objs.size + 1) :: (us ++ ds)) _ _ E (hr.make C us [])
    (I2.env0.make C us []) (hb _ (Value.ref (s.heap.objs.size + 1) :: us) I2.kIn hl) r2 hq) fun r s' hq' => ?_))
  cases r with
  | error e => exact hx pins σ _ _ e s' I2 hq'
  | ok fl =>
    cases fl with
    | ret u =>
      obtain ⟨v, H', I3, rv, ev, q3⟩ := I2.after hq'
      subst ev
      exact ⟨rv, ⟨V.ref (s.heap.objs.size + 1), H', I3, rfl, q3⟩⟩
    | next => exact False.elim hq'
    | brk => exact False.elim hq'
    | cont => exact False.elim hq'
theorem pe_make (M : Mk X.K C f) (F : FnOk X.prog X.w X.K X.mg X.base CX k f fd ps sp) (hr : Room (k + 1) X.A) (hg : Gl X x) (hm : X.mg x = some (.ref C)) (hb : Binds X.K fd ps ds) (hd : Vals dvs ds) (hx : Passes CX X E)
    (ha : PA X (e :: es) t) (hdb : (x == ("__debug__" : Str)) = false := by decide) (he : starEach (e :: es) X.env = (false, eval e X.env) :: starEach es X.env := by rfl) (hpl : (backTo pos (starEach es X.env)).any (·.1) = false := by rfl) :
    PE X (.Call (.Name x p) (e :: es) [] pos) (tMake C sp dvs E t) := by
  intro pins s σ H Q I h
  refine wpAny_Call_Name_kw (ld_glob I hg hm ?_ hdb)
  refine PySem.W.callWith_K (h₀ := X.base) I.ok.mod.kin M.kp (thn (ha pos pins s σ H _ I h) fun us s1 ⟨vs, H1, I1, r, q⟩ => ⟨I1.kIn, ?_⟩) he hpl
  exact run_make M F hr hb hd hx I1 r q
end
def PK (X : Cx) (kws : List Keyword) (t : TA) : Prop :=
  ∀ (pos : Pos) (pins : List (Addr × Obj)) (s : Shared) (σ : St) (H : Hp) (Q : List V → Hp → Prop), Inv X pins σ H s → t σ H Q → wpAny (model X.prog X.w) X.A (evalAll ((backToKw pos (keywordEach kws X.env)).map (·.2))) (AP X pins σ Q) X.xe s
section
variable {X : Cx} {CX : CXT} {k : Nat} {f C : Addr} {fd : FuncData} {ps ks : List Str} {sp : Sp} {E : XK} {x m : Str} {p pos apos kpos : Pos} {e o : Expr} {es : List Expr} {kws : List Keyword} {te ta : TE} {t tk : TA} {nm : Option Str}
theorem pk_nil : PK X [] tNil := fun _ _ _ _ H Q I h => wpAny_evalAll_nil ⟨[], H, I, .nil, h⟩
theorem pk_cons (ha : PE X e te) (hr : PK X kws t) : PK X (⟨nm, e, kpos⟩ :: kws) (tCons te t) := by
  intro pos pins s σ H Q I h
  show wpAny _ _ (evalAll ((do let v ← eval e X.env; standAt pos; pure v) :: (backToKw pos (keywordEach kws X.env)).map (·.2))) _ _ s
  refine wpAny_evalAll_cons (wpAny_bind (thn (ha pins s σ H _ I h) fun u s1 ⟨x, H1, I1, r1, q1⟩ => wpAny_bind (wpAny_standAt (wpAny_pure ?_))))
  exact thn (hr pos pins s1 σ H1 _ I1 q1) fun us s2 ⟨xs, H2, I2, r2, q2⟩ => ⟨x :: xs, H2, I2, .cons r1 r2, q2⟩
structure KBinds (K : PySem.W.Frag) (fd : FuncData) (ps ks : List Str) (g : List Value → List Value → List Value) (gV : List V → List V → List V) : Prop where
  to : ∀ (s : Shared) (us ws : List Value), K.In s.heap → (g us ws).length = ps.length → BindsTo s fd ⟨us, ks.zip ws⟩ (ps.zip (g us ws))
  rel : ∀ {vs : List V} {us : List Value} {zs : List V} {ws : List Value}, Vals vs us → Vals zs ws → Vals (gV vs zs) (g us ws)
variable {g : List Value → List Value → List Value} {gV : List V → List V → List V}
end
structure FnScope (N P : List Str) (sc : Scope) : Prop where
  kind : sc.kind = .function
  co : sc.isCoroutine = false
  gen : sc.isGenerator = false
  nd : N.Nodup
  pre : N.take P.length = P
  par : ∀ x ∈ P, sc.names.lookup x = some .local ∨ sc.names.lookup x = some .cell
  nofree : ∀ y ∈ sc.names, y.2 ≠ .free
theorem bindL_out {kindOf : Str → Option NameKind} {x : Str} : ∀ {binds : List (Str × Value)} {m : Str → Option Value}, (∀ v, (x, v) ∉ binds) → bindL kindOf binds m x = m x
  | [], _, _ => rfl
  | (n, v) :: r, m, h => by
    unfold bindL
    rw [bindL_out fun w hw => h w (List.mem_cons_of_mem _ hw)]
    split
    · have : x ≠ n := by rintro rfl; exact h v List.mem_cons_self
      simp [this]
    · rfl
theorem bindC_out {kindOf : Str → Option NameKind} {x : Str} : ∀ {binds : List (Str × Value)} {m : Str → Option Value}, (∀ v, (x, v) ∉ binds) → bindC kindOf binds m x = m x
  | [], _, _ => rfl
  | (n, v) :: r, m, h => by
    unfold bindC
    rw [bindC_out fun w hw => h w (List.mem_cons_of_mem _ hw)]
    split
    · rfl
    · have : x ≠ n := by rintro rfl; exact h v List.mem_cons_self
      simp [this]
theorem bindL_get {kindOf : Str → Option NameKind} {x : Str} {v : Value} : ∀ {P : List Str} {vs : List Value} {i : Nat} {m : Str → Option Value}, P.Nodup → P[i]? = some x → vs[i]? = some v → kindOf x = some .local →
    bindL kindOf (P.zip vs) m x = some v
  | [], _, _, _, _, h, _, _ => by simp at h
  | _ :: _, [], _, _, _, _, h, _ => by simp at h
  | p :: P, w :: vs, 0, m, nd, h1, h2, hk => by
    simp at h1 h2; subst h1; subst h2
    show bindL kindOf ((p, w) :: P.zip vs) m p = _
    unfold bindL
    rw [bindL_out fun v hv => (List.nodup_cons.mp nd).1 (List.of_mem_zip hv).1, if_pos hk]
    simp
  | p :: P, w :: vs, i + 1, m, nd, h1, h2, hk => by
    show bindL kindOf ((p, w) :: P.zip vs) m x = _
    unfold bindL
    exact bindL_get (i := i) (List.nodup_cons.mp nd).2 (by simpa using h1) (by simpa using h2) hk
theorem bindC_get {kindOf : Str → Option NameKind} {x : Str} {v : Value} : ∀ {P : List Str} {vs : List Value} {i : Nat} {m : Str → Option Value}, P.Nodup → P[i]? = some x → vs[i]? = some v → kindOf x ≠ some .local →
    bindC kindOf (P.zip vs) m x = some v
  | [], _, _, _, _, h, _, _ => by simp at h
  | _ :: _, [], _, _, _, _, h, _ => by simp at h
  | p :: P, w :: vs, 0, m, nd, h1, h2, hk => by
    simp at h1 h2; subst h1; subst h2
    show bindC kindOf ((p, w) :: P.zip vs) m p = _
    unfold bindC
    rw [bindC_out fun v hv => (List.nodup_cons.mp nd).1 (List.of_mem_zip hv).1, if_neg hk]
    simp
  | p :: P, w :: vs, i + 1, m, nd, h1, h2, hk => by
    show bindC kindOf ((p, w) :: P.zip vs) m x = _
    unfold bindC
    exact bindC_get (i := i) (List.nodup_cons.mp nd).2 (by simpa using h1) (by simpa using h2) hk
def start (N : List Str) (vs : List V) : St := vs.map some ++ List.replicate (N.length - vs.length) none
def cxOf (CX : CXT) (P : Program) (w : World) (K : PySem.W.Frag) (mg : Str → Option Value) (base : Heap) (N : List Str) (qual : Str) (scope : Scope) (f : Addr) (cd : Value) (A : Around) (outer : List Env) (s : Shared) (H : Hp) (E : XK) : Cx where
  prog := P
  w := w
  K := K
  mg := mg
  base := base
  A := A.deeper (envOfC qual scope s.heap.objs.size f cd)
  N := N
  s₀ := s
  H₀ := H
  env := envOfC qual scope s.heap.objs.size f cd
  outer := outer
  stack := envOfC qual scope s.heap.objs.size f cd :: outer
  ex := []
  calm := true
  fn := fun _ => true
  pn := []
  xe := fun e s' => wpAny (model P w) (A.deeper (envOfC qual scope s.heap.objs.size f cd)) (leaving (envOfC qual scope s.heap.objs.size f cd) e) (fun _ s'' => CX outer H s E e s'') (fun e' s'' => CX outer H s E e' s'') s'
theorem cell_has {sc : Scope} {n : Nat} {x : Str} (h : sc.names.lookup x = some .cell) : ∃ c, (cellsFrom n sc.names []).lookup x = some c := by
  have q := PySem.W.cellsFrom_some sc.names n [] (.inl h)
  exact Option.isSome_iff_exists.mp q
theorem inv_start {CX : CXT} {P : Program} {w : World} {K : PySem.W.Frag} {mg : Str → Option Value} {base : Heap} {N ps : List Str} {qual : Str} {scope : Scope} {f : Addr} {cd : Value} {A : Around} {outer : List Env} {s s1 : Shared} {H : Hp} {E : XK} {us : List Value} {vs : List V}
    (S : FnScope N ps scope) (hd : A.handled = none) (e0 : Env0 P w K mg base A outer s H) (hl : vs.length = ps.length) (r : Vals vs us)
    (x : InCallC s s.heap.objs.size (bindL (envOfC qual scope s.heap.objs.size f cd).kindOf (ps.zip us) fun _ => none) (cellsFrom (s.heap.objs.size + 1) scope.names []) (bindC (envOfC qual scope s.heap.objs.size f cd).kindOf (ps.zip us) fun _ => none) s1) :
    Inv (cxOf CX P w K mg base N qual scope f cd A outer s H E) [] (start N vs) H s1 := by
  have hpl : ps.length ≤ N.length := by have := congrArg List.length S.pre; rw [List.length_take] at this; omega
  obtain ⟨h1, tk, rfl, hk⟩ := x.done
  have noA : ∀ b : Addr, b ∉ (cxOf CX P w K mg base N qual scope f cd A outer s H E).ex := fun b z => absurd (show b ∈ ([] : List Addr) from z) (by simp)
  refine ⟨⟨e0.mod, S.kind, rfl, rfl, Nat.le_refl _, fun y z c h1 h2 => ?_, fun y hy => ?_, fun y c _ h => ?_, fun _ => hd, Around.frames_deeper e0.frames, .inr ⟨rfl, rfl⟩, fun b z => absurd z (noA b), e0.bs, e0.bsz, fun b _ _ => noA b, fun b z => absurd z (noA b), e0.funs, e0.frf⟩,
    rfl, e0.bare, Un.kept hk, ⟨_, x.toInCall.ns, fun i y v h1 h2 h3 => ?_⟩, fun y c h => ⟨_, x.cell y c h⟩, e0.hok.fresh (Nat.le_refl _), fun y c h => ?_, fun p hp => absurd (show p ∈ ([] : List (Addr × Obj)) from hp) (by simp), e0.hok.kept hk, ?_⟩
  · exact name_of_addr x.apart (PySem.mem_of_lookup h1) (PySem.mem_of_lookup h2)
  · have hy : scope.names.lookup y = some .cell ∨ scope.names.lookup y = some .free := hy
    rcases hy with hy | hy
    · exact cell_has hy
    · exact absurd rfl (S.nofree _ (PySem.mem_of_lookup hy))
  · exact Nat.le_of_lt (x.above y c (PySem.mem_of_lookup h))
  · have hi : i < vs.length := by
      unfold start at h2
      by_cases hi : i < vs.length
      · exact hi
      · rw [List.getElem?_append_right (by simpa using hi)] at h2
        rw [List.getElem?_replicate] at h2
        split at h2 <;> cases h2
    have ha : vs[i]? = some v := by
      unfold start at h2
      rw [List.getElem?_append_left (by simpa using hi), List.getElem?_map] at h2
      cases e : vs[i]? with
      | none => rw [e] at h2; cases h2
      | some a => rw [e] at h2; cases h2; rfl
    obtain ⟨u, hu, rv⟩ := r.get ha
    have hp : ps[i]? = some y := by
      rw [← S.pre, List.getElem?_take_of_lt (by omega)]; exact h1
    have ndP : ps.Nodup := by rw [← S.pre]; exact S.nd.sublist (List.take_sublist _ _)
    refine ⟨u, rv, ?_⟩
    rcases S.par y (List.mem_of_getElem? hp) with k | k
    · exact .inl ⟨k, bindL_get ndP hp hu k⟩
    · obtain ⟨c, e⟩ := cell_has (n := s.heap.objs.size + 1) k
      refine .inr ⟨.inl k, c, e, ?_⟩
      have q := x.cell y c e
      rw [bindC_get ndP hp hu (by show scope.names.lookup y ≠ _; rw [k]; decide)] at q
      exact q
  · exact e0.hok.fresh (Nat.le_of_lt (x.above y c (PySem.mem_of_lookup h)))
  · unfold start
    show _ = N.length
    rw [List.length_append, List.length_map, List.length_replicate]
    omega
theorem fn_of {CX : CXT} {P : Program} {w : World} {K : PySem.W.Frag} {mg : Str → Option Value} {base : Heap} {k : Nat} {f : Addr} {name qual : Str} {params : Arguments} {body : List Stmt} {scope : Scope} {dV kV doc pm cdv ct oc : Value} {an od : Option Addr}
    {osl : Array (Option Value)} {N ps : List Str} {sp : Sp} (lk : K.lookup f = some ⟨oc, od, .func (PySem.W.fnOf name qual params body scope dV kV doc pm an cdv ct), osl⟩) (hcd : PySem.W.codeIn K cdv qual = true) (S : FnScope N ps scope)
    (len : ∀ vs H Q E, sp vs H Q E → vs.length = ps.length)
    (hbody : ∀ (A : Around) (outer : List Env) (s : Shared) (H : Hp) (vs : List V) (Q : VK) (E : XK), Room k (A.deeper (envOfC qual scope s.heap.objs.size f cdv)) → sp vs H Q E →
      ∃ t, PSs (cxOf CX P w K mg base N qual scope f cdv A outer s H E) body t ∧ t { nx := fun _ H' => Q .non H', rt := Q } (start N vs) H) :
    FnOk P w K mg base CX (k + 1) f (PySem.W.fnOf name qual params body scope dV kV doc pm an cdv ct) ps sp := by
  refine ⟨len, fun A outer s H args us vs Q E hr e0 hb r hsp => ?_⟩
  have hl := len _ _ _ _ hsp
  have KX : K.In s.heap := e0.mod.kin.keeps fun b o e => (e0.bs b o e).1
  have lim : s.heap.NoLimit := e0.mod.nolimit.keeps fun b o e => (e0.bs b o e).1
  have hkind : ∀ y ∈ ps.zip us, scope.names.lookup y.1 = some .local ∨ (scope.names.lookup y.1 = some .cell ∧ ((cellsFrom (s.heap.objs.size + 1) scope.names []).lookup y.1).isSome = true) := fun ⟨n, v⟩ hy => by
    rcases S.par n (List.of_mem_zip hy).1 with q | q
    · exact .inl q
    · exact .inr ⟨q, PySem.W.cellsFrom_some _ _ _ (.inl q)⟩
  refine codeAny_call_function hr.depth (KX _ _ lk) rfl S.co S.gen rfl (PySem.W.codeRec_of KX hcd) (hb _ _ _ _ ?_)
  refine wpAny_newFunctionEnv_cells S.kind hkind fun env he s1 x => ?_
  subst he
  refine ⟨lim.keeps x.toInCall.keep, codeAny_func ?_⟩
  obtain ⟨t, ht, hq⟩ := hbody A outer s H vs Q E (hr.deeper _) hsp
  have I : Inv (cxOf CX P w K mg base N qual scope f cdv A outer s H E) [] (start N vs) H s1 := inv_start S hr.hd e0 hl r x
  refine wpAny_mono (ht [] s1 (start N vs) H _ I hq) (fun fl s' hs => ?_) fun e s' hs => hs
  have fin : ∀ {σ' : St} {H' : Hp} {v : V} {u : Value}, Inv (cxOf CX P w K mg base N qual scope f cdv A outer s H E) [] σ' H' s' → RelV v u → Q v H' → CE outer P w H s Q u s' :=
    fun {σ' H' v u} J rv q => ⟨v, H', J.os, J.bare, J.base, J.hok, rv, q⟩
  cases fl with
  | ret u =>
    obtain ⟨v, σ', H', J, rv, q⟩ := hs
    exact fin J rv q
  | next =>
    obtain ⟨σ', H', J, q⟩ := hs
    exact fin (v := V.non) (u := Value.none) J rfl q
  | brk =>
    obtain ⟨_, _, _, q⟩ := hs
    exact False.elim q
  | cont =>
    obtain ⟨_, _, _, q⟩ := hs
    exact False.elim q
end L2
namespace L2
open PySem PySem.Spec PyProof.Rows
section
variable {X : Cx} {x : Str} {p pos : Pos} {e : Expr} {es : List Expr} {t : TA} {id T : String} {r : List V → Hp → VK → Prop}
def tCB (r : List V → Hp → VK → Prop) (t : TA) : TE := fun σ H Q => t σ H fun vs H1 => r vs H1 Q
theorem pe_callB (hc : CallR X (.builtin id) r) (hg : Gl X x) (hm : X.mg x = none) (hv : bootBuiltins x = some (.builtin id)) (ha : PA X (e :: es) t) (hn : x ≠ "__name__" := by decide) (hdb : (x == ("__debug__" : Str)) = false := by decide)
    (he : starEach (e :: es) X.env = (false, eval e X.env) :: starEach es X.env := by rfl) (hpl : (backTo pos (starEach es X.env)).any (·.1) = false := by rfl) : PE X (.Call (.Name x p) (e :: es) [] pos) (tCB r t) := by
  intro pins s σ H Q I h
  refine wpAny_Call_Name_kw (ld_blt I hg hm hv ?_ hn hdb)
  exact PyProof.Rows.callWith_builtin1 (thn (ha pos pins s σ H _ I h) fun us s1 ⟨vs, H1, I1, r1, q1⟩ => hc pins s1 σ H1 vs us Q I1 r1 q1) he hpl
theorem pe_callTy (hc : CallR X (.type T) r) (hg : Gl X x) (hm : X.mg x = none) (hv : bootBuiltins x = some (.type T)) (ha : PA X (e :: es) t) (hn : x ≠ "__name__" := by decide) (hdb : (x == ("__debug__" : Str)) = false := by decide)
    (he : starEach (e :: es) X.env = (false, eval e X.env) :: starEach es X.env := by rfl) (hpl : (backTo pos (starEach es X.env)).any (·.1) = false := by rfl) : PE X (.Call (.Name x p) (e :: es) [] pos) (tCB r t) := by
  intro pins s σ H Q I h
  refine wpAny_Call_Name_kw (ld_blt I hg hm hv ?_ hn hdb)
  exact PyProof.Rows.callWith_type1 (thn (ha pos pins s σ H _ I h) fun us s1 ⟨vs, H1, I1, r1, q1⟩ => hc pins s1 σ H1 vs us Q I1 r1 q1) he hpl
end
end L2
namespace HT
open PySem PyProof.Rows
section
open PySem.SeqAt
open PySem.AutoSeq1 (wpAny_loadPart')
open PySem.MeetsSeq PySem.MeetsSeq2 PySem.MeetsSeq3
end
section
variable {prog : Program} {w : World} {A : Around} {E : Value → Shared → Prop} {s : Shared}
def sIx (n d : Nat) : Option Int → Nat
  | none => d
  | some v => if v < 0 then (v + (n : Int)).toNat else min v.toNat n
theorem sIx_none (n d : Nat) : sIx n d none = d := rfl
theorem sIx_nat (n d k : Nat) : sIx n d (some (k : Int)) = min k n := by
  show (if (k : Int) < 0 then ((k : Int) + (n : Int)).toNat else min (k : Int).toNat n) = min k n
  rw [if_neg (by omega), Int.toNat_natCast]
end
end HT
namespace L2
open PySem PySem.Spec PyProof.Rows
abbrev TO := St → Hp → (Option Int → Hp → Prop) → Prop
def PO (X : Cx) (e : Option Expr) (t : TO) : Prop :=
  ∀ (pins : List (Addr × Obj)) (s : Shared) (σ : St) (H : Hp) (Q : Option Int → Hp → Prop), Inv X pins σ H s → t σ H Q →
    wpAny (model X.prog X.w) X.A (evalPart e X.env) (fun u s' => ∃ o H', Inv X pins σ H' s' ∧ IsPart u o ∧ Q o H') X.xe s
def tNoPart : TO := fun _ H Q => Q none H
def tPart (t : TE) : TO := fun σ H Q => t σ H fun x H1 => ∃ i, x = .int i ∧ Q (some i) H1
theorem intsAre_of {ns : List Int} : ∀ {us : List Value}, Vals (ns.map V.int) us → IntsAre us ns := by
  induction ns with
  | nil => intro us r; rw [List.map_nil] at r; cases r; exact .nil
  | cons n ns ih =>
    intro us r
    rw [List.map_cons] at r
    cases r with
    | cons r1 r2 =>
      obtain ⟨t, e⟩ := r1
      subst e
      exact .cons n t (ih r2)
section
variable {X : Cx} {e : Expr} {te : TE} {lo hi : Option Expr} {tl th : TO} {pos p2 : Pos}
theorem po_none : PO X none tNoPart := by
  intro pins s σ H Q I h
  rw [evalPart_none]
  exact wpAny_pure ⟨none, H, I, .none, h⟩
theorem po_some (h : PE X e te) : PO X (some e) (tPart te) := by
  intro pins s σ H Q I hw
  rw [evalPart_some]
  refine thn (h pins s σ H _ I hw) fun u s1 ⟨x, H1, I1, r1, q1⟩ => ?_
  obtain ⟨i, rfl, q⟩ := q1
  obtain ⟨t, rfl⟩ := r1
  exact ⟨some i, H1, I1, .int i t, q⟩
def SlR (X : Cx) (r : V → Option Int → Option Int → Hp → VK → Prop) : Prop :=
  ∀ (pins : List (Addr × Obj)) (s : Shared) (σ : St) (H : Hp) (x : V) (v vl vu : Value) (lo hi : Option Int) (sl : Addr) (Q : VK), Inv X pins σ H s → RelV x v → s.heap.IsSliceOf sl vl vu .none → IsPart vl lo → IsPart vu hi → r x lo hi H Q →
    ∃ T id, typeLookup (.type T) "__getitem__" = pure (some (.builtin id)) ∧ s.TypeIs v T ∧ wpAny (model X.prog X.w) X.A (getItem v (.ref sl)) (EP X pins σ Q) X.xe s
def tSl (r : V → Option Int → Option Int → Hp → VK → Prop) (te : TE) (tl th : TO) : TE := fun σ H Q => te σ H fun x H1 => tl σ H1 fun l H2 => th σ H2 fun u H3 => r x l u H3 Q
theorem pe_slice {r : V → Option Int → Option Int → Hp → VK → Prop} (hr : SlR X r) (he : PE X e te) (hl : PO X lo tl) (hu : PO X hi th) : PE X (.Subscript e (.Slice lo hi none p2) pos) (tSl r te tl th) := by
  intro pins s σ H Q I h
  refine Subscript_ (thn (he pins s σ H _ I h) fun v s1 ⟨x, H1, I1, r1, q1⟩ => ?_)
  refine wpAny_Slice (thn (hl pins s1 σ H1 _ I1 q1) fun vl s2 ⟨l, H2, I2, pl, q2⟩ => thn (hu pins s2 σ H2 _ I2 q2) fun vu s3 ⟨u, H3, I3, pu, q3⟩ => ?_)
  rw [evalPart_none]
  refine wpAny_pure ?_
  have I4 : Inv X pins σ H3 { s3 with heap := s3.heap.push { cls := .type "slice", data := .fields #[vl, vu, .none] } } := I3.kept (t' := s3.toks) fun b ob q => Heap.get?_push_of_some _ q
  obtain ⟨T, id, hT, ht, hg⟩ := hr pins { s3 with heap := s3.heap.push { cls := .type "slice", data := .fields #[vl, vu, .none] } } σ H3 x v vl vu l u s3.heap.objs.size Q I4 r1 (Heap.IsSliceOf.new ..) pl pu q3
  show wpAny (model X.prog X.w) X.A (subscriptTail e (.Slice lo hi none p2) v (.ref s3.heap.objs.size)) (EP X pins σ Q) X.xe { s3 with heap := s3.heap.push { cls := .type "slice", data := .fields #[vl, vu, .none] } }
  exact tail_any (ops := [.ref s3.heap.objs.size, v]) ht hT hg (by with_unfolding_all rfl)
def cutV (xs : List V) (lo hi : Option Int) : List V := (xs.drop (HT.sIx xs.length 0 lo)).take (HT.sIx xs.length xs.length hi - HT.sIx xs.length 0 lo)
theorem cutV_length (xs : List V) (lo hi : Option Int) : (cutV xs lo hi).length ≤ xs.length := by
  unfold cutV
  rw [List.length_take, List.length_drop]
  omega
def rSlT (K : PySem.W.Frag) : V → Option Int → Option Int → Hp → VK → Prop := fun x lo hi H Q => ∃ a xs, x = .ref a ∧ SqT K H a xs ∧
  ¬ (HT.sIx xs.length 0 lo = 0 ∧ HT.sIx xs.length xs.length hi = xs.length) ∧ ∀ p, H p = none → Q (.ref p) (upd H p (.tup (cutV xs lo hi)))
end
end L2
namespace L2
open PySem PySem.Spec PyProof.Rows
def ixN (n : Nat) (i : Int) : Option Nat := if 0 ≤ i then (if i < n then some i.toNat else none) else if -(n : Int) ≤ i then some (i + n).toNat else none
def atI {α : Type} (xs : List α) (i : Int) : Option α := (ixN xs.length i).bind fun j => xs[j]?
theorem ixN_seq {n : Nat} {i : Int} {j : Nat} (h : ixN n i = some j) : seqIndex? i n = some j ∧ j < n ∧ -(n : Int) ≤ i ∧ i < n := by
  unfold ixN at h
  by_cases h0 : 0 ≤ i
  · rw [if_pos h0] at h
    by_cases h1 : i < n
    · rw [if_pos h1] at h
      have e : i.toNat = j := Option.some.inj h
      exact ⟨by rw [seqIndex_of h0 h1, e], by omega, by omega, h1⟩
    · rw [if_neg h1] at h; cases h
  · rw [if_neg h0] at h
    by_cases h1 : -(n : Int) ≤ i
    · rw [if_pos h1] at h
      have e : (i + n).toNat = j := Option.some.inj h
      exact ⟨by rw [seqIndex_neg (by omega) h1, e], by omega, h1, by omega⟩
    · rw [if_neg h1] at h; cases h
theorem atI_get {α : Type} {xs : List α} {i : Int} {v : α} (h : atI xs i = some v) : ∃ j, seqIndex? i xs.length = some j ∧ xs[j]? = some v ∧ j < xs.length ∧ -(xs.length : Int) ≤ i ∧ i < xs.length := by
  unfold atI at h
  cases e : ixN xs.length i with
  | none => rw [e] at h; cases h
  | some j =>
    rw [e] at h
    obtain ⟨h1, h2, h3, h4⟩ := ixN_seq e
    exact ⟨j, h1, h, h2, h3, h4⟩
theorem atI_nat {α : Type} {xs : List α} {j : Nat} {v : α} (h : xs[j]? = some v) : atI xs (j : Int) = some v := by
  have hj : j < xs.length := (List.getElem?_eq_some_iff.mp h).1
  have e : ixN xs.length (j : Int) = some j := by
    unfold ixN
    rw [if_pos (by omega), if_pos (by omega)]; simp
  unfold atI; rw [e]; exact h
theorem atI_last {α : Type} (xs : List α) (v : α) : atI (xs ++ [v]) (-1) = some v := by
  have hl : (xs ++ [v]).length = xs.length + 1 := by simp
  have e : ixN (xs ++ [v]).length (-1) = some xs.length := by
    unfold ixN
    rw [hl, if_neg (by decide), if_pos (by omega)]
    congr 1
    omega
  unfold atI
  rw [e]
  show (xs ++ [v])[xs.length]? = some v
  simp
def PlainIx (b : Expr) : Prop := ∀ o i, subscripted b false o i = operate [o, i] (getItem o i)
def IxR (X : Cx) (r : R2) : Prop :=
  ∀ (value slice : Expr) (pins : List (Addr × Obj)) (s : Shared) (σ : St) (H : Hp) (x y : V) (v u : Value) (Q : VK), Inv X pins σ H s → RelV x v → RelV y u → r x y H Q →
    subscripted slice false v u = operate [v, u] (getItem v u) → wpAny (model X.prog X.w) X.A (subscriptTail value slice v u) (EP X pins σ Q) X.xe s
def MtR (X : Cx) (id : String) (r : V → List V → Hp → VK → Prop) : Prop :=
  ∀ (pins : List (Addr × Obj)) (s : Shared) (σ : St) (H : Hp) (x : V) (xs : List V) (v : Value) (us : List Value) (Q : VK), Inv X pins σ H s → RelV x v → Vals xs us → r x xs H Q →
    wpAny (model X.prog X.w) X.A (call (.builtin id) (v :: us)) (EP X pins σ Q) X.xe s
section
variable {X : Cx} {a b : Expr} {ta tb : TE} {pos : Pos}
theorem pe_ix {r : R2} (hr : IxR X r) (ha : PE X a ta) (hb : PE X b tb) (hs : PlainIx b) : PE X (.Subscript a b pos) (tOp r ta tb) := by
  intro pins s σ H Q I h
  exact Subscript_ (binT ha hb I h fun v u s2 x y H2 I2 rx ry q => hr a b pins s2 σ H2 x y v u Q I2 rx ry q (hs _ _))
def rIxL (K : PySem.W.Frag) : R2 := fun x y H Q => ∃ p xs i v, x = .ref p ∧ y = .int i ∧ SqL K H p xs ∧ atI xs i = some v ∧ Q v H
def rIxT (K : PySem.W.Frag) : R2 := fun x y H Q => ∃ p xs i v, x = .ref p ∧ y = .int i ∧ SqT K H p xs ∧ atI xs i = some v ∧ Q v H
def rIxS : R2 := fun x y H Q => ∃ z i c, x = .str z ∧ y = .int i ∧ z.length ≤ sizeLine ∧ atI z.cps.toList i = some c ∧ Q (.str ⟨#[c]⟩) H
theorem ix_list : IxR X (rIxL X.K) := by
  intro value slice pins s σ H x y v u Q I rx ry h hs
  obtain ⟨p, xs, i, z, rfl, rfl, hq, he, q⟩ := h
  cases rx
  obtain ⟨t, rfl⟩ := ry
  obtain ⟨its, r, pl, hz⟩ := I.list hq
  obtain ⟨j, h1, h2, h3, h4, h5⟩ := atI_get he
  obtain ⟨w, ew, rw'⟩ := r.get h2
  have hl := r.length
  have hn := line63
  have fin : EP X pins σ Q w s := ⟨z, H, I, rw', q⟩
  by_cases h0 : 0 ≤ i
  · have hj : i.toNat = j := by
      rw [seqIndex_of h0 h5] at h1
      exact Option.some.inj h1
    exact item_listR pl.isList h0 (by omega) (by rw [hj]; simpa using ew) fin hs
  · have hj : (i + (its.toArray.size : Int)).toNat = j := by
      rw [seqIndex_neg (by omega) h4] at h1
      rw [List.size_toArray, ← hl]
      exact Option.some.inj h1
    exact subscriptTail_builtinR (x := w) pl.isList.typeIs slot_list_getitem.lookup
      (wpAny_getItem_list_neg (Q := fun r s' => r = w ∧ EP X pins σ Q r s') pl.isList (by omega) (by rw [List.size_toArray] <;> omega) (by omega) (by rw [hj]; simpa using ew) ⟨rfl, fin⟩) hs
theorem ix_tup : IxR X (rIxT X.K) := by
  intro value slice pins s σ H x y v u Q I rx ry h hs
  obtain ⟨p, xs, i, z, rfl, rfl, hq, he, q⟩ := h
  cases rx
  obtain ⟨t, rfl⟩ := ry
  obtain ⟨its, r, pl, hz⟩ := I.tuple hq
  obtain ⟨j, h1, h2, h3, h4, h5⟩ := atI_get he
  obtain ⟨w, ew, rw'⟩ := r.get h2
  have hl := r.length
  have hn := line63
  have fin : EP X pins σ Q w s := ⟨z, H, I, rw', q⟩
  exact subscriptTail_builtinR (x := w) pl.typeIs slot_tuple_getitem.lookup
    (getItem_tuple (j := j) (Q := fun r s' => r = w ∧ EP X pins σ Q r s') pl (by omega) (by omega) (by rw [List.size_toArray, ← hl]; exact h1) (by simpa using ew) ⟨rfl, fin⟩) hs
theorem Inv.lst {pins : List (Addr × Obj)} {σ : St} {H : Hp} {s : Shared} {p : Addr} {xs : List V} (I : Inv X pins σ H s) (h : H p = some (.lst xs)) :
    ∃ (its : List Value) (n : Nat), Vals xs its ∧ s.heap.get? p = some { cls := .type "list", data := .seq its.toArray n } ∧ xs.length ≤ sizeLine := by
  obtain ⟨z, its, n, r, e⟩ := I.hok p _ h
  exact ⟨its, n, r, e, z⟩
theorem slice_bounds (lo hi : Option Int) (n : Nat) : (sliceBounds lo hi none n).1 = ((HT.sIx n 0 lo : Nat) : Int) ∧ (sliceBounds lo hi none n).2.1 = ((HT.sIx n n hi : Nat) : Int) ∧ (sliceBounds lo hi none n).2.2 = 1 := by
  refine ⟨?_, ?_, rfl⟩
  · cases lo with
    | none => simp [sliceBounds, HT.sIx]
    | some i =>
      simp only [sliceBounds, HT.sIx, Option.getD_none, show (1 : Int) > 0 by decide, if_true]
      by_cases h : i < 0
      · simp only [h, if_true] <;> omega
      · simp only [h, if_false] <;> omega
  · cases hi with
    | none => simp [sliceBounds, HT.sIx]
    | some i =>
      simp only [sliceBounds, HT.sIx, Option.getD_none, show (1 : Int) > 0 by decide, if_true]
      by_cases h : i < 0
      · simp only [h, if_true] <;> omega
      · simp only [h, if_false] <;> omega
theorem slicePick_cut (its : List Value) (lo hi : Option Int) : slicePick its.toArray lo hi none = ((its.drop (HT.sIx its.length 0 lo)).take (HT.sIx its.length its.length hi - HT.sIx its.length 0 lo)).toArray := by
  obtain ⟨h1, h2, h3⟩ := slice_bounds lo hi its.toArray.size
  unfold slicePick
  rw [h1, h2, h3]
  simp only [sliceRange_one, pick_run, List.size_toArray] <;> rfl
def rSlL (K : PySem.W.Frag) : V → Option Int → Option Int → Hp → VK → Prop := fun x lo hi H Q => ∃ a xs, x = .ref a ∧ SqL K H a xs ∧ ∀ p, H p = none → Q (.ref p) (upd H p (.lst (cutV xs lo hi)))
theorem sl_list : SlR X (rSlL X.K) := by
  intro pins s σ H x v vl vu lo hi sl Q I rx hs pl pu h
  obtain ⟨a, xs, rfl, hx, q⟩ := h
  cases rx
  obtain ⟨its, r, ht, hz⟩ := I.list hx
  have hlen := r.length
  refine ⟨"list", _, slot_list_getitem.lookup, ht.isList.typeIs, ?_⟩
  refine wpAny_getItem_list_slice ht.isList hs pl pu .none (by simp) ?_ (by rw [List.size_toArray] <;> omega)
  rw [slicePick_cut, ← hlen]
  refine ⟨.ref s.heap.objs.size, _, I.laid (t' := s.toks) (o := .lst (cutV xs lo hi)) (fun b ob q => Heap.get?_push_of_some _ q) (Nat.le_refl _) ?_, rfl, q _ (I.hok.fresh (Nat.le_refl _))⟩
  exact ⟨Nat.le_trans (cutV_length xs lo hi) hz, _, 0, (r.drop (HT.sIx xs.length 0 lo)).take (HT.sIx xs.length xs.length hi - HT.sIx xs.length 0 lo), Heap.get?_push_size _ rfl⟩
def flatV : V → Bool
  | .non => true
  | .bl _ => true
  | .int _ => true
  | .str _ => true
  | _ => false
def eqV : V → V → Bool
  | .non, .non => true
  | .bl a, .bl b => a == b
  | .bl a, .int b => (if a then 1 else 0) == b
  | .int a, .bl b => a == (if b then 1 else 0)
  | .int a, .int b => a == b
  | .str a, .str b => a == b
  | _, _ => false
theorem eqAt_V {A : Around} {s : Shared} {y x : V} {u v : Value} (ry : RelV y u) (rx : RelV x v) (fy : flatV y = true) (fx : flatV x = true) : SeqAt.EqAt A s u v (eqV y x) := by
  cases y with
  | non =>
    cases ry
    cases x with
    | non => cases rx; exact SeqAt.EqAt.same _
    | bl b => cases rx; exact SeqAt.EqAt.none_bool b
    | int b => obtain ⟨t, rfl⟩ := rx; exact SeqAt.EqAt.none_int b t
    | str b => obtain ⟨t, rfl⟩ := rx; exact SeqAt.EqAt.none_str b t
    | _ => exact absurd (show false = true from fx) Bool.false_ne_true
  | bl a =>
    cases ry
    cases x with
    | non => cases rx; exact SeqAt.EqAt.bool_none a
    | bl b => cases rx; exact SeqAt.EqAt.bool_bool a b
    | int b => obtain ⟨t, rfl⟩ := rx; exact SeqAt.EqAt.bool_int a b t
    | str b => obtain ⟨t, rfl⟩ := rx; exact SeqAt.EqAt.bool_str a b t
    | _ => exact absurd (show false = true from fx) Bool.false_ne_true
  | int a =>
    obtain ⟨t', rfl⟩ := ry
    cases x with
    | non => cases rx; exact SeqAt.EqAt.int_none a t'
    | bl b => cases rx; exact SeqAt.EqAt.int_bool a t' b
    | int b => obtain ⟨t, rfl⟩ := rx; exact SeqAt.EqAt.int_int a t' b t
    | str b => obtain ⟨t, rfl⟩ := rx; exact SeqAt.EqAt.int_str a t' b t
    | _ => exact absurd (show false = true from fx) Bool.false_ne_true
  | str a =>
    obtain ⟨t', rfl⟩ := ry
    cases x with
    | non => cases rx; exact SeqAt.EqAt.str_none a t'
    | bl b => cases rx; exact SeqAt.EqAt.str_bool a t' b
    | int b => obtain ⟨t, rfl⟩ := rx; exact SeqAt.EqAt.str_int a t' b t
    | str b => obtain ⟨t, rfl⟩ := rx; exact SeqAt.EqAt.str_str a t' b t
    | _ => exact absurd (show false = true from fx) Bool.false_ne_true
  | _ => exact absurd (show false = true from fy) Bool.false_ne_true
def eqU (x : V) (u : Value) : Bool := match u with
  | .none => eqV .non x
  | .bool b => eqV (.bl b) x
  | .int i _ => eqV (.int i) x
  | .str z _ => eqV (.str z) x
  | _ => false
theorem eqU_of {x y : V} {u : Value} (r : RelV y u) (f : flatV y = true) : eqU x u = eqV y x := by
  cases y with
  | non => cases r; rfl
  | bl b => cases r; rfl
  | int i => obtain ⟨t, rfl⟩ := r; rfl
  | str z => obtain ⟨t, rfl⟩ := r; rfl
  | _ => exact absurd (show false = true from f) Bool.false_ne_true
theorem any_eqU {x : V} : ∀ {xs : List V} {us : List Value}, Vals xs us → xs.all flatV = true → us.any (eqU x) = xs.any fun y => eqV y x
  | _, _, .nil, _ => rfl
  | y :: xs, u :: us, .cons r t, f => by
    rw [List.all_cons, Bool.and_eq_true] at f
    rw [List.any_cons, List.any_cons, eqU_of r f.1, any_eqU t f.2]
theorem mem_eqAt {A : Around} {s : Shared} {x : V} {v : Value} (rx : RelV x v) (fx : flatV x = true) : ∀ {xs : List V} {us : List Value}, Vals xs us → xs.all flatV = true → ∀ u ∈ us, SeqAt.EqAt A s u v (eqU x u)
  | _, _, .nil, _ => fun u hu => by cases hu
  | y :: xs, u :: us, .cons r t, f => fun u' hu => by
    rw [List.all_cons, Bool.and_eq_true] at f
    rcases List.mem_cons.mp hu with rfl | hu
    · rw [eqU_of r f.1]; exact eqAt_V r rx f.1 fx
    · exact mem_eqAt rx fx t f.2 u' hu
def inV (x : V) (xs : List V) : Bool := xs.any fun y => eqV y x
def rIn (K : PySem.W.Frag) (neg : Bool) : R2 := fun x y H Q => ∃ p xs, y = .ref p ∧ (SqL K H p xs ∨ SqT K H p xs) ∧ flatV x = true ∧ xs.all flatV = true ∧ Q (.bl (if neg then !inV x xs else inV x xs)) H
theorem op_in_seq : OpR X (compareOp .In) (rIn X.K false) := by
  intro pins s σ H x y v u Q I rx ry h
  obtain ⟨p, xs, rfl, hq, fx, fs, q⟩ := h
  cases ry
  rcases hq with hq | hq
  · obtain ⟨its, r, pl, hz⟩ := I.list hq
    refine SeqAt.in_listAt (eqU x) pl.isList (fun w hw => mem_eqAt rx fx r fs w (by simpa using hw)) ⟨.bl _, H, I, rfl, ?_⟩
    rw [show its.toArray.any (eqU x) = its.any (eqU x) by simp, any_eqU r fs]
    exact q
  · obtain ⟨its, r, pl, hz⟩ := I.tuple hq
    refine SeqAt.in_tupleAt (eqU x) pl (fun w hw => mem_eqAt rx fx r fs w (by simpa using hw)) ⟨.bl _, H, I, rfl, ?_⟩
    rw [show its.toArray.any (eqU x) = its.any (eqU x) by simp, any_eqU r fs]
    exact q
theorem call_len_seq : CallR X (.builtin "len") (fun xs H Q => ∃ p ys, xs = [.ref p] ∧ (SqL X.K H p ys ∨ SqT X.K H p ys) ∧ Q (.int ys.length) H) := by
  intro pins s σ H xs us Q I r h
  obtain ⟨p, ys, rfl, hq, q⟩ := h
  obtain ⟨u, rfl, rx⟩ := vals1 r
  cases rx
  have hn := line63
  rcases hq with hq | hq
  · obtain ⟨its, r', pl, hz⟩ := I.list hq
    have hlen := r'.length
    exact Calls.call_len_list pl.isList (by simp only [List.size_toArray] <;> omega) ⟨.int ys.length, H, I.tok _, ⟨s.toks + 1, by rw [List.size_toArray, hlen]⟩, q⟩
  · obtain ⟨its, r', pl, hz⟩ := I.tuple hq
    have hlen := r'.length
    exact len_tuple pl (by simp only [List.size_toArray] <;> omega) ⟨.int ys.length, H, I.tok _, ⟨s.toks + 1, by rw [List.size_toArray, hlen]⟩, q⟩
theorem call_list_of : CallR X (.type "list") (fun xs H Q => ∃ p ys, xs = [.ref p] ∧ (SqL X.K H p ys ∨ SqT X.K H p ys) ∧ ∀ l, H l = none → Q (.ref l) (upd H l (.lst ys))) := by
  intro pins s σ H xs us Q I r h
  obtain ⟨p, ys, rfl, hq, q⟩ := h
  obtain ⟨u, rfl, rx⟩ := vals1 r
  cases rx
  have fin : ∀ (its : List Value), Vals ys its → ys.length ≤ sizeLine → ∀ (h' : Heap) (c' : Nat), (∀ b o', s.heap.get? b = some o' → h'.get? b = some o') →
      h'.get? s.heap.objs.size = some { cls := .type "list", dict := none, data := .seq its.toArray c', slots := #[] } → EP X pins σ Q (.ref s.heap.objs.size) { s with heap := h' } := fun its r' hz h' c' kp e =>
    ⟨.ref s.heap.objs.size, _, I.laid (t' := s.toks) kp (Nat.le_refl _) (show ObjOk X.prog X.w _ h' _ (.lst ys) from ⟨hz, its, c', r', e⟩), rfl, q _ (I.hok.fresh (Nat.le_refl _))⟩
  rcases hq with hq | hq
  · obtain ⟨its, r', pl, hz⟩ := I.list hq
    have hlen := r'.length
    obtain ⟨o, ho, hc, n, hd⟩ := pl.isList
    exact call_list_seq p (.inl rfl) ho hc hd (fun h' c' kp e => fin its r' hz h' c' kp e) (by simp only [List.size_toArray] <;> omega)
  · obtain ⟨its, r', pl, hz⟩ := I.tuple hq
    have hlen := r'.length
    obtain ⟨o, ho, hc, n, hd⟩ := pl
    exact call_list_seq p (.inr rfl) ho hc hd (fun h' c' kp e => fin its r' hz h' c' kp e) (by simp only [List.size_toArray] <;> omega)
def tyV (K : PySem.W.Frag) (T : String) (x : V) (H : Hp) : Prop := match x with
  | .str _ => T = "str"
  | .int _ => T = "int"
  | .ref p => (T = "list" ∧ ∃ xs, SqL K H p xs) ∨ (T = "tuple" ∧ ∃ o, K.lookup p = some o ∧ o.cls = .type "tuple" ∧ o.dict = none) ∨
      (T = "dict" ∧ ((∃ kvs, H p = some (.dK kvs)) ∨ ∃ kvs, H p = some (.dT kvs))) ∨ (T = "set" ∧ ∃ S n, H p = some (.set S n))
  | _ => False
theorem tyV_is {pins : List (Addr × Obj)} {σ : St} {H : Hp} {s : Shared} {T : String} {x : V} {v : Value} (I : Inv X pins σ H s) (r : RelV x v) (ty : tyV X.K T x H) :
    s.TypeIs v T ∧ ∀ a, v = .ref a → ∃ ob, s.heap.get? a = some ob ∧ ob.dict = none := by
  cases x with
  | str z =>
    obtain ⟨t, rfl⟩ := r
    cases (show T = "str" from ty)
    exact ⟨typeIs_str s z t, fun _ e => nomatch e⟩
  | int i =>
    obtain ⟨t, rfl⟩ := r
    cases (show T = "int" from ty)
    exact ⟨typeIs_int s i t, fun _ e => nomatch e⟩
  | ref p =>
    cases r
    rcases ty with ⟨rfl, xs, hq⟩ | ⟨rfl, o, hk, hc, hd⟩ | ⟨rfl, hk⟩ | ⟨rfl, S, n, hk⟩
    · obtain ⟨its, _, pl, _⟩ := I.list hq
      refine ⟨pl.isList.typeIs, fun a e => ?_⟩
      cases e
      obtain ⟨o, n, e, c, hd, _⟩ := pl
      exact ⟨o, e, hd⟩
    · refine ⟨⟨o, I.kIn p o hk, hc⟩, fun a e => ?_⟩
      cases e
      exact ⟨o, I.kIn _ o hk, hd⟩
    · have z : ∃ o, s.heap.get? p = some o ∧ o.ExactDict := by
        rcases hk with ⟨kvs, hk⟩ | ⟨kvs, hk⟩
        · obtain ⟨_, _, _, _, o, _, _, e, ex, _⟩ := I.hok p _ hk
          exact ⟨o, e, ex⟩
        · obtain ⟨_, _, _, _, o, _, _, e, ex, _⟩ := I.hok p _ hk
          exact ⟨o, e, ex⟩
      obtain ⟨o, e, ex⟩ := z
      refine ⟨⟨o, e, ex.1⟩, fun a e2 => ?_⟩
      cases e2
      exact ⟨o, e, ex.2.1⟩
    · obtain ⟨o, _, _, _, e, ex, _⟩ := I.hok p _ hk
      refine ⟨⟨o, e, ex.1⟩, fun a e2 => ?_⟩
      cases e2
      exact ⟨o, e, ex.2.1⟩
  | _ => exact False.elim ty
def tBM0 (K : PySem.W.Frag) (T : String) (r : V → List V → Hp → VK → Prop) (to : TE) : TE := fun σ H Q => to σ H fun x H1 => tyV K T x H1 ∧ r x [] H1 Q
def tBM (K : PySem.W.Frag) (T : String) (r : V → List V → Hp → VK → Prop) (to : TE) (t : TA) : TE := fun σ H Q => to σ H fun x H1 => tyV K T x H1 ∧ t σ H1 fun xs H2 => r x xs H2 Q
variable {o e : Expr} {es : List Expr} {to : TE} {t : TA} {name : Str} {apos cpos : Pos} {T id : String} {r : V → List V → Hp → VK → Prop}
theorem pe_bm0 (pa : PlainAttrs T) (slot : Slot T name id) (hty : typeOf (.builtin id) = pure (.type "method_descriptor")) (hm : MtR X id r) (ho : PE X o to)
    (hbase : attributeBase o name X.env (eval o X.env) = eval o X.env := by rfl) (hline : (apos.endLine == cpos.line) = true := by rfl) : PE X (.Call (.Attribute o name apos) [] [] cpos) (tBM0 X.K T r to) := by
  intro pins s σ H Q I h
  refine wpAny_Call_method0_late hbase hline (thn (ho pins s σ H _ I h) fun v s1 ⟨x, H1, I1, r1, ty, q1⟩ => ?_)
  obtain ⟨h1, h2⟩ := tyV_is I1 r1 ty
  exact ⟨T, id, pa, slot, hty, h1, h2, Calls.callWith_builtin rfl (PySem.evalArgs_none (hm pins s1 σ H1 x [] v [] Q I1 r1 .nil q1))⟩
theorem pe_bm (pa : PlainAttrs T) (slot : Slot T name id) (hty : typeOf (.builtin id) = pure (.type "method_descriptor")) (hm : MtR X id r) (ho : PE X o to) (ha : PA X (e :: es) t)
    (hbase : attributeBase o name X.env (eval o X.env) = eval o X.env := by rfl)
    (hfew : ((backTo cpos (starEach (e :: es) X.env)).all (fun x => !x.1) && (backToKw cpos (keywordEach [] X.env)).all (fun x => x.1.isSome)
      && decide ((e :: es).length + ([] : List Keyword).length + (if ([] : List Keyword).isEmpty then 0 else 1) < 30)) = true := by rfl)
    (hline : (apos.endLine == cpos.line) = true := by rfl) (hs : starEach (e :: es) X.env = (false, eval e X.env) :: starEach es X.env := by rfl) (hplain : (backTo cpos (starEach es X.env)).any (·.1) = false := by rfl) :
    PE X (.Call (.Attribute o name apos) (e :: es) [] cpos) (tBM X.K T r to t) := by
  intro pins s σ H Q I h
  refine wpAny_Call_method_late hbase hfew hline rfl (thn (ho pins s σ H _ I h) fun v s1 ⟨x, H1, I1, r1, ty, q1⟩ => ?_)
  obtain ⟨h1, h2⟩ := tyV_is I1 r1 ty
  refine ⟨T, id, pa, slot, hty, h1, h2, ?_⟩
  have hA := ha cpos pins s1 σ H1 _ I1 q1
  rw [hs] at hA ⊢
  refine Calls.callWith_builtin (by show (false || (backTo cpos (starEach es X.env)).any (·.1)) = false; rw [hplain] <;> rfl) (Calls.evalArgs_plain ?_)
  exact thn hA fun us s2 ⟨vs, H2, I2, r2, q2⟩ => hm pins s2 σ H2 x vs v us Q I2 r1 r2 q2
end
end L2
namespace L2
open PySem PySem.Spec PyProof.Rows
def MtM (X : Cx) (id : String) (r : V → List V → Hp → VK → Prop) : Prop :=
  ∀ (pins : List (Addr × Obj)) (s : Shared) (σ : St) (H : Hp) (x : V) (xs : List V) (v : Value) (us : List Value) (Q : VK), Inv X pins σ H s → RelV x v → Vals xs us → r x xs H Q →
    wpAny (model X.prog X.w) X.A (call (.builtin id) (v :: us)) (EP X pins σ Q) X.xe s
theorem Vals.one : ∀ {x : V} {us : List Value}, Vals [x] us → ∃ u, us = [u] ∧ RelV x u
  | _, _, .cons r .nil => ⟨_, rfl, r⟩
theorem Vals.zero : ∀ {us : List Value}, Vals [] us → us = []
  | _, .nil => rfl
theorem Vals.dropLast {xs : List V} {us : List Value} (h : Vals xs us) : Vals xs.dropLast us.dropLast := by
  induction h with
  | nil => exact .nil
  | cons r t ih =>
    cases t with
    | nil => exact .nil
    | cons q t' => exact .cons r ih
theorem Vals.eraseIdx : ∀ {xs : List V} {us : List Value} (i : Nat), Vals xs us → Vals (xs.eraseIdx i) (us.eraseIdx i)
  | _, _, _, .nil => .nil
  | _, _, 0, .cons _ t => t
  | _, _, i + 1, .cons r t => .cons r (Vals.eraseIdx i t)
theorem Vals.reverse {xs : List V} {us : List Value} (h : Vals xs us) : Vals xs.reverse us.reverse := by
  induction h with
  | nil => exact .nil
  | cons r t ih => rw [List.reverse_cons, List.reverse_cons]; exact Vals.append ih (.cons r .nil)
theorem erase_last {α : Type} (l : List α) : l.eraseIdx (l.length - 1) = l.dropLast := by
  induction l with
  | nil => rfl
  | cons a r ih =>
    cases r with
    | nil => rfl
    | cons b r =>
      have e : (a :: b :: r).length - 1 = ((b :: r).length - 1) + 1 := by
        have h1 : (a :: b :: r).length = r.length + 2 := rfl
        have h2 : (b :: r).length = r.length + 1 := rfl
        omega
      rw [e, List.eraseIdx_cons_succ, ih]
      all_goals rfl
section
variable {X : Cx} {pins : List (Addr × Obj)} {σ : St} {H : Hp} {s : Shared} {l b : Addr} {xs ys zs : List V}
theorem Inv.lset {its its' : List Value} {n : Nat} {f : Array Value → Array Value} {t' : Nat} (I : Inv X pins σ H s) (hH : H l = some (.lst xs))
    (e : s.heap.get? l = some { cls := .type "list", data := .seq its.toArray n }) (hf : f its.toArray = its'.toArray) (hv : Vals ys its') (hz : ys.length ≤ sizeLine) :
    Inv X pins σ (upd H l (.lst ys)) { s with heap := s.heap.update l (Obj.mapSeq f), toks := t' } := by
  have q := PySem.IsL.update e f
  rw [hf] at q
  refine I.write (x := l) (e := l) (by rw [hH]; exact trivial) (.inl rfl) (fun b' u hb hu => (Heap.get?_update_other s.heap (Obj.mapSeq f) (Ne.symm hb)).trans hu) ⟨_, q⟩ ?_
  exact ⟨hz, its', _, hv, q⟩
theorem Inv.lnew {its : List Value} {t' : Nat} (I : Inv X pins σ H s) (hv : Vals ys its) (hz : ys.length ≤ sizeLine) :
    Inv X pins σ (upd H s.heap.objs.size (.lst ys)) { s with heap := s.heap.push { cls := .type "list", data := .seq its.toArray }, toks := t' } :=
  I.laid (fun _ _ q => Heap.get?_push_of_some _ q) (Nat.le_refl _) ⟨hz, its, 0, hv, Heap.get?_push_size _ rfl⟩
theorem Inv.fresh (I : Inv X pins σ H s) : H s.heap.objs.size = none := I.hok.fresh (Nat.le_refl _)
theorem Inv.lstM (I : Inv X pins σ H s) (hH : H l = some (.lst xs)) : xs.length ≤ sizeLine ∧ ∃ (its : List Value) (n : Nat), Vals xs its ∧ xs.length = its.length ∧ s.heap.get? l = some { cls := .type "list", data := .seq its.toArray n } := by
  obtain ⟨z, its, n, r, e⟩ := I.hok l _ hH
  exact ⟨z, its, n, r, r.length, e⟩
end
section
variable {X : Cx}
def rAppend : V → List V → Hp → VK → Prop := fun x vs H Q => ∃ l xs y, x = .ref l ∧ vs = [y] ∧ H l = some (.lst xs) ∧ xs.length < sizeLine ∧ Q .non (upd H l (.lst (xs ++ [y])))
theorem mt_append : MtM X "list.append" rAppend := by
  intro pins s σ H x vs v us Q I rx rv h
  obtain ⟨l, xs, y, rfl, rfl, hH, hz, q⟩ := h
  cases rx
  obtain ⟨u, rfl, ru⟩ := rv.one
  obtain ⟨z, its, n, r, hl, e⟩ := I.lstM hH
  refine call_meets F.slot_list_append ⟨_, e, rfl⟩ F.entry_list_append (F.args_list_append_2 _ _) (PySem.list_append l its.toArray n u (by rw [List.size_toArray]; omega)) ⟨e, ?_⟩
  refine ⟨.non, _, I.lset (its' := its ++ [u]) hH e (by simp) (r.append (.cons ru .nil)) ?_, rfl, q⟩
  rw [List.length_append, List.length_singleton]
  omega
def rPop : V → List V → Hp → VK → Prop := fun x vs H Q => ∃ l xs y, x = .ref l ∧ vs = [] ∧ H l = some (.lst xs) ∧ xs[xs.length - 1]? = some y ∧ Q y (upd H l (.lst xs.dropLast))
theorem mt_pop : MtM X "list.pop" rPop := by
  intro pins s σ H x vs v us Q I rx rv h
  obtain ⟨l, xs, y, rfl, rfl, hH, hy, q⟩ := h
  cases rx
  have hus := rv.zero
  subst hus
  obtain ⟨z, its, n, r, hl, e⟩ := I.lstM hH
  obtain ⟨u, hu, ru⟩ := r.get hy
  have hy' : its.toArray[its.toArray.size - 1]? = some u := by
    show its.toArray[its.length - 1]? = some u
    rw [← Array.getElem?_toList, ← hl]
    exact hu
  refine call_meets F.slot_list_pop ⟨_, e, rfl⟩ F.entry_list_pop (F.args_list_pop_1 _) (MeetsSeq.list_pop_last l its.toArray n u hy' (by rw [List.size_toArray]; omega)) ⟨e, ?_⟩
  refine ⟨y, _, I.lset (its' := its.dropLast) hH e ?_ r.dropLast ?_, ru, q⟩
  · show its.toArray.eraseIdxIfInBounds (its.toArray.size - 1) = its.dropLast.toArray
    rw [List.size_toArray, List.eraseIdxIfInBounds_toArray, erase_last]
  · rw [List.length_dropLast]
    omega
def rCat : R2 := fun x y H Q => ∃ l b xs zs, x = .ref l ∧ y = .ref b ∧ H l = some (.lst xs) ∧ H b = some (.lst zs) ∧ xs.length + zs.length ≤ sizeLine ∧ ∀ p, H p = none → Q (.ref p) (upd H p (.lst (xs ++ zs)))
end
section
variable {prog : Program} {w : World} {A : Around} {E : Value → Shared → Prop} {s : Shared}
set_option maxRecDepth 100000 in
end
section
variable {X : Cx}
end
end L2
namespace Att
open PySem PySem.W PySem.Calls PyProof.Rows
theorem ints_of_wellAll {P : Params} {h : Heap} : ∀ (ns : List Int) (vs : List Value), WellAll P h vs (ns.map WData.int) → IntsAre vs ns := by
  intro ns
  induction ns with
  | nil =>
    intro vs w
    rw [List.map_nil] at w
    cases w
    exact .nil
  | cons n ns ih =>
    intro vs w
    rw [List.map_cons] at w
    cases w with
    | cons a b =>
      cases a
      exact .cons _ _ (ih _ b)
theorem script_of {l : OpenLaw} {n : Nat} (hn : l.most = some n) {P : Params} {h : Heap} {args : List WData} {vals : List Value}
    (hpre : l.row.toRowW.claim.pre args = true) (hwl : WellAll P h vals args) :
    ∃ a vs ns, vals = [Value.ref a] ∧ args = [WData.list (ns.map WData.int)] ∧ h.get? a = some { cls := .type "list", data := .seq vs.toArray } ∧ IntsAre vs ns ∧ ns.length ≤ n := by
  have hsh : WShape.hasAll [] args [.list .int] = true := (pre_splitW hpre).1
  have hc : l.pre.holds [] { args := args } = true := (pre_splitW hpre).2
  obtain ⟨d, r, rfl, h1, h2⟩ := hasAllW_cons hsh
  obtain rfl := hasAllW_nil h2
  obtain ⟨xs, rfl, h3⟩ := hasW_list h1
  obtain ⟨ns, rfl⟩ := items_int h3
  have hlen : ns.length ≤ n := by
    unfold OpenLaw.pre at hc
    have h4 : (WTm.not (.lt (.lit (.int (n : Int))) (.len (.arg 0)))).holds [] { args := [.list (ns.map .int)] } = true := by
      have h4 := (holds_andW hc).1
      rw [hn] at h4
      exact h4
    have h5 := condW_of h4 (w_not (w_lt w_lit (w_len_list (w_arg rfl))))
    rw [List.length_map] at h5
    refine Nat.le_of_not_lt fun q => ?_
    have q' : (n : Int) < ((ns.length : Nat) : Int) := by omega
    first
      | (rw [decide_eq_true q'] at h5; exact absurd h5 (by decide))
      | (simp at h5; omega)
  cases hwl with
  | cons w1 w2 =>
    cases w2
    cases w1 with
    | list ho hall => exact ⟨_, _, ns, rfl, rfl, ho, ints_of_wellAll ns _ hall, hlen⟩
theorem post_true (l : OpenLaw) (args : List WData) : l.row.toRowW.claim.post args (.bool true) args = true :=
  postW_of (r := l.row.toRowW) (X := (true == true))
    (show WShape.has [] (.bool true) .bool = true by first | rfl | decide | simp [WShape.has, WShape.arms, WShape.armsAll])
    (show (WTm.eq .res (.lit (.bool true))).value [] { args := args, res := some (.bool true), after := args } = some (.bool (true == true)) from w_eq_bool (w_res rfl) w_lit) rfl
theorem attach_call {l : OpenLaw} {n : Nat} {q : Program} {loose : List Str} {XP : (Str → Option Value) → Heap → Prop} {YP : World → Heap → Prop} {d : DefRec}
    (hn : l.most = some n) (hdf : d.params.defaults = [])
    (call : ∀ (w : World) (s₀ s₁ : Shared) (mg mb : Str → Option Value) (fa : Addr) (o : Obj) (pm cd doc : Value) (a : Addr) (vs : List Value) (ns : List Int),
      Ground q loose [] XP w s₀ mg mb s₁.heap → YP w s₁.heap →
      s₁.heap.get? fa = some o → o.data = .func (docDef d.name d.params d.body d.scope pm cd doc) → s₁.heap.CodeRec cd d.name → mg d.name = some (.ref fa) →
      s₁.heap.get? a = some { cls := .type "list", data := .seq vs.toArray } → IntsAre vs ns → ns.length ≤ n → s₁.gens = #[] →
      codeAny (model l.prog w) callerA (.call (.ref fa) ⟨[.ref a], []⟩) (fun r s' => r = .ok (.ret (.bool true)) ∧ OldK s₁.heap s'.heap ∧ s'.os = s₁.os ∧ AllBare s'.gens) s₁) :
    WalkO q loose XP YP l.row.toRowW d [] (fun f vs => PySem.call f vs) := by
  intro w s₀ s₁ mg mb G Y fa o pm cd doc dV kV ho hd hcd hD hmg hg args vals as hpre hlay hrd hwl hlo
  obtain rfl : dV = .none := Dflts.none hD hdf
  obtain rfl : kV = .none := Dflts.noKw hD
  obtain ⟨a, vs, ns, rfl, rfl, hobj, hints, hlen⟩ := script_of hn hpre hwl
  refine enter_call (codeAny_mono (call w s₀ s₁ mg mb fa o pm cd doc a vs ns G Y ho (fd_plain hd) hcd hmg hobj hints hlen hg) fun r s' hq => ?_)
  obtain ⟨rfl, h2, h3, h4⟩ := hq
  exact ⟨.inl ⟨.bool true, .bool true, [], rfl, fun _ => rfl, .bool true, post_true l _, fun _ => ⟨List.Pairwise.nil, fun _ hm => (nomatch hm)⟩⟩, h2, h3, h4⟩
section
variable {prog : Program} {w : World} {A : Around} {E : Value → Shared → Prop} {s : Shared} {K : Frag}
end
end Att
namespace L2
open PySem PySem.Spec PyProof.Rows
theorem vals_ints : ∀ {vs : List Value} {ns : List Int}, IntsAre vs ns → Vals (ns.map V.int) vs
  | _, _, .nil => .nil
  | _, _, .cons n t h => .cons ⟨t, rfl⟩ (vals_ints h)
end L2
namespace L2
open PySem PySem.Spec PyProof.Rows
end L2
namespace L2
open PySem PySem.Spec PyProof.Rows
def inClass (s : Stmt) (j : Nat) : Stmt := match s with
  | .ClassDef _ _ _ body _ _ _ _ _ _ _ => body.getD j (.Pass ⟨0, 0, 0, 0⟩)
  | _ => .Pass ⟨0, 0, 0, 0⟩
def defArgs (s : Stmt) : Arguments := match s with
  | .FunctionDef _ a _ _ _ _ _ _ _ _ => a
  | _ => { posonlyargs := [], args := [], vararg := none, kwonlyargs := [], kw_defaults := [], kwarg := none, defaults := [] }
def defBody (s : Stmt) : List Stmt := match s with
  | .FunctionDef _ _ b _ _ _ _ _ _ _ => b
  | _ => []
def defScope (s : Stmt) : Scope := match s with
  | .FunctionDef _ _ _ _ _ _ sc _ _ _ => sc
  | _ => { kind := .function, names := [], isGenerator := false, isCoroutine := false }
abbrev CX0 : CXT := fun _ _ _ _ _ _ => False
abbrev E0 : XK := fun _ _ _ => False
theorem pass0 {X : Cx} : Passes CX0 X E0 := fun _ _ _ _ _ _ _ h => h.elim
structure Fun (K : PySem.W.Frag) (x qual : Str) (st : Stmt) (f : Addr) (fd : FuncData) : Prop where
  ex : ∃ (oc : Value) (od : Option Addr) (kV doc pm : Value) (an : Option Addr) (cdv ct : Value) (osl : Array (Option Value)),
    fd = PySem.W.fnOf x qual (defArgs st) (defBody st) (defScope st) .none kV doc pm an cdv ct ∧ K.lookup f = some ⟨oc, od, .func fd, osl⟩ ∧ PySem.W.codeIn K cdv qual = true
  kp : PySem.W.keepIn K (.ref f) = true
section
variable {P : Program} {w : World} {K : PySem.W.Frag} {mg : Str → Option Value} {base : Heap}
theorem Fun.ok {x qual : Str} {st : Stmt} {f : Addr} {fd : FuncData} {N ps : List Str} {k : Nat} {sp : Sp} (F : Fun K x qual st f fd) (S : FnScope N ps (defScope st)) (len : ∀ vs H Q E, sp vs H Q E → vs.length = ps.length)
    (hbody : ∀ (cdv : Value) (A : Around) (outer : List Env) (s : Shared) (H : Hp) (vs : List V) (Q : VK) (E : XK), Room k (A.deeper (envOfC qual (defScope st) s.heap.objs.size f cdv)) → sp vs H Q E →
      ∃ t, PSs (cxOf CX0 P w K mg base N qual (defScope st) f cdv A outer s H E).nox (defBody st) t ∧ t { nx := fun _ H' => Q .non H', rt := Q } (start N vs) H) : FnOk P w K mg base CX0 (k + 1) f fd ps sp := by
  obtain ⟨oc, od, kV, doc, pm, an, cdv, ct, osl, rfl, lk, hcd⟩ := F.ex
  refine fn_of lk hcd S len fun A outer s H vs Q E hr hsp => ?_
  obtain ⟨t, h, q⟩ := hbody cdv A outer s H vs Q E hr hsp
  exact ⟨t, h.nox, q⟩
theorem Fun.binds {x qual : Str} {st : Stmt} {f : Addr} {fd : FuncData} {ps : List Str} (F : Fun K x qual st f fd)
    (h : ∀ (kV doc pm : Value) (an : Option Addr) (cdv ct : Value) (us : List Value), us.length = ps.length → bindArgs (PySem.W.fnOf x qual (defArgs st) (defBody st) (defScope st) .none kV doc pm an cdv ct) ⟨us, []⟩ = pure (ps.zip us)) : Binds K fd ps [] := by
  obtain ⟨oc, od, kV, doc, pm, an, cdv, ct, osl, rfl, lk, hcd⟩ := F.ex
  exact .all (h kV doc pm an cdv ct)
theorem fun_mk {x qual : Str} {st : Stmt} {f : Addr} {oc : Value} {od an : Option Addr} {osl : Array (Option Value)} {kV doc pm cdv ct : Value} (l : K.lookup f = some ⟨oc, od, .func (PySem.W.fnOf x qual (defArgs st) (defBody st) (defScope st) .none kV doc pm an cdv ct), osl⟩)
    (c : PySem.W.codeIn K cdv qual = true) (k : PySem.W.keepIn K (.ref f) = true) : Fun K x qual st f (PySem.W.fnOf x qual (defArgs st) (defBody st) (defScope st) .none kV doc pm an cdv ct) := ⟨⟨oc, od, kV, doc, pm, an, cdv, ct, osl, rfl, l, c⟩, k⟩
end
section
variable {X : Cx}
theorem pv (i : Nat) {x : Str} {pos : Pos} (hN : X.N[i]? = some x := by rfl) (hv : Vis X.env.scope x := by first | exact Or.inl rfl | exact Or.inr (Or.inl rfl) | exact Or.inr (Or.inr rfl)) (hd : (x == ("__debug__" : Str)) = false := by decide)
    (hcd : (x == ("__classdict__" : Str)) = false := by decide) : PE X (.Name x pos) (tVar i) := pe_var hN hv hd hcd
end
theorem ite2 {c A B : Prop} [Decidable c] (h1 : c → A) (h2 : ¬ c → B) : if c then A else B := by
  by_cases h : c
  · rw [if_pos h]
    exact h1 h
  · rw [if_neg h]
    exact h2 h
def Same (H H' : Hp) : Prop := ∀ b o, H b = some o → H' b = some o
theorem Same.refl (H : Hp) : Same H H := fun _ _ h => h
theorem Same.trans {H H1 H2 : Hp} (a : Same H H1) (b : Same H1 H2) : Same H H2 := fun c o h => b c o (a c o h)
theorem Same.free {H H' : Hp} (e : Same H H') {l : Addr} (h : H' l = Option.none) : H l = Option.none := by
  cases q : H l with
  | none => rfl
  | some o =>
    rw [e l o q] at h
    cases h
theorem Same.seq {K : PySem.W.Frag} {H H' : Hp} {a : Addr} {xs : List V} (e : Same H H') (h : SqL K H a xs) : SqL K H' a xs := by
  rcases h with (h | ⟨o, h⟩) | h
  · exact .inl (.inl (e _ _ h))
  · exact .inl (.inr ⟨o, e _ _ h⟩)
  · exact .inr h
end L2
namespace L2
open PySem PySem.Spec PyProof.Rows
def AllIn : List (Str × Addr) → List (Str × Addr) → Prop
  | [], _ => True
  | (x, c) :: r, cells => cells.lookup x = some c ∧ AllIn r cells
theorem AllIn.look {cells : List (Str × Addr)} : ∀ {cl : List (Str × Addr)}, AllIn cl cells → ∀ {x : Str} {c : Addr}, cl.lookup x = some c → cells.lookup x = some c
  | [], _, x, c, e => by simp at e
  | (y, d) :: r, h, x, c, e => by
    rw [List.lookup_cons] at e
    cases q : x == y with
    | true =>
      rw [q] at e
      have z : d = c := Option.some.inj e
      have z2 : x = y := beq_iff_eq.mp q
      subst z z2
      exact h.1
    | false =>
      rw [q] at e
      exact AllIn.look h.2 e
def closFrom (cells : List (Str × Addr)) : List (Str × NameKind) → List (Str × Addr) → List (Str × Addr)
  | [], cs => cs
  | (n, k) :: r, cs => closFrom cells r (match k with
    | .free => match cells.lookup n with
      | some c => (n, c) :: cs
      | Option.none => cs
    | _ => cs)
abbrev closOf (scope : Scope) (env : Env) : List (Str × Addr) := closFrom env.cells scope.names []
theorem closFrom_in (cells : List (Str × Addr)) : ∀ (names : List (Str × NameKind)) (cs : List (Str × Addr)), AllIn cs cells → AllIn (closFrom cells names cs) cells
  | [], _, h => h
  | (n, k) :: r, cs, h => by
    unfold closFrom
    refine closFrom_in cells r _ ?_
    cases k with
    | free =>
      cases q : cells.lookup n with
      | none => exact h
      | some c => exact ⟨q, h⟩
    | _ => exact h
theorem closOf_in (scope : Scope) (env : Env) : AllIn (closOf scope env) env.cells := closFrom_in _ _ _ trivial
def CapOk (X : Cx) (sc : Scope) (cl : List (Str × Addr)) : List Str → List (Option Nat) → Prop
  | [], [] => True
  | _ :: N, Option.none :: r => CapOk X sc cl N r
  | x :: N, some j :: r => X.N[j]? = some x ∧ (X.env.kindOf x = some .cell ∨ X.env.kindOf x = some .free) ∧ (sc.names.lookup x = some .cell ∨ sc.names.lookup x = some .free) ∧ (∃ c, cl.lookup x = some c) ∧ CapOk X sc cl N r
  | _, _ => False
def capSt (σ : St) (cap : List (Option Nat)) : St := cap.map fun o => match o with
  | Option.none => Option.none
  | some j => match σ[j]? with
    | some v => v
    | Option.none => Option.none
theorem CapOk.nil {X : Cx} {sc : Scope} {cl : List (Str × Addr)} : CapOk X sc cl [] [] := trivial
theorem CapOk.own {X : Cx} {sc : Scope} {cl : List (Str × Addr)} {x : Str} {N : List Str} {r : List (Option Nat)} (h : CapOk X sc cl N r) : CapOk X sc cl (x :: N) (Option.none :: r) := h
theorem CapOk.take {X : Cx} {sc : Scope} {cl : List (Str × Addr)} {x : Str} {N : List Str} {j : Nat} {r : List (Option Nat)} (h1 : X.N[j]? = some x) (h2 : X.env.kindOf x = some .cell ∨ X.env.kindOf x = some .free)
    (h3 : sc.names.lookup x = some .cell ∨ sc.names.lookup x = some .free) (h4 : (cl.lookup x).isSome = true) (h : CapOk X sc cl N r) : CapOk X sc cl (x :: N) (some j :: r) := ⟨h1, h2, h3, Option.isSome_iff_exists.mp h4, h⟩
theorem CapOk.len {X : Cx} {sc : Scope} {cl : List (Str × Addr)} : ∀ {N : List Str} {cap : List (Option Nat)}, CapOk X sc cl N cap → cap.length = N.length
  | [], [], _ => rfl
  | _ :: N, Option.none :: r, h => congrArg (· + 1) (CapOk.len (N := N) (cap := r) h)
  | _ :: N, some _ :: r, h => congrArg (· + 1) (CapOk.len (N := N) (cap := r) h.2.2.2.2)
  | [], _ :: _, h => h.elim
  | _ :: _, [], h => h.elim
theorem CapOk.get {X : Cx} {sc : Scope} {cl : List (Str × Addr)} {σ : St} : ∀ {N : List Str} {cap : List (Option Nat)} {i : Nat} {x : Str} {v : V}, CapOk X sc cl N cap → N[i]? = some x → (capSt σ cap)[i]? = some (some v) →
    ∃ j : Nat, X.N[j]? = some x ∧ σ[j]? = some (some v) ∧ (X.env.kindOf x = some .cell ∨ X.env.kindOf x = some .free) ∧ (sc.names.lookup x = some .cell ∨ sc.names.lookup x = some .free) ∧ ∃ c, cl.lookup x = some c
  | [], [], i, x, v, _, e, _ => by simp at e
  | y :: N, Option.none :: r, 0, x, v, h, e1, e2 => by
    have z : (some (Option.none : Option V)) = some (some v) := e2
    cases z
  | y :: N, Option.none :: r, i + 1, x, v, h, e1, e2 => CapOk.get (N := N) (cap := r) (i := i) h (by simpa using e1) (by simpa [capSt] using e2)
  | y :: N, some j :: r, 0, x, v, h, e1, e2 => by
    have z : y = x := by simpa using e1
    subst z
    obtain ⟨h1, h2, h3, h4, _⟩ := h
    refine ⟨j, h1, ?_, h2, h3, h4⟩
    have z2 : some (match σ[j]? with | some v => v | Option.none => Option.none) = some (some v) := e2
    cases q : σ[j]? with
    | none => rw [q] at z2; cases z2
    | some o => rw [q] at z2; exact z2
  | y :: N, some j :: r, i + 1, x, v, h, e1, e2 => CapOk.get (N := N) (cap := r) (i := i) h.2.2.2.2 (by simpa using e1) (by simpa [capSt] using e2)
  | [], _ :: _, _, _, _, h, _, _ => h.elim
  | _ :: _, [], _, _, _, h, _, _ => h.elim
def cxC (X : Cx) (N' : List Str) (scope : Scope) (s : Shared) (H : Hp) (fp : List Addr) (xe : Value → Shared → Prop) : Cx :=
  { X with N := N', s₀ := s, H₀ := H, env := compEnvC scope (closOf scope X.env) s.heap.objs.size X.env, outer := X.stack, ex := fp, fn := fun _ => false, pn := [], xe := xe }
def PTs (X : Cx) (ifs : List Expr) (t : TT) : Prop :=
  ∀ (pins : List (Addr × Obj)) (s : Shared) (σ : St) (H : Hp) (Q : Bool → Hp → Prop), Inv X pins σ H s → t σ H Q →
    wpAny (model X.prog X.w) X.A (forIn ifs true fun c r => if r = true then do let ok ← isTrue c X.env (eval c X.env); pure (ForInStep.yield ok) else pure (ForInStep.yield r)) (TP X pins σ Q) X.xe s
def tNoIf : TT := fun _ H Q => Q true H
theorem pts_nil {X : Cx} : PTs X [] tNoIf := fun _ _ _ H _ I h => wpAny_tests_nil ⟨H, I, h⟩
theorem pts_one {X : Cx} {c : Expr} {t : TT} (h : PT X c t) : PTs X [c] t := fun pins s σ H Q I hw => wpAny_tests_one (h pins s σ H Q I hw)
def tComp (cap : List (Option Nat)) (wi : TI) (g : TG) (tt : TT) (te : TE) : TE := fun σ H Q => wi σ H fun J H1 => ∀ D, H1 D = Option.none →
  ∃ W : Nat → Nat → List V → St → Hp → Prop, (∃ m, W 0 m [] (capSt σ cap) (upd H1 D (.lst []))) ∧ ∀ i m acc σ1 H2, W i m acc σ1 H2 → H2 D = some (.lst acc) →
    (J.stop i H2 ∧ Q (.ref D) H2) ∨ (J.go i H2 ∧ ∀ x H3, J.yld i H2 x H3 → g x σ1 H3 fun σ4 H4 => tt σ4 H4 fun b H5 =>
      if b = true then te σ4 H5 fun v H6 => ∃ acc', H6 D = some (.lst acc') ∧ acc'.length < sizeLine ∧ ∃ m', m' < m ∧ W (i + 1) m' (acc' ++ [v]) σ4 (upd H6 D (.lst (acc' ++ [v])))
      else ∃ m', m' < m ∧ ∃ acc', H5 D = some (.lst acc') ∧ W (i + 1) m' acc' σ4 H5)
section
variable {X : Cx} {elt tg iter : Expr} {ifs : List Expr} {scope : Scope} {pos : Pos} {cap : List (Option Nat)} {N' : List Str} {wi : TI} {g : TG} {tt : TT} {te : TE}
structure CompOk (X : Cx) (iter : Expr) (scope : Scope) (N' : List Str) (cap : List (Option Nat)) : Prop where
  clos : closureFor scope X.env = pure (closOf scope X.env)
  cap : CapOk X (relabel scope X.env) (closOf scope X.env) N' cap
  kind : scope.kind = .function
  nocell : ∀ y ∈ scope.names, y.2 ≠ .cell
  names : ∀ y ∈ scope.names, y.2 = .local → scope.names.lookup y.1 = some .local
  has : (scope.names.all fun y => y.2 != .free || ((closOf scope X.env).lookup y.1).isSome) = true
  fold : ∀ x, foldedSetIterable iter X.env x = pure x
theorem has_map {f : Str × NameKind → Str × NameKind} (h1 : ∀ y, (f y).1 = y.1) (h2 : ∀ y, y.2 ≠ NameKind.cell → ((f y).2 = NameKind.cell ∨ (f y).2 = NameKind.free) → y.2 = NameKind.free) {cl : List (Str × Addr)} :
    ∀ {names : List (Str × NameKind)} {x : Str}, (∀ y ∈ names, y.2 ≠ NameKind.cell) → (names.all fun y => y.2 != NameKind.free || (cl.lookup y.1).isSome) = true → ((names.map f).lookup x = some NameKind.cell ∨ (names.map f).lookup x = some NameKind.free) → ∃ c, cl.lookup x = some c
  | [], x, _, _, h => by rcases h with h | h <;> simp at h
  | y :: r, x, hc, ha, h => by
    rw [List.all_cons, Bool.and_eq_true] at ha
    rw [List.map_cons] at h
    have e0 : f y = (y.1, (f y).2) := by rw [← h1 y]
    rw [e0, List.lookup_cons] at h
    cases q : x == y.1 with
    | true =>
      rw [q] at h
      have e : x = y.1 := beq_iff_eq.mp q
      have hf : y.2 = NameKind.free := h2 y (hc y List.mem_cons_self) (by
        rcases h with h | h
        · exact .inl (Option.some.inj h)
        · exact .inr (Option.some.inj h))
      have h3 : (cl.lookup y.1).isSome = true := by
        have := ha.1
        rw [hf] at this
        simpa using this
      rw [e]
      exact Option.isSome_iff_exists.mp h3
    | false =>
      rw [q] at h
      exact has_map h1 h2 (fun z hz => hc z (List.mem_cons_of_mem _ hz)) ha.2 h
theorem has_of {env : Env} {scope : Scope} {cl : List (Str × Addr)} {x : Str} (hc : ∀ y ∈ scope.names, y.2 ≠ NameKind.cell) (ha : (scope.names.all fun y => y.2 != NameKind.free || (cl.lookup y.1).isSome) = true)
    (h : (relabel scope env).names.lookup x = some NameKind.cell ∨ (relabel scope env).names.lookup x = some NameKind.free) : ∃ c, cl.lookup x = some c := by
  refine has_map (f := fun (n, k) => if (k == NameKind.free && env.scope.kind == .function && env.kindOf n == some .cell) then (n, NameKind.cell) else (n, k)) (fun y => ?_) (fun y hy hk => ?_) hc ha h
  · obtain ⟨n, k⟩ := y
    dsimp only
    split <;> rfl
  · obtain ⟨n, k⟩ := y
    dsimp only at hk ⊢ hy
    by_cases hb : (k == NameKind.free && env.scope.kind == .function && env.kindOf n == some .cell) = true
    · simp only [Bool.and_eq_true] at hb
      exact beq_iff_eq.mp hb.1.1
    · rw [if_neg hb] at hk
      rcases hk with hk | hk
      · exact absurd hk hy
      · exact hk
theorem compLoop_any {P : Program} {w : World} {A : Around} {R : Result → Shared → Prop} {s : Shared} {it acc : Value} {env : Env} (I : Nat → Shared → Prop)
    (turn : ∀ n s, I n s → wpAny (model P w) A (pyNext it) (fun r s₁ => match r with
      | none => R (.ok .next) s₁
      | some v => wpAny (model P w) A (letOwnedTupleGo tg it v) (fun _ s₁' => wpAny (model P w) A (assign tg env v) (fun _ s₂ =>
          wpAny (model P w) A (forIn ifs true fun c r => if r = true then do let ok ← isTrue c env (eval c env); pure (ForInStep.yield ok) else pure (ForInStep.yield r)) (fun ok s₃ =>
            if ok = true then wpAny (model P w) A (eval elt env) (fun x s₄ =>
              wpAny (model P w) A (call (.builtin "list.append") [acc, x]) (fun _ s₅ => ∃ m, m < n ∧ I m s₅) (notedBy (model P w) A env fun e s' => R (.error e) s') s₄) (notedBy (model P w) A env fun e s' => R (.error e) s') s₃
            else ∃ m, m < n ∧ I m s₃) (notedBy (model P w) A env fun e s' => R (.error e) s') s₂) (notedBy (model P w) A env fun e s' => R (.error e) s') s₁') (notedBy (model P w) A env fun e s' => R (.error e) s') s₁)
        (notedBy (model P w) A env fun e s' => R (.error e) s') s)
    (n : Nat) (h : I n s) :
    codeAny (model P w) A (.compLoop (.ListComp elt [⟨tg, iter, ifs, 0⟩] scope pos) 0 it acc env) R s := by
  refine codeAny_loop rfl I (fun n s hI => ?_) n h
  show wpAny _ A ((compTurn (.ListComp elt [⟨tg, iter, ifs, 0⟩] scope pos) 0 it acc env).onRaise (fun x => do noteFrame x env; theTreesLotGoes x)) _ _ s
  refine wpAny_noted ?_
  rw [compTurn_list]
  refine wpAny_bind (wpAny_standAt (wpAny_bind (wpAny_mono (turn n s hI) (fun r s₁ h₁ => ?_) fun _ _ h' => h')))
  cases r with
  | none => exact wpAny_pure h₁
  | some v =>
    refine wpAny_bind (wpAny_mono h₁ (fun _ s₁' h₁ => ?_) fun _ _ h' => h')
    refine wpAny_bind (wpAny_mono h₁ (fun _ s₂ h₂ => wpAny_bind (wpAny_mono h₂ (fun ok s₃ h₃ => ?_) fun _ _ h' => h')) fun _ _ h' => h')
    cases ok with
    | false => exact wpAny_pure ⟨rfl, h₃⟩
    | true =>
      exact wpAny_bind (wpAny_bind (wpAny_mono h₃ (fun x s₄ h₄ => wpAny_bind (wpAny_mono h₄ (fun _ s₅ h₅ => wpAny_pure (wpAny_pure ⟨rfl, h₅⟩)) fun _ _ h' => h')) fun _ _ h' => h'))
theorem comp_core {pins : List (Addr × Obj)} {σ : St} {H2 : Hp} {s2 : Shared} {Q : VK} {it : Addr} {fp : List Addr} {tn : Nat → Heap → Prop} {J : It} {R : Value → Addr → Result → Shared → Prop} {E : Value → Shared → Prop}
    (hc : X.calm = true) (C : CompOk X iter scope N' cap)
    (hg : ∀ s H fp xe, PG (cxC X N' scope s H fp xe) tg g) (ht : ∀ s H fp xe, PTs (cxC X N' scope s H fp xe) ifs tt) (he : ∀ s H fp xe, PE (cxC X N' scope s H fp xe) elt te)
    (I2 : Inv X pins σ H2 s2) (T : Turn X.prog X.w X.K tg J fp it tn) (st2 : tn 0 s2.heap) (f2 : ∀ b ∈ fp, FpOk X pins H2 b)
    (hR : ∀ D Cl H' s', Inv X pins σ H' s' → (∃ m, s'.heap.Ns Cl m) → H' Cl = Option.none → Cl ≠ X.env.locals → X.s₀.heap.objs.size ≤ Cl → (∀ x c, X.env.cells.lookup x = some c → c ≠ Cl) → (∀ p ∈ X.pn ++ pins, p.1 ≠ Cl) → Q (.ref D) H' → R (.ref D) Cl (.ok .next) s')
    (hw : ∀ D, H2 D = Option.none → ∃ W : Nat → Nat → List V → St → Hp → Prop, (∃ m, W 0 m [] (capSt σ cap) (upd H2 D (.lst []))) ∧ ∀ i m acc σ1 H2, W i m acc σ1 H2 → H2 D = some (.lst acc) →
      (J.stop i H2 ∧ Q (.ref D) H2) ∨ (J.go i H2 ∧ ∀ x H3, J.yld i H2 x H3 → g x σ1 H3 fun σ4 H4 => tt σ4 H4 fun b H5 =>
        if b = true then te σ4 H5 fun v H6 => ∃ acc', H6 D = some (.lst acc') ∧ acc'.length < sizeLine ∧ ∃ m', m' < m ∧ W (i + 1) m' (acc' ++ [v]) σ4 (upd H6 D (.lst (acc' ++ [v])))
        else ∃ m', m' < m ∧ ∃ acc', H5 D = some (.lst acc') ∧ W (i + 1) m' acc' σ4 H5)) :
    wpAny (model X.prog X.w) X.A (newList []) (fun acc s₃ => wpAny (model X.prog X.w) X.A (newFunctionEnv scope X.env.globals (closOf scope X.env) [] X.env.qual none .none (some X.env)) (fun cenv s₄ =>
      codeAny (model X.prog X.w) X.A (.compStart (.ListComp elt [⟨tg, iter, ifs, 0⟩] scope pos) 0 (.ref it) acc { cenv with scope := relabel scope X.env }) (R acc cenv.locals) s₄) E s₃) E s2 := by
  refine wpAny_newObj_type (wpAny_newFunctionEnv C.nocell (by intro y hy; simp at hy) (fun h₁ hns₁ hsb₁ => ?_) C.kind)
  obtain ⟨W, ⟨m0, w0⟩, turn⟩ := hw s2.heap.objs.size I2.fresh
  have I3 : Inv X pins σ (upd H2 s2.heap.objs.size (.lst [])) { s2 with heap := s2.heap.push { cls := .type "list", data := .seq ([] : List Value).toArray } } := I2.lnew (t' := s2.toks) .nil (Nat.zero_le _)
  generalize hs3 : ({ s2 with heap := s2.heap.push { cls := .type "list", data := .seq ([] : List Value).toArray } } : Shared) = s3 at I3 hns₁ hsb₁ ⊢
  generalize hD : s2.heap.objs.size = D at I3 w0 turn ⊢
  have hn0 : H2 D = Option.none := by rw [← hD]; exact I2.fresh
  have hs32 : s3.os = s2.os := by rw [← hs3]
  have un32 : Un (frs X.stack) fp H2 (upd H2 D (.lst [])) s2.heap s3.heap := by
    rw [← hs3, ← hD]
    exact Un.laid (fun b u q => Heap.get?_push_of_some _ q) (Nat.le_refl _) I2.fresh
  have keep4 : ∀ b o, s3.heap.get? b = some o → h₁.get? b = some o := fun b o e => (hsb₁.2 b (Nat.ne_of_lt (Heap.lt_size e))).trans (Heap.get?_push_of_some _ e)
  have keep2 : ∀ b o, s2.heap.get? b = some o → s3.heap.get? b = some o := fun b o e => by rw [← hs3]; exact Heap.get?_push_of_some _ e
  have hR' : ∀ (r : Result) (s' : Shared), R (.ref D) s3.heap.objs.size r s' → R (.ref D) s3.heap.objs.size r s' := fun _ _ h => h
  have f3 : ∀ b ∈ fp, FpOk X pins (upd H2 D (.lst [])) b := fun b hb => by
    obtain ⟨q0, q1⟩ := f2 b hb
    refine ⟨?_, q1⟩
    obtain ⟨o, e, _⟩ := T.obj _ _ st2 b hb
    rw [upd_ne (by rw [← hD]; exact Nat.ne_of_lt (Heap.lt_size e))]
    exact q0
  let XC : Cx := cxC X N' scope s3 (upd H2 D (.lst [])) fp (notedBy (model X.prog X.w) X.A (compEnvC scope (closOf scope X.env) s3.heap.objs.size X.env) fun e s' => R (.ref D) s3.heap.objs.size (.error e) s')
  have ok : XC.Ok := by
    refine ⟨I3.ok.mod, C.kind, I3.ok.glob, I3.ok.blt, Nat.le_refl _, fun x y c e1 e2 => I3.ok.inj x y c ((closOf_in scope X.env).look e1) ((closOf_in scope X.env).look e2), fun x hx => has_of C.nocell C.has hx, fun x c hf => (nomatch hf), fun _ => I3.ok.hd hc, I3.ok.frames, .inl rfl, fun b hb => ?_, I3.bs, Nat.le_trans I3.ok.bsz I3.sz, fun b o e hb => ?_, fun b hb hf => ?_, I3.stack, I3.stkFree⟩
    · obtain ⟨q0, q1, q2, q3, q4, q5⟩ := f3 b hb
      refine ⟨?_, fun x c e => q4 x c ((closOf_in scope X.env).look e)⟩
      obtain ⟨o, e, _⟩ := T.obj _ _ st2 b hb
      exact Nat.ne_of_lt (Heap.lt_size (keep2 _ _ e))
    · obtain ⟨q0, q1, q2, q3, q4, q5⟩ := f3 b hb
      rcases q3 with q3 | q3
      · exact I3.ok.noex b o e q3
      · exact absurd (Nat.lt_of_lt_of_le (Heap.lt_size e) (Nat.le_trans I3.ok.bsz q3)) (Nat.lt_irrefl _)
    · obtain ⟨q0, q1, q2, q3, q4, q5⟩ := f3 b hb
      rcases List.mem_cons.mp (I3.stkSub b hf) with z | z
      · exact q1 z
      · exact q2 z
  have I4 : Inv XC [] (capSt σ cap) (upd H2 D (.lst [])) { s3 with heap := h₁, toks := s3.toks + ([] : List (Str × Value)).length } := by
    refine ⟨ok, rfl, I3.bare, Un.kept keep4, ⟨_, hns₁, fun i x v e1 e2 e3 => ?_⟩, fun x c e => ?_, I3.hok.fresh (Nat.le_refl _), fun x c e => I3.freeC x c ((closOf_in scope X.env).look e), fun p hp => absurd (show p ∈ ([] : List (Addr × Obj)) from hp) (by simp), I3.hok.kept keep4, by rw [show (capSt σ cap).length = cap.length from by simp [capSt]]; exact C.cap.len⟩
    · obtain ⟨j, g1, g2, g3, g4, c, g5⟩ := C.cap.get e1 e2
      obtain ⟨m, _, hl⟩ := I3.loc
      obtain ⟨u, r, l⟩ := hl j x v g1 g2 (by
        rcases g3 with z | z
        · exact .inr (.inl z)
        · exact .inr (.inr z))
      refine ⟨u, r, .inr ⟨g4, c, g5, ?_⟩⟩
      rcases l with ⟨k, _⟩ | ⟨_, c', e, z⟩
      · rcases g3 with q | q
        · rw [k] at q; cases q
        · rw [k] at q; cases q
      · have e' := (closOf_in scope X.env).look g5
        rw [e] at e'; cases e'
        obtain ⟨o, ho, hd⟩ := z
        exact ⟨o, keep4 _ _ ho, hd⟩
    · obtain ⟨v, o, ho, hd⟩ := I3.cell x c ((closOf_in scope X.env).look e)
      exact ⟨v, o, keep4 _ _ ho, hd⟩
  have st4 : tn 0 h₁ := T.keep _ _ _ st2 fun b _ o e => keep4 b o (keep2 b o e)
  have fpc : ∀ {pins' : List (Addr × Obj)} {H' : Hp}, (∀ b ∈ fp, H' b = Option.none) → (∀ p ∈ pins', p.1 ∉ fp) → ∀ b ∈ fp, FpOk XC pins' H' b := fun {pins' H'} hn hp b hb => by
    obtain ⟨q1, q2⟩ := ok.exf b hb
    exact ⟨hn b hb, q1, ok.exfs b hb, .inl hb, q2, fun p hp' z => hp p (by simpa [XC, cxC] using hp') (by rw [z]; exact hb)⟩
  have hDf : D ∉ fp := fun hb => by
    obtain ⟨o, e, _⟩ := T.obj _ _ st2 D hb
    rw [← hD] at e
    exact absurd (Heap.lt_size e) (Nat.lt_irrefl _)
  have out : ∀ {σ' : St} {H' : Hp} {s' : Shared}, Inv XC [] σ' H' s' → Inv X pins σ H' s' := fun {σ' H' s'} J' =>
    I2.call' (ch := fp) (J'.os.trans hs32) (un32.trans J'.base) J'.hok J'.bare fun b hb => by
      obtain ⟨q0, q1, q2, q3, q4, q5⟩ := f2 b hb
      exact ⟨q3, q1, q4, q5⟩
  have loop : ∀ s₄ : Shared, s₄ = { s3 with heap := h₁, toks := s3.toks + ([] : List (Str × Value)).length } →
      codeAny (model X.prog X.w) X.A (.compLoop (.ListComp elt [⟨tg, iter, ifs, 0⟩] scope pos) 0 (.ref it) (.ref D) (compEnvC scope (closOf scope X.env) s3.heap.objs.size X.env)) (R (.ref D) s3.heap.objs.size) s₄ := by
    rintro s₄ rfl
    refine compLoop_any (fun n s' => ∃ i acc σ' H', Inv XC [] σ' H' s' ∧ tn i s'.heap ∧ (∀ b ∈ fp, H' b = Option.none) ∧ H' D = some (.lst acc) ∧ W i n acc σ' H') ?_ m0
      ⟨0, [], capSt σ cap, upd H2 D (.lst []), I4, st4, fun b hb => (f3 b hb).1, upd_same, w0⟩
    rintro n s5 ⟨i, acc, σ5, H5, I5, st5, fr5, hA, w5⟩
    rcases turn i n acc σ5 H5 w5 hA with ⟨stop, q⟩ | ⟨go, step⟩
    · refine thn (T.done XC rfl rfl rfl hc i [] s5 σ5 H5 _ I5 (fpc fr5 (by simp)) st5 stop) fun r s6 ⟨hr, I6⟩ => ?_
      subst hr
      obtain ⟨m, hn, _⟩ := I6.loc
      exact hR D s3.heap.objs.size H5 s6 (out I6) ⟨m, hn⟩ I6.free (Nat.ne_of_gt I3.lt) I3.sz (fun x c e z => by
        obtain ⟨v, o, ho, _⟩ := I3.cell x c e
        rw [z] at ho
        exact absurd (Heap.lt_size ho) (Nat.lt_irrefl _)) (fun p hp z => by
        have e := (I3.pin p hp).1
        rw [z] at e
        exact absurd (Heap.lt_size e) (Nat.lt_irrefl _)) q
    · refine thn (T.item XC rfl rfl rfl hc i [] s5 σ5 H5 _ I5 (fpc fr5 (by simp)) st5 go) fun r s6 ⟨u, hr, h6⟩ => ?_
      subst hr
      refine thn h6 fun _ s7 ⟨x, H7, I7, r7, y7, st7, fr7⟩ => ?_
      have I7' := I7.pinned (fpc fr7 (by simp)) (T.obj _ _ st7)
      have again : ∀ {σ8 : St} {H8 : Hp} {s8 : Shared}, Inv XC ([] ++ pinsAt fp s7.heap) σ8 H8 s8 → (∃ acc', H8 D = some (.lst acc') ∧ ∃ m', m' < n ∧ W (i + 1) m' acc' σ8 H8) →
          ∃ m, m < n ∧ ∃ i acc σ' H', Inv XC [] σ' H' s8 ∧ tn i s8.heap ∧ (∀ b ∈ fp, H' b = Option.none) ∧ H' D = some (.lst acc) ∧ W i m acc σ' H' := fun {σ8 H8 s8} I8 ⟨acc', hA', m', hm, w8⟩ => by
        refine ⟨m', hm, i + 1, acc', σ8, H8, I8.unpinned, T.keep _ _ _ st7 fun b hb o e => (I8.pin (b, o) (List.mem_append_right _ (List.mem_append_right _ (mem_pinsAt hb e)))).1, fun b hb => ?_, hA', w8⟩
        obtain ⟨o, e, d⟩ := T.obj _ _ st7 b hb
        exact (I8.pin (b, o) (List.mem_append_right _ (List.mem_append_right _ (mem_pinsAt hb e)))).2.1
      refine thn (hg s3 _ fp _ _ s7 σ5 H7 x u _ I7' r7 (step x H7 y7)) fun _ s8 ⟨σ8, H8, I8, q8⟩ => ?_
      refine thn (ht s3 _ fp _ _ s8 σ8 H8 _ I8 q8) fun b s9 ⟨H9, I9, q9⟩ => ?_
      cases b with
      | false =>
        rw [if_neg Bool.false_ne_true] at q9 ⊢
        obtain ⟨m', hm, acc', hA', w9⟩ := q9
        exact again I9 ⟨acc', hA', m', hm, w9⟩
      | true =>
        rw [if_pos rfl] at q9 ⊢
        refine thn (he s3 _ fp _ _ s9 σ8 H9 _ I9 q9) fun v s10 ⟨y, H10, I10, r10, acc', hA', hz, m', hm, w10⟩ => ?_
        refine thn (mt_append (X := XC) _ s10 σ8 H10 (.ref D) [y] (.ref D) [v] (fun _ Hz => Hz = upd H10 D (.lst (acc' ++ [y]))) I10 rfl (.cons r10 .nil) ⟨D, acc', y, rfl, rfl, hA', hz, rfl⟩) fun _ s11 ⟨_, H11, I11, _, e11⟩ => ?_
        subst e11
        exact again I11 ⟨acc' ++ [y], upd_same, m', hm, w10⟩
  exact codeAny_compStart_list (loop _ rfl) (T.self _ 0 _ _ _ st4 (loop _ rfl))
theorem pe_comp (hc : X.calm = true) (C : CompOk X iter scope N' cap) (hi : PI X tg iter wi)
    (hg : ∀ s H fp xe, PG (cxC X N' scope s H fp xe) tg g) (ht : ∀ s H fp xe, PTs (cxC X N' scope s H fp xe) ifs tt) (he : ∀ s H fp xe, PE (cxC X N' scope s H fp xe) elt te) :
    PE X (.ListComp elt [⟨tg, iter, ifs, 0⟩] scope pos) (tComp cap wi g tt te) := by
  intro pins s σ H Q I h
  rw [eval_ListComp]
  refine wpAny_comprehension_free (use := none) rfl C.fold C.clos C.kind C.names (thn (hi pins s σ H _ I h) fun v s1 h1 => thn h1 fun itv s2 h2 => ?_)
  obtain ⟨it, fp, tn, J, H2, e, I2, T, st2, f2, hw⟩ := h2
  subst e
  refine comp_core (R := fun acc Cl => compPost (model X.prog X.w) X.A X.xe none (EP X pins σ Q) acc Cl) hc C hg ht he I2 T st2 f2 ?_ hw
  intro D Cl H' s' I' ⟨m, hn⟩ hf h1 h2 h3 h4 q
  exact ⟨m, hn, fun h' hs' => ⟨.ref D, H', I'.turned (t' := s'.toks) (fun b o hb e => (hs'.2 b hb).trans e) hf h1 (.inr h2) h3 h4, rfl, q⟩⟩
theorem ps_setComp {i : Nat} {y : Str} {py spos : Pos} (hN : X.N.Nodup) (hi0 : X.N[i]? = some y) (hy : X.env.scope.names.lookup y = some .local)
    (hc : X.calm = true) (C : CompOk X iter scope N' cap) (hi : PI X tg iter wi)
    (hg : ∀ s H fp xe, PG (cxC X N' scope s H fp xe) tg g) (ht : ∀ s H fp xe, PTs (cxC X N' scope s H fp xe) ifs tt) (he : ∀ s H fp xe, PE (cxC X N' scope s H fp xe) elt te)
    (hsw : swapsWith (.ListComp elt [⟨tg, iter, ifs, 0⟩] scope pos) (some (.Name y py)) spos.line X.env = pure true := by rfl) :
    PS X (.Assign [.Name y py] (.ListComp elt [⟨tg, iter, ifs, 0⟩] scope pos) spos) (tAsg (tComp cap wi g tt te) (gName i)) := by
  intro pins s σ H D I h
  rw [exec_Assign_Name_used _ _ _ _ hsw]
  refine wpAny_bind (wpAny_standAt (wpAny_bind ?_))
  show wpAny _ X.A (do let _ ← comprehension (.ListComp elt [⟨tg, iter, ifs, 0⟩] scope pos) scope X.env _ (newList []) false (eval iter X.env) (some (assign (.Name y py) X.env))) _ _ s
  refine wpAny_bind (wpAny_mono (wpAny_comprehension_free (use := some (assign (.Name y py) X.env)) (Q := fun _ s' => SP X pins D .next s') rfl C.fold C.clos C.kind C.names (thn (hi pins s σ H _ I h) fun v s1 h1 => thn h1 fun itv s2 h2 => ?_))
    (fun _ s' hq => wpAny_pure (wpAny_pure hq)) fun _ _ e => e)
  obtain ⟨it, fp, tn, J, H2, e, I2, T, st2, f2, hw⟩ := h2
  subst e
  refine comp_core (Q := fun x H1 => gName i x σ H1 D.nx) (R := fun acc Cl => compPost (model X.prog X.w) X.A X.xe (some (assign (.Name y py) X.env)) (fun _ s' => SP X pins D .next s') acc Cl) hc C hg ht he I2 T st2 f2 ?_ hw
  intro Da Cl H' s' I' ⟨m, hn⟩ hf h1 h2 h3 h4 q
  show wpAny _ _ (assign (.Name y py) X.env (.ref Da)) _ _ s'
  refine wpAny_assign_Name (store_ok2 I' hN hi0 (.inl hy) (v := .ref Da) rfl (fun s'' I'' ⟨a, hsb, ha⟩ => ?_) (.inr hy))
  have hne : Cl ≠ a := by
    rcases ha with z | z
    · rw [z]; exact h1
    · exact Ne.symm (h3 y a z)
  exact ⟨m, hn.sameBut hsb hne, fun h' hs' => ⟨_, H', I''.turned (t' := s''.toks) (fun b o hb e => (hs'.2 b hb).trans e) hf h1 (.inr h2) h3 h4, q⟩⟩
end
end L2
namespace L2
open PySem PySem.Spec PyProof.Rows
section
variable {X : Cx} {a b c : Expr} {ta tb tc : TE} {pos : Pos}
def CMulB (i j : Int) : Prop := i.natAbs < 2 ^ 2000 ∧ j.natAbs < 2 ^ 2000
theorem CMulB.ok {i j : Int} (h : CMulB i j) : IntMulOk i j :=
  IntMulOk.of_bits (Nat.le_trans (intBits_le h.1) (by decide)) (Nat.le_trans (intBits_le h.2) (by decide))
def CDivB (_ j : Int) : Prop := 0 < j ∧ j.natAbs < 2 ^ 2000
theorem op_fdivB : OpR X (binaryOp .FloorDiv) (rI CDivB fun i j => .int (i / j)) := opI fun i j _ _ _ _ _ hc q => by
  have h1 : (0 : Int) < j := hc.1
  have h0 : j.natAbs ≠ 0 := by omega
  have h2 : j.natAbs.log2 < 2000 := (Nat.log2_lt h0).mpr hc.2
  exact floordiv_int (by omega) (by rw [Int.fdiv_eq_ediv_of_nonneg i (by omega)]; exact q) (.inl (PyProof.noPylong_of_log2 (by omega)))
theorem call_sumI (hc : X.calm = true) : CallR X (.builtin "sum") (fun xs H Q => ∃ (a : Addr) (ns : List Int), xs = [.ref a] ∧ SqL X.K H a (ns.map V.int) ∧ Q (.int ns.sum) H) := by
  intro pins s σ H xs us Q I r h
  obtain ⟨a, ns, rfl, hq, q⟩ := h
  obtain ⟨u, rfl, r1⟩ := vals1 r
  cases r1
  obtain ⟨its, rv, pl, hz⟩ := I.list hq
  have hi : IntsAre its ns := intsAre_of rv
  obtain ⟨xs, e⟩ := hi.allInts.items
  have hl := pl.isList
  rw [e] at hl
  refine sum_intListG (I.ok.hd hc) hl fun h' tk t' hk => ?_
  have e1 : its = (intItems xs).toList := by rw [← e]
  have e2 : xs.toList.map (·.1) = ns := by rw [← nums_intItems, ← e1, hi.numsOf]
  have es : preSum (numAt xs) xs.size = ns.sum := by rw [preSum_eq, List.take_of_length_le (by simp), e2]
  rw [es]
  exact ⟨.int ns.sum, H, I.kept hk, ⟨_, rfl⟩, q⟩
theorem bools_walk {pins : List (Addr × Obj)} {σ : St} {H : Hp} {s : Shared} {l : Addr} {bs : List Bool} (I : Inv X pins σ H s) (hq : SqL X.K H l (bs.map V.bl)) :
    ∃ its : List Value, its.length = bs.length ∧ s.heap.IsList l its.toArray ∧ l ≠ s.heap.objs.size ∧ ∀ (i : Nat) (v : Value), its.toArray[i]? = some v → v = .bool (bs.getD i false) := by
  obtain ⟨its, rv, pl, hz⟩ := I.list hq
  refine ⟨its, by rw [← rv.length, List.length_map], pl.isList, ?_, fun i v e => ?_⟩
  · obtain ⟨o, n, e, _⟩ := pl
    exact Nat.ne_of_lt (Heap.lt_size e)
  · have e' : its[i]? = some v := by simpa using e
    have hi : i < its.length := (List.getElem?_eq_some_iff.mp e').1
    have hb : i < bs.length := by have := rv.length; rw [List.length_map] at this; omega
    obtain ⟨u, hu, ru⟩ := rv.get (i := i) (x := .bl bs[i]) (by simp [hb])
    rw [e'] at hu
    cases hu
    have : v = Value.bool bs[i] := ru
    rw [this]
    simp [List.getD, hb]
theorem range_all (bs : List Bool) : (List.range bs.length).all (fun i => bs.getD i false) = bs.all id := by
  rw [Bool.eq_iff_iff]
  simp only [List.all_eq_true, List.mem_range, id]
  constructor
  · intro h x hx
    obtain ⟨i, hi, rfl⟩ := List.mem_iff_getElem.mp hx
    simpa [List.getD, hi] using h i hi
  · intro h i hi
    have := h bs[i] (List.getElem_mem hi)
    simpa [List.getD, hi] using this
theorem call_allB (hc : X.calm = true) : CallR X (.builtin "all") (fun xs H Q => ∃ (a : Addr) (bs : List Bool), xs = [.ref a] ∧ SqL X.K H a (bs.map V.bl) ∧ Q (.bl (bs.all id)) H) := by
  intro pins s σ H xs us Q I r h
  obtain ⟨a, bs, rfl, hq, q⟩ := h
  obtain ⟨u, rfl, r1⟩ := vals1 r
  cases r1
  obtain ⟨its, hlen, hl, hne, hit⟩ := bools_walk I hq
  refine call_all_walk (wpAny_pyIter_list hl ?_)
  refine ⟨s.heap.objs.size, _, _, _, _, _, fun i => bs.getD i false, rfl, Walks.list (A := X.A.in1) (I.ok.hd hc) s.heap.objs.size a hne its.toArray, ⟨⟨_, Heap.get?_push_size _ rfl, rfl, rfl⟩, hl.at fun o e => Heap.get?_push_of_some _ e⟩, fun i v s' Q' E' e hQ => ?_, fun h' tk hk => ?_⟩
  · rw [hit i v e]
    exact wpAny_truthy_bool hQ
  · have e : (List.range its.toArray.size).all (fun i => bs.getD i false) = bs.all id := by rw [List.size_toArray, hlen]; exact range_all bs
    rw [e]
    refine ⟨.bl (bs.all id), H, I.kept fun b o e => hk b o ?_ (Heap.get?_push_of_some _ e), rfl, q⟩
    intro z
    have z' : b = s.heap.objs.size := by simpa using z
    rw [z'] at e
    exact absurd (Heap.lt_size e) (Nat.lt_irrefl _)
end
section
variable {prog : Program} {w : World} {A : Around} {E : Value → Shared → Prop}
end
section
variable {X : Cx} {pos : Pos}
def gLst (K : PySem.W.Frag) (n : Nat) (t : TGs) : TG := fun v σ H Q => ∃ a xs, v = .ref a ∧ SqL K H a xs ∧ xs.length = n ∧ t xs σ H Q
end
end L2
namespace L2
open PySem PySem.Spec PyProof.Rows
section
variable {X : Cx} {a b c : Expr} {ta tb tc : TE} {pos : Pos}
def CMulU (i j : Int) : Prop := CMul i j ∨ CMulB i j
theorem op_mulU : OpR X (binaryOp .Mult) (rI CMulU fun i j => .int (i * j)) := opI fun _ _ _ _ _ _ _ hc q => mul_int q (hc.elim (fun h => h.ok) fun h => h.ok)
theorem CMulU.l {i j : Int} (h1 : -(2 ^ 64) < i) (h2 : i < 2 ^ 64) : CMulU i j := .inl (.inl ⟨h1, h2⟩)
theorem CMulU.r {i j : Int} (h1 : -(2 ^ 64) < j) (h2 : j < 2 ^ 64) : CMulU i j := .inl (.inr ⟨h1, h2⟩)
theorem CMulU.big {i j : Int} (h1 : i.natAbs < 2 ^ 2000) (h2 : j.natAbs < 2 ^ 2000) : CMulU i j := .inr ⟨h1, h2⟩
theorem call_isinstT : CallR X (.builtin "isinstance") (fun xs H Q => ∃ x n t k, xs = [x, .ty n] ∧ TyOf X.K H x t ∧ PySem.W.kitOne X.K t (.type n) = some k ∧ Q (.bl k) H) := by
  intro pins s σ H xs us Q I r h
  obtain ⟨x, n, t, k, rfl, ty, e, q⟩ := h
  obtain ⟨u, w', rfl, rx, rc⟩ := vals2 r
  cases rc
  exact isinst_ok I rx ty e fun tk => ⟨.bl k, H, I.tok _, rfl, q⟩
theorem call_isinstC : CallR X (.builtin "isinstance") (fun xs H Q => ∃ x C t k, xs = [x, .ref C] ∧ TyOf X.K H x t ∧ PySem.W.kitOne X.K t (.ref C) = some k ∧ Q (.bl k) H) := by
  intro pins s σ H xs us Q I r h
  obtain ⟨x, C, t, k, rfl, ty, e, q⟩ := h
  obtain ⟨u, w', rfl, rx, rc⟩ := vals2 r
  cases rc
  exact isinst_ok I rx ty e fun tk => ⟨.bl k, H, I.tok _, rfl, q⟩
theorem pe_ty {x : Str} (T : String) (hg : Gl X x) (hm : X.mg x = none) (hv : bootBuiltins x = some (.type T)) (hn : x ≠ "__name__" := by decide) (hd : (x == ("__debug__" : Str)) = false := by decide) : PE X (.Name x pos) (tC (.ty T)) := pe_bltn hg hm hv rfl hn hd
end
section
variable {D : Ends} {σ : St} {H : Hp} {t u : TS} {te ta tb tc : TE} {tt tu : TT} {Q : VK} {QB : Bool → Hp → Prop} {QA : List V → Hp → Prop} {QG : St → Hp → Prop} {v x y : V} {vs : List V} {i j : Nat} {g : TG} {gs : TGs} {A : TA} {K : PySem.W.Frag}
theorem ap_seq : tSeq t u D σ H = t { D with nx := u D } σ H := rfl
theorem ap_next : tNext D σ H = D.nx σ H := rfl
theorem ap_asg : tAsg te g D σ H = te σ H fun x H1 => g x σ H1 D.nx := rfl
theorem ap_name : gName i v σ H QG = QG (σ.set i (some v)) H := rfl
theorem ap_var : tVar i σ H Q = ∃ v, σ[i]? = some (some v) ∧ Q v H := rfl
theorem ap_c : tC v σ H Q = Q v H := rfl
theorem ap_op {r : R2} : tOp r ta tb σ H Q = ta σ H fun x H1 => tb σ H1 fun y H2 => r x y H2 Q := rfl
theorem ap_un {r : V → Hp → VK → Prop} : tUn r ta σ H Q = ta σ H fun x H1 => r x H1 Q := rfl
theorem ap_rI {C : Int → Int → Prop} {f : Int → Int → V} : rI C f x y H Q = ∃ i j, x = .int i ∧ y = .int j ∧ C i j ∧ Q (f i j) H := rfl
theorem ap_rI0 {f : Int → Int → V} : rI0 f x y H Q = ∃ i j, x = .int i ∧ y = .int j ∧ Q (f i j) H := rfl
theorem ap_rU {f : Int → V} : rU f x H Q = ∃ i, x = .int i ∧ Q (f i) H := rfl
theorem ap_rEq : rEq x y H Q = (scal x y = true ∧ Q (.bl (decide (x = y))) H) := rfl
theorem ap_rNe : rNe x y H Q = (scal x y = true ∧ Q (.bl (!decide (x = y))) H) := rfl
theorem ap_ret : tRet te D σ H = te σ H D.rt := rfl
theorem ap_retN : tRetN D σ H = D.rt .non H := rfl
theorem ap_drop : tDrop te D σ H = te σ H fun _ H1 => D.nx σ H1 := rfl
theorem ap_if : tIfS tt t u D σ H = tt σ H fun b H1 => if b = true then t D σ H1 else u D σ H1 := rfl
theorem ap_test : tTest te σ H QB = te σ H fun x H' => ∃ k, x = .bl k ∧ QB k H' := rfl
theorem ap_tB : tB te σ H QB = te σ H fun x H1 => ∃ c, x = .bl c ∧ QB c H1 := rfl
theorem ap_and : tAnd tt tu σ H QB = tt σ H fun c H1 => if c = true then tu σ H1 QB else QB false H1 := rfl
theorem ap_or : tOr tt tu σ H QB = tt σ H fun c H1 => if c = true then QB true H1 else tu σ H1 QB := rfl
theorem ap_not : tNot tt σ H QB = tt σ H fun c H1 => QB (!c) H1 := rfl
theorem ap_andV : tAndV ta tb σ H Q = ta σ H fun x H1 => ∃ c, x = .bl c ∧ if c = true then tb σ H1 Q else Q (.bl false) H1 := rfl
theorem ap_orV : tOrV ta tb σ H Q = ta σ H fun x H1 => ∃ c, x = .bl c ∧ if c = true then Q (.bl true) H1 else tb σ H1 Q := rfl
theorem ap_notV : tNotV ta σ H Q = ta σ H fun x H1 => ∃ c, x = .bl c ∧ Q (.bl (!c)) H1 := rfl
theorem ap_ifE : tIf tt ta tb σ H Q = tt σ H fun c H1 => if c = true then ta σ H1 Q else tb σ H1 Q := rfl
theorem ap_call {sp : Sp} {dvs : List V} {E : XK} : tCall sp dvs E A σ H Q = A σ H fun vs H1 => sp (vs ++ dvs) H1 Q E := rfl
theorem ap_nil : tNil σ H QA = QA [] H := rfl
theorem ap_cons : tCons ta A σ H QA = ta σ H fun x H1 => A σ H1 fun xs H2 => QA (x :: xs) H2 := rfl
theorem ap_cb {r : List V → Hp → VK → Prop} : tCB r A σ H Q = A σ H fun vs H1 => r vs H1 Q := rfl
theorem ap_lst : tLst A σ H Q = A σ H fun xs H1 => xs.length ≤ sizeLine ∧ ∀ p, H1 p = none → Q (.ref p) (upd H1 p (.lst xs)) := rfl
theorem ap_tup : tTup A σ H Q = A σ H fun xs H1 => xs.length ≤ sizeLine ∧ ∀ p, H1 p = none → Q (.ref p) (upd H1 p (.tup xs)) := rfl
theorem ap_chain {r r' : R2} : tChain r r' ta tb tc σ H Q = ta σ H fun x H1 => tb σ H1 fun y H2 => r x y H2 fun z H3 => ∃ k, z = .bl k ∧ (if k = true then tc σ H3 fun w' H4 => r' y w' H4 Q else Q (.bl false) H3) := rfl
theorem ap_sl {r : V → Option Int → Option Int → Hp → VK → Prop} {tl th : TO} : tSl r te tl th σ H Q = te σ H fun x H1 => tl σ H1 fun l H2 => th σ H2 fun u H3 => r x l u H3 Q := rfl
theorem ap_noPart {QO : Option Int → Hp → Prop} : tNoPart σ H QO = QO none H := rfl
theorem ap_part {QO : Option Int → Hp → Prop} : tPart te σ H QO = te σ H fun x H1 => ∃ i, x = .int i ∧ QO (some i) H1 := rfl
theorem ap_gNil : gNil vs σ H QG = (vs = [] ∧ QG σ H) := rfl
theorem ap_gCons {u : TGs} : gCons g u vs σ H QG = ∃ v r, vs = v :: r ∧ g v σ H fun σ' H' => u r σ' H' QG := rfl
theorem ap_gLst {n : Nat} : gLst K n gs v σ H QG = ∃ a xs, v = .ref a ∧ SqL K H a xs ∧ xs.length = n ∧ gs xs σ H QG := rfl
theorem ap_gTup {n : Nat} : gTup K n gs v σ H QG = ∃ a xs, v = .ref a ∧ SqT K H a xs ∧ xs.length = n ∧ gs xs σ H QG := rfl
theorem ap_bm {T : String} {r : V → List V → Hp → VK → Prop} : tBM K T r te A σ H Q = te σ H fun x H1 => tyV K T x H1 ∧ A σ H1 fun xs H2 => r x xs H2 Q := rfl
theorem ap_bm0 {T : String} {r : V → List V → Hp → VK → Prop} : tBM0 K T r te σ H Q = te σ H fun x H1 => tyV K T x H1 ∧ r x [] H1 Q := rfl
theorem ap_ixL {x y : V} : rIxL K x y H Q = ∃ p xs i v, x = .ref p ∧ y = .int i ∧ SqL K H p xs ∧ atI xs i = some v ∧ Q v H := rfl
theorem ap_slL {lo hi : Option Int} : rSlL K x lo hi H Q = ∃ a xs, x = .ref a ∧ SqL K H a xs ∧ ∀ p, H p = none → Q (.ref p) (upd H p (.lst (cutV xs lo hi))) := rfl
theorem scal_int (i j : Int) : scal (.int i) (.int j) = true := rfl
theorem scal_str (i j : Str) : scal (.str i) (.str j) = true := rfl
theorem scal_bl (i j : Bool) : scal (.bl i) (.bl j) = true := rfl
theorem start_eq (N : List Str) (vs : List V) : start N vs = vs.map some ++ List.replicate (N.length - vs.length) none := rfl
end
end L2
namespace L2
open PySem PySem.Spec PyProof.Rows
theorem filt_true {α : Type} (l : List α) : l.filter (fun _ => true) = l := by simp
theorem Same.upd {H H' : Hp} {a : Addr} {o : HO} (h : Same H H') (hn : H a = Option.none) : Same H (upd H' a o) := fun b u e => by
  rw [upd_ne (ne_of_none e hn)]
  exact h b u e
theorem Same.new {H : Hp} {a : Addr} {o : HO} (hn : H a = Option.none) : Same H (L2.upd H a o) := Same.upd (Same.refl H) hn
section
variable {K : PySem.W.Frag} {a D : Addr} {xs : List V} {g : TG} {tt : TT} {te : TE} {σ0 : St} {H1 : Hp} {Q : VK}
theorem comp_step {xs : List V} (J : It) (Sσ : St → Prop) (p : V → Bool) (F : V → V) (hD : H1 D = Option.none) (h0 : Sσ σ0) (hz : xs.length ≤ sizeLine)
    (hgo : ∀ (i : Nat) x H, xs[i]? = some x → Same H1 H → J.go i H ∧ ∀ y H', J.yld i H y H' → y = x ∧ H' = H) (hstop : ∀ H, Same H1 H → J.stop xs.length H)
    (hs : ∀ x ∈ xs, ∀ (σ : St) (H : Hp) (R1 : St → VK) (R2 : St → Hp → Prop), Sσ σ → Same H1 H → (p x = true → ∀ σ4 H6, Sσ σ4 → Same H H6 → R1 σ4 (F x) H6) → (p x = false → ∀ σ4 H6, Sσ σ4 → Same H H6 → R2 σ4 H6) →
      g x σ H fun σ4 H4 => tt σ4 H4 fun b H5 => if b = true then te σ4 H5 (R1 σ4) else R2 σ4 H5)
    (k : ∀ H', Same H1 H' → H' D = some (.lst ((xs.filter p).map F)) → Q (.ref D) H') :
    ∃ W : Nat → Nat → List V → St → Hp → Prop, (∃ m, W 0 m [] σ0 (upd H1 D (.lst []))) ∧ ∀ i m acc σ1 H2, W i m acc σ1 H2 → H2 D = some (.lst acc) →
      (J.stop i H2 ∧ Q (.ref D) H2) ∨ (J.go i H2 ∧ ∀ x H3, J.yld i H2 x H3 → g x σ1 H3 fun σ4 H4 => tt σ4 H4 fun b H5 =>
        if b = true then te σ4 H5 fun v H6 => ∃ acc', H6 D = some (.lst acc') ∧ acc'.length < sizeLine ∧ ∃ m', m' < m ∧ W (i + 1) m' (acc' ++ [v]) σ4 (upd H6 D (.lst (acc' ++ [v])))
        else ∃ m', m' < m ∧ ∃ acc', H5 D = some (.lst acc') ∧ W (i + 1) m' acc' σ4 H5) := by
  refine ⟨fun i m acc σ H => m = xs.length - i ∧ i ≤ xs.length ∧ Sσ σ ∧ Same H1 H ∧ acc = ((xs.take i).filter p).map F, ⟨xs.length, rfl, Nat.zero_le _, h0, Same.new hD, by simp⟩, ?_⟩
  rintro i m acc σ H ⟨rfl, hi, hσ, sm, rfl⟩ hA
  by_cases hlt : i < xs.length
  · have hx : xs[i]? = some xs[i] := by simp [hlt]
    obtain ⟨go, yl⟩ := hgo i xs[i] H hx sm
    refine .inr ⟨go, fun y H' hy => ?_⟩
    obtain ⟨rfl, rfl⟩ := yl y H' hy
    have htake : xs.take (i + 1) = xs.take i ++ [xs[i]] := by rw [List.take_add_one, hx]; rfl
    have hlen : (((xs.take i).filter p).map F).length ≤ i := by
      rw [List.length_map]
      exact Nat.le_trans (List.length_filter_le _ _) (by rw [List.length_take]; exact Nat.min_le_left _ _)
    refine hs xs[i] (List.getElem_mem hlt) σ H' _ _ hσ sm (fun hp σ4 H6 hσ4 s6 => ?_) (fun hp σ4 H6 hσ4 s6 => ?_)
    · refine ⟨_, s6 _ _ hA, by omega, xs.length - (i + 1), by omega, rfl, hlt, hσ4, (sm.trans s6).upd hD, ?_⟩
      rw [htake, List.filter_append, List.map_append]
      simp [hp]
    · refine ⟨xs.length - (i + 1), by omega, _, s6 _ _ hA, rfl, hlt, hσ4, sm.trans s6, ?_⟩
      rw [htake, List.filter_append, List.map_append]
      simp [hp]
  · have e : i = xs.length := by omega
    subst e
    refine .inl ⟨hstop H sm, k H sm ?_⟩
    rw [hA, List.take_length]
theorem comp_list (Sσ : St → Prop) (p : V → Bool) (F : V → V) (hS : SqL K H1 a xs) (hD : H1 D = Option.none) (h0 : Sσ σ0) (hz : xs.length ≤ sizeLine)
    (hs : ∀ x ∈ xs, ∀ (σ : St) (H : Hp) (R1 : St → VK) (R2 : St → Hp → Prop), Sσ σ → Same H1 H → (p x = true → ∀ σ4 H6, Sσ σ4 → Same H H6 → R1 σ4 (F x) H6) → (p x = false → ∀ σ4 H6, Sσ σ4 → Same H H6 → R2 σ4 H6) →
      g x σ H fun σ4 H4 => tt σ4 H4 fun b H5 => if b = true then te σ4 H5 (R1 σ4) else R2 σ4 H5)
    (k : ∀ H', Same H1 H' → H' D = some (.lst ((xs.filter p).map F)) → Q (.ref D) H') :
    ∃ W : Nat → Nat → List V → St → Hp → Prop, (∃ m, W 0 m [] σ0 (upd H1 D (.lst []))) ∧ ∀ i m acc σ1 H2, W i m acc σ1 H2 → H2 D = some (.lst acc) →
      ((Itl K a).stop i H2 ∧ Q (.ref D) H2) ∨ ((Itl K a).go i H2 ∧ ∀ x H3, (Itl K a).yld i H2 x H3 → g x σ1 H3 fun σ4 H4 => tt σ4 H4 fun b H5 =>
        if b = true then te σ4 H5 fun v H6 => ∃ acc', H6 D = some (.lst acc') ∧ acc'.length < sizeLine ∧ ∃ m', m' < m ∧ W (i + 1) m' (acc' ++ [v]) σ4 (upd H6 D (.lst (acc' ++ [v])))
        else ∃ m', m' < m ∧ ∃ acc', H5 D = some (.lst acc') ∧ W (i + 1) m' acc' σ4 H5) :=
  comp_step (Itl K a) Sσ p F hD h0 hz (fun i x H hx sm => ⟨⟨xs, x, sm.seq hS, hx⟩, fun y H' hy => ⟨Option.some.inj ((hy.2 xs (sm.seq hS)).symm.trans hx), hy.1⟩⟩) (fun H sm => ⟨xs, sm.seq hS, Nat.le_refl _⟩) hs k
theorem comp_range {lo : Int} {n : Nat} (Sσ : St → Prop) (p : V → Bool) (F : V → V) (hD : H1 D = Option.none) (h0 : Sσ σ0) (hz : n ≤ sizeLine)
    (hs : ∀ i : Nat, i < n → ∀ (σ : St) (H : Hp) (R1 : St → VK) (R2 : St → Hp → Prop), Sσ σ → Same H1 H → (p (.int (lo + i)) = true → ∀ σ4 H6, Sσ σ4 → Same H H6 → R1 σ4 (F (.int (lo + i))) H6) → (p (.int (lo + i)) = false → ∀ σ4 H6, Sσ σ4 → Same H H6 → R2 σ4 H6) →
      g (.int (lo + i)) σ H fun σ4 H4 => tt σ4 H4 fun b H5 => if b = true then te σ4 H5 (R1 σ4) else R2 σ4 H5)
    (k : ∀ H', Same H1 H' → H' D = some (.lst ((((List.range n).map fun (i : Nat) => V.int (lo + i)).filter p).map F)) → Q (.ref D) H') :
    ∃ W : Nat → Nat → List V → St → Hp → Prop, (∃ m, W 0 m [] σ0 (upd H1 D (.lst []))) ∧ ∀ i m acc σ1 H2, W i m acc σ1 H2 → H2 D = some (.lst acc) →
      ((Itr lo n).stop i H2 ∧ Q (.ref D) H2) ∨ ((Itr lo n).go i H2 ∧ ∀ x H3, (Itr lo n).yld i H2 x H3 → g x σ1 H3 fun σ4 H4 => tt σ4 H4 fun b H5 =>
        if b = true then te σ4 H5 fun v H6 => ∃ acc', H6 D = some (.lst acc') ∧ acc'.length < sizeLine ∧ ∃ m', m' < m ∧ W (i + 1) m' (acc' ++ [v]) σ4 (upd H6 D (.lst (acc' ++ [v])))
        else ∃ m', m' < m ∧ ∃ acc', H5 D = some (.lst acc') ∧ W (i + 1) m' acc' σ4 H5) := by
  refine comp_step (xs := (List.range n).map fun (i : Nat) => V.int (lo + i)) (Itr lo n) Sσ p F hD h0 (by simpa using hz) (fun i x H hx sm => ?_) (fun H sm => ?_) (fun x hx σ H R1 R2 h1 h2 h3 h4 => ?_) k
  · have hi : i < n := by simpa using (List.getElem?_eq_some_iff.mp hx).1
    have e : x = .int (lo + i) := by
      rw [List.getElem?_map, List.getElem?_range hi] at hx
      exact (Option.some.inj hx).symm
    exact ⟨hi, fun y H' hy => ⟨hy.2.trans e.symm, hy.1⟩⟩
  · show n ≤ _
    simp
  · obtain ⟨i, hi, rfl⟩ := List.mem_map.mp hx
    exact hs i (List.mem_range.mp hi) σ H R1 R2 h1 h2 h3 h4
end
end L2
namespace L2
open PySem PySem.Spec PyProof.Rows
inductive DV where
  | non | bl (b : Bool) | int (i : Int) | str (x : Str) | lst (xs : List DV) | tup (xs : List DV)
mutual
inductive RepD (K : PySem.W.Frag) (H : Hp) : V → DV → Prop
  | non : RepD K H .non .non
  | bl (b : Bool) : RepD K H (.bl b) (.bl b)
  | int (i : Int) : RepD K H (.int i) (.int i)
  | str (x : Str) : RepD K H (.str x) (.str x)
  | lst {a : Addr} {vs : List V} {ds : List DV} (h : SqL K H a vs) (hs : RepsD K H vs ds) : RepD K H (.ref a) (.lst ds)
  | tup {a : Addr} {vs : List V} {ds : List DV} (h : SqT K H a vs) (hs : RepsD K H vs ds) : RepD K H (.ref a) (.tup ds)
inductive RepsD (K : PySem.W.Frag) (H : Hp) : List V → List DV → Prop
  | nil : RepsD K H [] []
  | cons {v : V} {d : DV} {vs : List V} {ds : List DV} (h : RepD K H v d) (hs : RepsD K H vs ds) : RepsD K H (v :: vs) (d :: ds)
end
mutual
def deqD : DV → DV → Bool
  | .non, .non => true
  | .bl a, .bl b => a == b
  | .int a, .int b => a == b
  | .bl a, .int b => (if a then 1 else 0) == b
  | .int a, .bl b => a == (if b then 1 else 0)
  | .str a, .str b => a == b
  | .lst xs, .lst ys => deqDs xs ys
  | .tup xs, .tup ys => deqDs xs ys
  | _, _ => false
def deqDs : List DV → List DV → Bool
  | [], [] => true
  | x :: xs, y :: ys => deqD x y && deqDs xs ys
  | _, _ => false
end
mutual
def depD : DV → Nat
  | .lst xs => depDs xs + 1
  | .tup xs => depDs xs + 1
  | _ => 0
def depDs : List DV → Nat
  | [] => 0
  | x :: xs => max (depD x) (depDs xs)
end
theorem RepsD.length {K : PySem.W.Frag} {H : Hp} : ∀ {vs : List V} {ds : List DV}, RepsD K H vs ds → vs.length = ds.length
  | _, _, .nil => rfl
  | _, _, .cons _ hs => congrArg (· + 1) (RepsD.length hs)
theorem RepsD.get {K : PySem.W.Frag} {H : Hp} : ∀ {vs : List V} {ds : List DV} {j : Nat} {v : V} {d : DV}, RepsD K H vs ds → vs[j]? = some v → ds[j]? = some d → RepD K H v d
  | _, _, _, _, _, .nil, h, _ => by simp at h
  | _, _, 0, _, _, .cons h _, e1, e2 => by simp at e1 e2; subst e1 e2; exact h
  | _, _, j + 1, _, _, .cons _ hs, e1, e2 => RepsD.get (j := j) hs (by simpa using e1) (by simpa using e2)
theorem depDs_get : ∀ {ds : List DV} {j : Nat} {d : DV}, ds[j]? = some d → depD d ≤ depDs ds
  | [], _, _, h => by simp at h
  | x :: xs, 0, d, h => by simp at h; subst h; unfold depDs; exact Nat.le_max_left _ _
  | x :: xs, j + 1, d, h => by unfold depDs; exact Nat.le_trans (depDs_get (j := j) (by simpa using h)) (Nat.le_max_right _ _)
theorem deqDs_all : ∀ (xs ys : List DV), xs.length = ys.length → deqDs xs ys = (List.range xs.length).all fun j => deqD (xs.getD j .non) (ys.getD j .non)
  | [], [], _ => rfl
  | x :: xs, y :: ys, h => by
    unfold deqDs
    rw [deqDs_all xs ys (by simpa using h), List.length_cons, List.range_succ_eq_map, List.all_cons, List.all_map]
    rfl
  | [], _ :: _, h => by simp at h
  | _ :: _, [], h => by simp at h
theorem deqDs_len : ∀ (xs ys : List DV), xs.length ≠ ys.length → deqDs xs ys = false
  | [], [], h => absurd rfl h
  | x :: xs, y :: ys, h => by
    unfold deqDs
    rw [deqDs_len xs ys (by simpa using h), Bool.and_false]
  | [], _ :: _, _ => by unfold deqDs; rfl
  | _ :: _, [], _ => by unfold deqDs; rfl
theorem deqD_lst (xs ys : List DV) : deqD (.lst xs) (.lst ys) = deqDs xs ys := by unfold deqD; rfl
theorem deqD_tup (xs ys : List DV) : deqD (.tup xs) (.tup ys) = deqDs xs ys := by unfold deqD; rfl
mutual
theorem deqD_refl : ∀ d : DV, deqD d d = true
  | .non => by unfold deqD; rfl
  | .bl a => by unfold deqD; simp
  | .int a => by unfold deqD; simp
  | .str a => by unfold deqD; simp
  | .lst xs => by unfold deqD; exact deqDs_refl xs
  | .tup xs => by unfold deqD; exact deqDs_refl xs
theorem deqDs_refl : ∀ ds : List DV, deqDs ds ds = true
  | [] => by unfold deqDs; rfl
  | x :: xs => by unfold deqDs; rw [deqD_refl x, deqDs_refl xs]; rfl
end
section
variable {X : Cx} {pins : List (Addr × Obj)} {σ : St} {H : Hp} {s : Shared}
theorem Inv.noboth (I : Inv X pins σ H s) {a : Addr} {xs ys : List V} (h : SqL X.K H a xs) (h' : SqT X.K H a ys) : False := by
  obtain ⟨its, r, ⟨o, n, e, c, _⟩, _⟩ := I.list h
  obtain ⟨its', r', ⟨o', e', c', _⟩, _⟩ := I.tuple h'
  rw [e] at e'; cases e'
  rw [c] at c'
  exact absurd c' (by decide)
mutual
theorem RepD.inj (I : Inv X pins σ H s) : ∀ {v : V} {d d' : DV}, RepD X.K H v d → RepD X.K H v d' → d = d'
  | _, _, _, .non, .non => rfl
  | _, _, _, .bl _, .bl _ => rfl
  | _, _, _, .int _, .int _ => rfl
  | _, _, _, .str _, .str _ => rfl
  | _, _, _, .lst h hs, .lst h' hs' => by
    have e := I.list_inj h h'
    subst e
    rw [RepsD.inj I hs hs']
  | _, _, _, .tup h hs, .tup h' hs' => by
    have e := I.tuple_inj h h'
    subst e
    rw [RepsD.inj I hs hs']
  | _, _, _, .lst h _, .tup h' _ => (I.noboth h h').elim
  | _, _, _, .tup h _, .lst h' _ => (I.noboth h' h).elim
theorem RepsD.inj (I : Inv X pins σ H s) : ∀ {vs : List V} {ds ds' : List DV}, RepsD X.K H vs ds → RepsD X.K H vs ds' → ds = ds'
  | _, _, _, .nil, .nil => rfl
  | _, _, _, .cons h hs, .cons h' hs' => by rw [RepD.inj I h h', RepsD.inj I hs hs']
end
theorem in1_units (A : Around) : A.in1.units = A.units + 1 := rfl
theorem eqAt_flatL (I : Inv X pins σ H s) {A : Around} {d1 d2 : DV} {v1 v2 : V} {u1 u2 : Value} (hd : depD d1 ≤ 0) (hu' : A.units < cLine) (h1 : RepD X.K H v1 d1) (h2 : RepD X.K H v2 d2) (r1 : RelV v1 u1) (r2 : RelV v2 u2) : SeqAt.EqAt A s u1 u2 (deqD d1 d2) := by
  cases h1 with
  | lst h hs => unfold depD at hd; omega
  | tup h hs => unfold depD at hd; omega
  | non =>
    cases (show u1 = Value.none from r1)
    cases h2 with
    | non => cases (show u2 = Value.none from r2); unfold deqD; exact SeqAt.EqAt.same _
    | bl b => cases (show u2 = Value.bool b from r2); unfold deqD; exact SeqAt.EqAt.none_bool b
    | int i => obtain ⟨t, e⟩ := (show ∃ t, u2 = Value.int i t from r2); subst e; unfold deqD; exact SeqAt.EqAt.none_int i t
    | str x => obtain ⟨t, e⟩ := (show ∃ t, u2 = Value.str x t from r2); subst e; unfold deqD; exact SeqAt.EqAt.none_str x t
    | lst h hs => obtain ⟨its, _, p, _⟩ := I.list h; cases r2; unfold deqD; exact SeqAt.EqAt.none_list p.isList hu'
    | tup h hs => obtain ⟨its, _, p, _⟩ := I.tuple h; cases r2; unfold deqD; exact SeqAt.EqAt.none_tuple p hu'
  | bl a =>
    cases (show u1 = Value.bool a from r1)
    cases h2 with
    | non => cases (show u2 = Value.none from r2); unfold deqD; exact SeqAt.EqAt.bool_none a
    | bl b => cases (show u2 = Value.bool b from r2); unfold deqD; exact SeqAt.EqAt.bool_bool a b
    | int i => obtain ⟨t, e⟩ := (show ∃ t, u2 = Value.int i t from r2); subst e; unfold deqD; exact SeqAt.EqAt.bool_int a i t
    | str x => obtain ⟨t, e⟩ := (show ∃ t, u2 = Value.str x t from r2); subst e; unfold deqD; exact SeqAt.EqAt.bool_str a x t
    | lst h hs => obtain ⟨its, _, p, _⟩ := I.list h; cases r2; unfold deqD; exact SeqAt.EqAt.bool_list a p.isList hu'
    | tup h hs => obtain ⟨its, _, p, _⟩ := I.tuple h; cases r2; unfold deqD; exact SeqAt.EqAt.bool_tuple a p hu'
  | int a =>
    obtain ⟨t1, e1⟩ := (show ∃ t, u1 = Value.int a t from r1); subst e1
    cases h2 with
    | non => cases (show u2 = Value.none from r2); unfold deqD; exact SeqAt.EqAt.int_none a t1
    | bl b => cases (show u2 = Value.bool b from r2); unfold deqD; exact SeqAt.EqAt.int_bool a t1 b
    | int i => obtain ⟨t, e⟩ := (show ∃ t, u2 = Value.int i t from r2); subst e; unfold deqD; exact SeqAt.EqAt.int_int a t1 i t
    | str x => obtain ⟨t, e⟩ := (show ∃ t, u2 = Value.str x t from r2); subst e; unfold deqD; exact SeqAt.EqAt.int_str a t1 x t
    | lst h hs => obtain ⟨its, _, p, _⟩ := I.list h; cases r2; unfold deqD; exact SeqAt.EqAt.int_list a t1 p.isList hu'
    | tup h hs => obtain ⟨its, _, p, _⟩ := I.tuple h; cases r2; unfold deqD; exact SeqAt.EqAt.int_tuple a t1 p hu'
  | str a =>
    obtain ⟨t1, e1⟩ := (show ∃ t, u1 = Value.str a t from r1); subst e1
    cases h2 with
    | non => cases (show u2 = Value.none from r2); unfold deqD; exact SeqAt.EqAt.str_none a t1
    | bl b => cases (show u2 = Value.bool b from r2); unfold deqD; exact SeqAt.EqAt.str_bool a t1 b
    | int i => obtain ⟨t, e⟩ := (show ∃ t, u2 = Value.int i t from r2); subst e; unfold deqD; exact SeqAt.EqAt.str_int a t1 i t
    | str x => obtain ⟨t, e⟩ := (show ∃ t, u2 = Value.str x t from r2); subst e; unfold deqD; exact SeqAt.EqAt.str_str a t1 x t
    | lst h hs => obtain ⟨its, _, p, _⟩ := I.list h; cases r2; unfold deqD; exact SeqAt.EqAt.str_list a t1 p.isList hu'
    | tup h hs => obtain ⟨its, _, p, _⟩ := I.tuple h; cases r2; unfold deqD; exact SeqAt.EqAt.str_tuple a t1 p hu'
theorem eqAt_items {A : Around} {vs1 vs2 : List V} {ds1 ds2 : List DV} {its1 its2 : List Value} (r1 : Vals vs1 its1) (r2 : Vals vs2 its2) (h1 : RepsD X.K H vs1 ds1) (h2 : RepsD X.K H vs2 ds2)
    (ih : ∀ (d1 d2 : DV) (v1 v2 : V) (u1 u2 : Value), depD d1 ≤ depDs ds1 → RepD X.K H v1 d1 → RepD X.K H v2 d2 → RelV v1 u1 → RelV v2 u2 → SeqAt.EqAt A s u1 u2 (deqD d1 d2)) :
    ∀ (j : Nat) (a : j < its1.toArray.size) (b : j < its2.toArray.size), SeqAt.EqAt A s its1.toArray[j] its2.toArray[j] (deqD (ds1.getD j .non) (ds2.getD j .non)) := by
  intro j a b
  have l1 := r1.length
  have l2 := r2.length
  have m1 := h1.length
  have m2 := h2.length
  simp only [List.size_toArray] at a b
  have a1 : j < vs1.length := by omega
  have a2 : j < vs2.length := by omega
  have b1 : j < ds1.length := by omega
  have b2 : j < ds2.length := by omega
  obtain ⟨w1, e1, q1⟩ := r1.get (i := j) (x := vs1[j]) (by simp [a1])
  obtain ⟨w2, e2, q2⟩ := r2.get (i := j) (x := vs2[j]) (by simp [a2])
  have z1 : its1.toArray[j] = w1 := by simpa [a] using e1
  have z2 : its2.toArray[j] = w2 := by simpa [b] using e2
  have y1 : ds1.getD j .non = ds1[j] := by simp [List.getD, b1]
  have y2 : ds2.getD j .non = ds2[j] := by simp [List.getD, b2]
  rw [z1, z2, y1, y2]
  exact ih _ _ _ _ _ _ (depDs_get (j := j) (by simp [b1])) (h1.get (j := j) (by simp [a1]) (by simp [b1])) (h2.get (j := j) (by simp [a2]) (by simp [b2])) q1 q2
theorem eqAt_D (I : Inv X pins σ H s) : ∀ (n : Nat) (A : Around) (d1 d2 : DV) (v1 v2 : V) (u1 u2 : Value), depD d1 ≤ n → A.units + n < cLine → RepD X.K H v1 d1 → RepD X.K H v2 d2 → RelV v1 u1 → RelV v2 u2 → SeqAt.EqAt A s u1 u2 (deqD d1 d2) := by
  intro n
  induction n with
  | zero => exact fun A d1 d2 v1 v2 u1 u2 hd hu h1 h2 r1 r2 => eqAt_flatL I hd (by omega) h1 h2 r1 r2
  | succ n ih =>
    intro A d1 d2 v1 v2 u1 u2 hd hu h1 h2 r1 r2
    have hu' : A.units < cLine := by omega
    have hin : A.in1.units + n < cLine := by rw [in1_units]; omega
    cases h1 with
    | non => exact eqAt_flatL I (by unfold depD; omega) hu' .non h2 r1 r2
    | bl a => exact eqAt_flatL I (by unfold depD; omega) hu' (.bl a) h2 r1 r2
    | int a => exact eqAt_flatL I (by unfold depD; omega) hu' (.int a) h2 r1 r2
    | str a => exact eqAt_flatL I (by unfold depD; omega) hu' (.str a) h2 r1 r2
    | @lst a vs ds h hs =>
      obtain ⟨its, rv, p, _⟩ := I.list h
      cases (show u1 = Value.ref a from r1)
      have hd' : depDs ds ≤ n := by unfold depD at hd; omega
      cases h2 with
      | non => cases (show u2 = Value.none from r2); unfold deqD; exact SeqAt.EqAt.list_none p.isList hu'
      | bl b => cases (show u2 = Value.bool b from r2); unfold deqD; exact SeqAt.EqAt.list_bool b p.isList hu'
      | int i => obtain ⟨t, e⟩ := (show ∃ t, u2 = Value.int i t from r2); subst e; unfold deqD; exact SeqAt.EqAt.list_int i t p.isList hu'
      | str x => obtain ⟨t, e⟩ := (show ∃ t, u2 = Value.str x t from r2); subst e; unfold deqD; exact SeqAt.EqAt.list_str x t p.isList hu'
      | @lst a2 vs2 ds2 h' hs' =>
        obtain ⟨its2, rv2, p2, _⟩ := I.list h'
        cases (show u2 = Value.ref a2 from r2)
        unfold deqD
        by_cases hne : a = a2
        · subst hne
          have e := I.list_inj h h'
          subst e
          rw [RepsD.inj I hs hs', deqDs_refl]
          exact SeqAt.EqAt.same _
        · have l1 := rv.length
          have l2 := rv2.length
          have m1 := hs.length
          have m2 := hs'.length
          by_cases hz : ds.length = ds2.length
          · rw [deqDs_all _ _ hz]
            have := SeqAt.EqAt.of_refs hne (SeqAt.RcAt.lists (A := A) (e := fun j => deqD (ds.getD j .non) (ds2.getD j .non)) p.isList p2.isList (by simp only [List.size_toArray]; omega) hu'
              (eqAt_items rv rv2 hs hs' fun d1 d2 v1 v2 u1 u2 hdd g1 g2 q1 q2 => ih A.in1 d1 d2 v1 v2 u1 u2 (by omega) hin g1 g2 q1 q2))
            rw [List.size_toArray, show its.length = ds.length by omega] at this
            exact this
          · rw [deqDs_len _ _ hz]
            exact SeqAt.EqAt.of_refs hne (SeqAt.RcAt.lists_lengths p.isList p2.isList (by simp only [List.size_toArray, bne_iff_ne]; omega) hu')
      | @tup a2 vs2 ds2 h' hs' =>
        obtain ⟨its2, rv2, p2, _⟩ := I.tuple h'
        cases (show u2 = Value.ref a2 from r2)
        unfold deqD
        exact SeqAt.EqAt.list_tuple p.isList p2 hu'
    | @tup a vs ds h hs =>
      obtain ⟨its, rv, p, _⟩ := I.tuple h
      cases (show u1 = Value.ref a from r1)
      have hd' : depDs ds ≤ n := by unfold depD at hd; omega
      cases h2 with
      | non => cases (show u2 = Value.none from r2); unfold deqD; exact SeqAt.EqAt.tuple_none p hu'
      | bl b => cases (show u2 = Value.bool b from r2); unfold deqD; exact SeqAt.EqAt.tuple_bool b p hu'
      | int i => obtain ⟨t, e⟩ := (show ∃ t, u2 = Value.int i t from r2); subst e; unfold deqD; exact SeqAt.EqAt.tuple_int i t p hu'
      | str x => obtain ⟨t, e⟩ := (show ∃ t, u2 = Value.str x t from r2); subst e; unfold deqD; exact SeqAt.EqAt.tuple_str x t p hu'
      | @lst a2 vs2 ds2 h' hs' =>
        obtain ⟨its2, rv2, p2, _⟩ := I.list h'
        cases (show u2 = Value.ref a2 from r2)
        unfold deqD
        exact SeqAt.EqAt.tuple_list p p2.isList hu'
      | @tup a2 vs2 ds2 h' hs' =>
        obtain ⟨its2, rv2, p2, _⟩ := I.tuple h'
        cases (show u2 = Value.ref a2 from r2)
        unfold deqD
        by_cases hne : a = a2
        · subst hne
          have e := I.tuple_inj h h'
          subst e
          rw [RepsD.inj I hs hs', deqDs_refl]
          exact SeqAt.EqAt.same _
        · have l1 := rv.length
          have l2 := rv2.length
          have m1 := hs.length
          have m2 := hs'.length
          have := SeqAt.EqAt.of_refs hne (SeqAt.RcAt.tuples (A := A) (e := fun j => deqD (ds.getD j .non) (ds2.getD j .non)) p p2 hu'
              (eqAt_items rv rv2 hs hs' fun d1 d2 v1 v2 u1 u2 hdd g1 g2 q1 q2 => ih A.in1 d1 d2 v1 v2 u1 u2 (by omega) hin g1 g2 q1 q2))
          simp only [List.size_toArray] at this
          by_cases hz : ds.length = ds2.length
          · rw [deqDs_all _ _ hz]
            rw [show its.length = ds.length by omega, show its2.length = ds.length by omega, Nat.min_self, beq_self_eq_true, Bool.and_true] at this
            exact this
          · rw [deqDs_len _ _ hz]
            rw [show (its.length == its2.length) = false from beq_eq_false_iff_ne.mpr (by omega), Bool.and_false] at this
            exact this
def rEqD (K : PySem.W.Frag) : R2 := fun x y H Q => ∃ d1 d2, RepD K H x d1 ∧ RepD K H y d2 ∧ 1 ≤ depD d1 ∧ depD d1 ≤ 20 ∧ Q (.bl (deqD d1 d2)) H
def rNeD (K : PySem.W.Frag) : R2 := fun x y H Q => ∃ d1 d2, RepD K H x d1 ∧ RepD K H y d2 ∧ 1 ≤ depD d1 ∧ depD d1 ≤ 20 ∧ Q (.bl (!deqD d1 d2)) H
theorem op_neD {k : Nat} (hr : Room k X.A) : OpR X (compareOp .NotEq) (rNeD X.K) := by
  intro pins s σ H x y v u Q I rx ry h
  obtain ⟨d1, d2, h1, h2, hd1, hd, q⟩ := h
  have hr' := hr.units
  have hu' : X.A.units < cLine := by omega
  have hin : X.A.in1.units + 20 < cLine := by rw [in1_units]; omega
  have fin : ∀ b, SeqAt.RcNeAt X.A s v u b → b = (!deqD d1 d2) → wpAny (model X.prog X.w) X.A (compareOp .NotEq v u) (EP X pins σ Q) X.xe s := fun b hb e => by
    subst e
    exact hb X.prog X.w X.xe _ ⟨.bl _, H, I, rfl, q⟩
  cases h1 with
  | non => unfold depD at hd1; omega
  | bl a => unfold depD at hd1; omega
  | int a => unfold depD at hd1; omega
  | str a => unfold depD at hd1; omega
  | @lst a vs ds h hs =>
    obtain ⟨its, rv, p, _⟩ := I.list h
    cases (show v = Value.ref a from rx)
    have hd' : depDs ds ≤ 20 := by unfold depD at hd; omega
    cases h2 with
    | non => cases (show u = Value.none from ry); exact fin _ (SeqAt.RcNeAt.list_none p.isList hu') (by unfold deqD; rfl)
    | bl b => cases (show u = Value.bool b from ry); exact fin _ (SeqAt.RcNeAt.list_bool b p.isList hu') (by unfold deqD; rfl)
    | int i => obtain ⟨t, e⟩ := (show ∃ t, u = Value.int i t from ry); subst e; exact fin _ (SeqAt.RcNeAt.list_int i t p.isList hu') (by unfold deqD; rfl)
    | str z => obtain ⟨t, e⟩ := (show ∃ t, u = Value.str z t from ry); subst e; exact fin _ (SeqAt.RcNeAt.list_str z t p.isList hu') (by unfold deqD; rfl)
    | @tup a2 vs2 ds2 h' hs' =>
      obtain ⟨its2, rv2, p2, _⟩ := I.tuple h'
      cases (show u = Value.ref a2 from ry)
      exact fin _ (SeqAt.RcNeAt.list_tuple p.isList p2 hu') (by unfold deqD; rfl)
    | @lst a2 vs2 ds2 h' hs' =>
      obtain ⟨its2, rv2, p2, _⟩ := I.list h'
      cases (show u = Value.ref a2 from ry)
      have l1 := rv.length
      have l2 := rv2.length
      have m1 := hs.length
      have m2 := hs'.length
      by_cases hz : ds.length = ds2.length
      · refine fin _ (SeqAt.RcNeAt.lists (A := X.A) (e := fun j => deqD (ds.getD j .non) (ds2.getD j .non)) p.isList p2.isList (by simp only [List.size_toArray]; omega) hu'
          (eqAt_items rv rv2 hs hs' fun d1 d2 v1 v2 u1 u2 hdd g1 g2 q1 q2 => eqAt_D I 20 X.A.in1 d1 d2 v1 v2 u1 u2 (by omega) hin g1 g2 q1 q2)) ?_
        rw [deqD_lst, deqDs_all _ _ hz, List.size_toArray, show its.length = ds.length by omega]
      · refine fin _ (SeqAt.RcNeAt.lists_lengths p.isList p2.isList (by simp only [List.size_toArray, bne_iff_ne]; omega) hu') ?_
        unfold deqD
        rw [deqDs_len _ _ hz]
        all_goals rfl
  | @tup a vs ds h hs =>
    obtain ⟨its, rv, p, _⟩ := I.tuple h
    cases (show v = Value.ref a from rx)
    have hd' : depDs ds ≤ 20 := by unfold depD at hd; omega
    cases h2 with
    | non => cases (show u = Value.none from ry); exact fin _ (SeqAt.RcNeAt.tuple_none p hu') (by unfold deqD; rfl)
    | bl b => cases (show u = Value.bool b from ry); exact fin _ (SeqAt.RcNeAt.tuple_bool b p hu') (by unfold deqD; rfl)
    | int i => obtain ⟨t, e⟩ := (show ∃ t, u = Value.int i t from ry); subst e; exact fin _ (SeqAt.RcNeAt.tuple_int i t p hu') (by unfold deqD; rfl)
    | str z => obtain ⟨t, e⟩ := (show ∃ t, u = Value.str z t from ry); subst e; exact fin _ (SeqAt.RcNeAt.tuple_str z t p hu') (by unfold deqD; rfl)
    | @lst a2 vs2 ds2 h' hs' =>
      obtain ⟨its2, rv2, p2, _⟩ := I.list h'
      cases (show u = Value.ref a2 from ry)
      exact fin _ (SeqAt.RcNeAt.tuple_list p p2.isList hu') (by unfold deqD; rfl)
    | @tup a2 vs2 ds2 h' hs' =>
      obtain ⟨its2, rv2, p2, _⟩ := I.tuple h'
      cases (show u = Value.ref a2 from ry)
      have l1 := rv.length
      have l2 := rv2.length
      have m1 := hs.length
      have m2 := hs'.length
      refine fin _ (SeqAt.RcNeAt.tuples (A := X.A) (e := fun j => deqD (ds.getD j .non) (ds2.getD j .non)) p p2 hu'
          (eqAt_items rv rv2 hs hs' fun d1 d2 v1 v2 u1 u2 hdd g1 g2 q1 q2 => eqAt_D I 20 X.A.in1 d1 d2 v1 v2 u1 u2 (by omega) hin g1 g2 q1 q2)) ?_
      rw [deqD_tup]
      simp only [List.size_toArray]
      by_cases hz : ds.length = ds2.length
      · rw [deqDs_all _ _ hz, show its.length = ds.length by omega, show its2.length = ds.length by omega, Nat.min_self, beq_self_eq_true, Bool.and_true]
      · rw [deqDs_len _ _ hz, show (its.length == its2.length) = false from beq_eq_false_iff_ne.mpr (by omega), Bool.and_false]
theorem repsD_ints (K : PySem.W.Frag) (H : Hp) : ∀ ns : List Int, RepsD K H (ns.map V.int) (ns.map DV.int)
  | [] => .nil
  | n :: r => .cons (.int n) (repsD_ints K H r)
theorem deqDs_ints : ∀ xs ys : List Int, deqDs (xs.map DV.int) (ys.map DV.int) = decide (xs = ys)
  | [], [] => by simp [deqDs]
  | [], _ :: _ => by simp [deqDs]
  | _ :: _, [] => by simp [deqDs]
  | x :: xs, y :: ys => by
    simp only [List.map_cons, deqDs, deqD, deqDs_ints xs ys]
    by_cases h : x = y <;> by_cases h2 : xs = ys <;> simp [h, h2]
theorem depDs_ints : ∀ xs : List Int, depDs (xs.map DV.int) = 0
  | [] => by simp [depDs]
  | x :: xs => by simp [depDs, depD, depDs_ints xs]
end
end L2
namespace L2
open PySem PySem.Spec PyProof.Rows
section
variable {X : Cx} {K : PySem.W.Frag} {a b o e : Expr} {ta tb to te : TE} {pos : Pos} {tg : Expr}
theorem ix_listK (hK : X.K = K := by rfl) : IxR X (rIxL K) := hK ▸ ix_list
theorem ix_tupK (hK : X.K = K := by rfl) : IxR X (rIxT K) := hK ▸ ix_tup
theorem sl_listK (hK : X.K = K := by rfl) : SlR X (rSlL K) := hK ▸ sl_list
theorem op_inK (hK : X.K = K := by rfl) : OpR X (compareOp .In) (rIn K false) := hK ▸ op_in_seq
theorem op_neDK {k : Nat} (hr : Room k X.A) (hK : X.K = K := by rfl) : OpR X (compareOp .NotEq) (rNeD K) := hK ▸ op_neD hr
def rLen (K : PySem.W.Frag) : List V → Hp → VK → Prop := fun xs H Q => ∃ p ys, xs = [.ref p] ∧ (SqL K H p ys ∨ SqT K H p ys) ∧ Q (.int ys.length) H
theorem call_lenK (hK : X.K = K := by rfl) : CallR X (.builtin "len") (rLen K) := hK ▸ call_len_seq
def rSum (K : PySem.W.Frag) : List V → Hp → VK → Prop := fun xs H Q => ∃ (a : Addr) (ns : List Int), xs = [.ref a] ∧ SqL K H a (ns.map V.int) ∧ Q (.int ns.sum) H
theorem call_sumK (hc : X.calm = true) (hK : X.K = K := by rfl) : CallR X (.builtin "sum") (rSum K) := hK ▸ call_sumI hc
def rAny (K : PySem.W.Frag) : List V → Hp → VK → Prop := fun xs H Q => ∃ (a : Addr) (bs : List Bool), xs = [.ref a] ∧ SqL K H a (bs.map V.bl) ∧ Q (.bl (bs.any id)) H
def rAll (K : PySem.W.Frag) : List V → Hp → VK → Prop := fun xs H Q => ∃ (a : Addr) (bs : List Bool), xs = [.ref a] ∧ SqL K H a (bs.map V.bl) ∧ Q (.bl (bs.all id)) H
theorem call_allK (hc : X.calm = true) (hK : X.K = K := by rfl) : CallR X (.builtin "all") (rAll K) := hK ▸ call_allB hc
def rListOf (K : PySem.W.Frag) : List V → Hp → VK → Prop := fun xs H Q => ∃ p ys, xs = [.ref p] ∧ (SqL K H p ys ∨ SqT K H p ys) ∧ ∀ l, H l = none → Q (.ref l) (upd H l (.lst ys))
theorem call_listK (hK : X.K = K := by rfl) : CallR X (.type "list") (rListOf K) := hK ▸ call_list_of
def rTupOf (K : PySem.W.Frag) : List V → Hp → VK → Prop := fun xs H Q => ∃ p ys, xs = [.ref p] ∧ ((SqL K H p ys ∧ ∀ l, H l = none → Q (.ref l) (upd H l (.tup ys))) ∨ (SqT K H p ys ∧ Q (.ref p) H))
def rIsT (K : PySem.W.Frag) : List V → Hp → VK → Prop := fun xs H Q => ∃ x n t k, xs = [x, .ty n] ∧ TyOf K H x t ∧ PySem.W.kitOne K t (.type n) = some k ∧ Q (.bl k) H
theorem call_isTK (hK : X.K = K := by rfl) : CallR X (.builtin "isinstance") (rIsT K) := hK ▸ call_isinstT
def rIsC (K : PySem.W.Frag) : List V → Hp → VK → Prop := fun xs H Q => ∃ x C t k, xs = [x, .ref C] ∧ TyOf K H x t ∧ PySem.W.kitOne K t (.ref C) = some k ∧ Q (.bl k) H
theorem call_isCK (hK : X.K = K := by rfl) : CallR X (.builtin "isinstance") (rIsC K) := hK ▸ call_isinstC
def rMax : List V → Hp → VK → Prop := fun xs H Q => ∃ i j, xs = [.int i, .int j] ∧ Q (.int (if j > i then j else i)) H
theorem call_maxK (hc : X.calm = true) : CallR X (.builtin "max") rMax := call_max2 hc
def rMin : List V → Hp → VK → Prop := fun xs H Q => ∃ i j, xs = [.int i, .int j] ∧ Q (.int (if j < i then j else i)) H
theorem call_minK (hc : X.calm = true) : CallR X (.builtin "min") rMin := call_min2 hc
theorem pi_listK (hl : PE X o to) (hK : X.K = K := by rfl) : PI X tg o (iList K to) := hK ▸ pi_list hl
theorem pi_tupK (hl : PE X o to) (hK : X.K = K := by rfl) : PI X tg o (iTup K to) := hK ▸ pi_tup hl
theorem pg_tupK {es : List Expr} {k : Nat} {t : TGs} {n : Nat} (hc : X.calm = true) (h : PGs X es t) (hn : (assignEach es X.env).length = n := by rfl) (hst : (assignEach es X.env).findIdx? (·.1) = none := by rfl) (hK : X.K = K := by rfl) : PG X (.Tuple es k pos) (gTup K n t) := hK ▸ pg_tup hc h hn hst
theorem pe_fldK {f : Str} (he : PE X e ta) (hb : attributeBase e f X.env (eval e X.env) = eval e X.env) (hK : X.K = K := by rfl) : PE X (.Attribute e f pos) (tFld K ta f) := hK ▸ pe_fld he hb
theorem PE.imp {t t' : TE} (h : PE X e t) (hi : ∀ σ H Q, t' σ H Q → t σ H Q) : PE X e t' := fun pins s σ H Q I hw => h pins s σ H Q I (hi σ H Q hw)
theorem pe_bmK {T : String} {name : Str} {id : String} {r : V → List V → Hp → VK → Prop} {es : List Expr} {t : TA} {apos cpos : Pos} (pa : PlainAttrs T) (slot : Slot T name id) (hty : typeOf (.builtin id) = pure (.type "method_descriptor")) (hm : MtR X id r) (ho : PE X o to) (ha : PA X (e :: es) t)
    (hbase : attributeBase o name X.env (eval o X.env) = eval o X.env := by rfl)
    (hfew : ((backTo cpos (starEach (e :: es) X.env)).all (fun x => !x.1) && (backToKw cpos (keywordEach [] X.env)).all (fun x => x.1.isSome)
      && decide ((e :: es).length + ([] : List Keyword).length + (if ([] : List Keyword).isEmpty then 0 else 1) < 30)) = true := by rfl)
    (hline : (apos.endLine == cpos.line) = true := by rfl) (hs : starEach (e :: es) X.env = (false, eval e X.env) :: starEach es X.env := by rfl) (hplain : (backTo cpos (starEach es X.env)).any (·.1) = false := by rfl) (hK : X.K = K := by rfl) :
    PE X (.Call (.Attribute o name apos) (e :: es) [] cpos) (tBM K T r to t) := hK ▸ pe_bm pa slot hty hm ho ha hbase hfew hline hs hplain
theorem pe_bm0K {T : String} {name : Str} {id : String} {r : V → List V → Hp → VK → Prop} {apos cpos : Pos} (pa : PlainAttrs T) (slot : Slot T name id) (hty : typeOf (.builtin id) = pure (.type "method_descriptor")) (hm : MtR X id r) (ho : PE X o to)
    (hbase : attributeBase o name X.env (eval o X.env) = eval o X.env := by rfl) (hline : (apos.endLine == cpos.line) = true := by rfl) (hK : X.K = K := by rfl) : PE X (.Call (.Attribute o name apos) [] [] cpos) (tBM0 K T r to) := hK ▸ pe_bm0 pa slot hty hm ho hbase hline
end
section
variable {K : PySem.W.Frag} {H : Hp} {Q : VK} {p : Addr} {x y : V}
theorem ap_noIf {σ : St} {QB : Bool → Hp → Prop} : tNoIf σ H QB = QB true H := rfl
theorem ap_rLen : rLen K [.ref p] H Q = ∃ ys, (SqL K H p ys ∨ SqT K H p ys) ∧ Q (.int (ys.length : Int)) H := by simp [rLen]
theorem ap_rSum : rSum K [.ref p] H Q = ∃ ns : List Int, SqL K H p (ns.map V.int) ∧ Q (.int ns.sum) H := by simp [rSum]
theorem ap_rAny : rAny K [.ref p] H Q = ∃ bs : List Bool, SqL K H p (bs.map V.bl) ∧ Q (.bl (bs.any id)) H := by simp [rAny]
theorem ap_rAll : rAll K [.ref p] H Q = ∃ bs : List Bool, SqL K H p (bs.map V.bl) ∧ Q (.bl (bs.all id)) H := by simp [rAll]
theorem ap_rListOf : rListOf K [.ref p] H Q = ∃ ys, (SqL K H p ys ∨ SqT K H p ys) ∧ ∀ l, H l = none → Q (.ref l) (upd H l (.lst ys)) := by simp [rListOf]
theorem ap_rIsT {n : String} : rIsT K [x, .ty n] H Q = ∃ t k, TyOf K H x t ∧ PySem.W.kitOne K t (.type n) = some k ∧ Q (.bl k) H := propext ⟨fun ⟨x', n', t, k, e, h⟩ => by
    injection e with e1 e2
    injection e2 with e2 _
    injection e2 with e2
    subst e1 e2
    exact ⟨t, k, h⟩, fun ⟨t, k, h⟩ => ⟨x, n, t, k, rfl, h⟩⟩
theorem ap_append : rAppend (.ref p) [y] H Q = ∃ xs, H p = some (.lst xs) ∧ xs.length < sizeLine ∧ Q .non (upd H p (.lst (xs ++ [y]))) := by simp [rAppend]
theorem ap_rCat {l b : Addr} : rCat (.ref l) (.ref b) H Q = ∃ xs zs, H l = some (.lst xs) ∧ H b = some (.lst zs) ∧ xs.length + zs.length ≤ sizeLine ∧ ∀ p, H p = none → Q (.ref p) (upd H p (.lst (xs ++ zs))) := by simp [rCat]
theorem ap_rMax {i j : Int} : rMax [.int i, .int j] H Q = Q (.int (if j > i then j else i)) H := propext ⟨fun ⟨i', j', e, h⟩ => by cases e; exact h, fun h => ⟨i, j, rfl, h⟩⟩
theorem ap_rMin {i j : Int} : rMin [.int i, .int j] H Q = Q (.int (if j < i then j else i)) H := propext ⟨fun ⟨i', j', e, h⟩ => by cases e; exact h, fun h => ⟨i, j, rfl, h⟩⟩
end
end L2
namespace L2
open PySem PySem.Spec PyProof.Rows
section
variable {K : PySem.W.Frag} {a : Addr} {xs : List V} {g : TG} {tb : TS} {D : Ends} {σ : St} {H : Hp} {wi : TI} {cap : List (Option Nat)} {tt : TT} {te tl : TE} {Q : VK} {ta : TA} {R : It → Hp → Prop}
def ForP (J : It) (g : TG) (tb : TS) (D : Ends) (σ : St) (H1 : Hp) : Prop := ∃ W : Nat → Nat → St → Hp → Prop, (∃ m, W 0 m σ H1) ∧ ∀ i m σ H, W i m σ H →
  (J.stop i H ∧ D.nx σ H) ∨ (J.go i H ∧ ∃ N : St → Hp → Prop, (∀ σ' H', N σ' H' → ∃ m', m' < m ∧ W (i + 1) m' σ' H') ∧ ∀ x H', J.yld i H x H' → g x σ H' fun σ2 H2 => tb { D with nx := N, ct := N, bk := D.nx } σ2 H2)
theorem ap_for : tFor wi g tb D σ H = wi σ H fun J H1 => ForP J g tb D σ H1 := rfl
theorem ForP.list (Pv : Nat → St → Hp → Prop) (h0 : Pv 0 σ H) (hl : ∀ i σ H, i ≤ xs.length → Pv i σ H → SqL K H a xs)
    (hs : ∀ i x σ H, xs[i]? = some x → Pv i σ H → g x σ H fun σ2 H2 => tb { D with nx := Pv (i + 1), ct := Pv (i + 1), bk := D.nx } σ2 H2) (hd : ∀ σ H, Pv xs.length σ H → D.nx σ H) : ForP (Itl K a) g tb D σ H := for_list Pv h0 hl hs hd
theorem ForP.tup (Pv : Nat → St → Hp → Prop) (h0 : Pv 0 σ H) (hl : ∀ i σ H, i ≤ xs.length → Pv i σ H → SqT K H a xs)
    (hs : ∀ i x σ H, xs[i]? = some x → Pv i σ H → g x σ H fun σ2 H2 => tb { D with nx := Pv (i + 1), ct := Pv (i + 1), bk := D.nx } σ2 H2) (hd : ∀ σ H, Pv xs.length σ H → D.nx σ H) : ForP (Itt K a) g tb D σ H := for_tup Pv h0 hl hs hd
theorem ForP.range {lo : Int} {n : Nat} (Pv : Nat → St → Hp → Prop) (h0 : Pv 0 σ H)
    (hs : ∀ i σ H, i < n → Pv i σ H → g (.int (lo + i)) σ H fun σ2 H2 => tb { D with nx := Pv (i + 1), ct := Pv (i + 1), bk := D.nx } σ2 H2) (hd : ∀ σ H, Pv n σ H → D.nx σ H) : ForP (Itr lo n) g tb D σ H := for_range Pv h0 hs hd
theorem ap_iList : iList K tl σ H R = tl σ H fun x H1 => ∃ a, x = .ref a ∧ (∃ xs, SqL K H1 a xs) ∧ R (Itl K a) H1 := rfl
theorem ap_iTup : iTup K tl σ H R = tl σ H fun x H1 => ∃ a, x = .ref a ∧ (∃ xs, SqT K H1 a xs) ∧ R (Itt K a) H1 := rfl
theorem ap_iRng1 : iRng1 ta σ H R = ta σ H fun vs H1 => ∃ j : Int, vs = [.int j] ∧ -(2 ^ 62) ≤ j ∧ j < 2 ^ 62 ∧ R (Itr 0 j.toNat) H1 := rfl
theorem ap_iRng2 : iRng2 ta σ H R = ta σ H fun vs H1 => ∃ i j : Int, vs = [.int i, .int j] ∧ (-(2 ^ 62) ≤ i ∧ i < 2 ^ 62 ∧ -(2 ^ 62) ≤ j ∧ j < 2 ^ 62) ∧ R (Itr i (j - i).toNat) H1 := rfl
def CompP (cap : List (Option Nat)) (J : It) (g : TG) (tt : TT) (te : TE) (σ : St) (H1 : Hp) (Q : VK) : Prop := ∀ D, H1 D = Option.none →
  ∃ W : Nat → Nat → List V → St → Hp → Prop, (∃ m, W 0 m [] (capSt σ cap) (upd H1 D (.lst []))) ∧ ∀ i m acc σ1 H2, W i m acc σ1 H2 → H2 D = some (.lst acc) →
    (J.stop i H2 ∧ Q (.ref D) H2) ∨ (J.go i H2 ∧ ∀ x H3, J.yld i H2 x H3 → g x σ1 H3 fun σ4 H4 => tt σ4 H4 fun b H5 =>
      if b = true then te σ4 H5 fun v H6 => ∃ acc', H6 D = some (.lst acc') ∧ acc'.length < sizeLine ∧ ∃ m', m' < m ∧ W (i + 1) m' (acc' ++ [v]) σ4 (upd H6 D (.lst (acc' ++ [v])))
      else ∃ m', m' < m ∧ ∃ acc', H5 D = some (.lst acc') ∧ W (i + 1) m' acc' σ4 H5)
theorem ap_comp : tComp cap wi g tt te σ H Q = wi σ H fun J H1 => CompP cap J g tt te σ H1 Q := rfl
theorem CompP.list (Sσ : St → Prop) (p : V → Bool) (F : V → V) (hS : SqL K H a xs) (h0 : Sσ (capSt σ cap)) (hz : xs.length ≤ sizeLine)
    (hs : ∀ x ∈ xs, ∀ (σ : St) (H5 : Hp) (R1 : St → VK) (R2 : St → Hp → Prop), Sσ σ → Same H H5 → (p x = true → ∀ σ4 H6, Sσ σ4 → Same H5 H6 → R1 σ4 (F x) H6) → (p x = false → ∀ σ4 H6, Sσ σ4 → Same H5 H6 → R2 σ4 H6) →
      g x σ H5 fun σ4 H4 => tt σ4 H4 fun b H5 => if b = true then te σ4 H5 (R1 σ4) else R2 σ4 H5)
    (k : ∀ D H', H D = Option.none → Same H H' → H' D = some (.lst ((xs.filter p).map F)) → Q (.ref D) H') : CompP cap (Itl K a) g tt te σ H Q :=
  fun D hD => comp_list Sσ p F hS hD h0 hz hs fun H' s e => k D H' hD s e
theorem CompP.range {lo : Int} {n : Nat} (Sσ : St → Prop) (p : V → Bool) (F : V → V) (h0 : Sσ (capSt σ cap)) (hz : n ≤ sizeLine)
    (hs : ∀ i : Nat, i < n → ∀ (σ : St) (H5 : Hp) (R1 : St → VK) (R2 : St → Hp → Prop), Sσ σ → Same H H5 → (p (.int (lo + i)) = true → ∀ σ4 H6, Sσ σ4 → Same H5 H6 → R1 σ4 (F (.int (lo + i))) H6) → (p (.int (lo + i)) = false → ∀ σ4 H6, Sσ σ4 → Same H5 H6 → R2 σ4 H6) →
      g (.int (lo + i)) σ H5 fun σ4 H4 => tt σ4 H4 fun b H5 => if b = true then te σ4 H5 (R1 σ4) else R2 σ4 H5)
    (k : ∀ D H', H D = Option.none → Same H H' → H' D = some (.lst ((((List.range n).map fun (i : Nat) => V.int (lo + i)).filter p).map F)) → Q (.ref D) H') : CompP cap (Itr lo n) g tt te σ H Q :=
  fun D hD => comp_range Sσ p F hD h0 hz hs fun H' s e => k D H' hD s e
end
end L2
namespace L2
open PySem PySem.Spec PyProof.Rows
def MonoE (t : TE) : Prop := ∀ σ H (Q Q' : VK), (∀ v H', Q v H' → Q' v H') → t σ H Q → t σ H Q'
def MonoT (t : TT) : Prop := ∀ σ H (Q Q' : Bool → Hp → Prop), (∀ v H', Q v H' → Q' v H') → t σ H Q → t σ H Q'
def MonoA (t : TA) : Prop := ∀ σ H (Q Q' : List V → Hp → Prop), (∀ v H', Q v H' → Q' v H') → t σ H Q → t σ H Q'
def MonoO (t : TO) : Prop := ∀ σ H (Q Q' : Option Int → Hp → Prop), (∀ v H', Q v H' → Q' v H') → t σ H Q → t σ H Q'
def MonoR (r : R2) : Prop := ∀ x y H (Q Q' : VK), (∀ v H', Q v H' → Q' v H') → r x y H Q → r x y H Q'
def MonoU (r : V → Hp → VK → Prop) : Prop := ∀ x H (Q Q' : VK), (∀ v H', Q v H' → Q' v H') → r x H Q → r x H Q'
def MonoC (r : List V → Hp → VK → Prop) : Prop := ∀ xs H (Q Q' : VK), (∀ v H', Q v H' → Q' v H') → r xs H Q → r xs H Q'
def MonoM (r : V → List V → Hp → VK → Prop) : Prop := ∀ x xs H (Q Q' : VK), (∀ v H', Q v H' → Q' v H') → r x xs H Q → r x xs H Q'
def MonoL (r : V → Option Int → Option Int → Hp → VK → Prop) : Prop := ∀ x l u H (Q Q' : VK), (∀ v H', Q v H' → Q' v H') → r x l u H Q → r x l u H Q'
def MonoG (g : TG) : Prop := ∀ v σ H (Q Q' : St → Hp → Prop), (∀ σ H, Q σ H → Q' σ H) → g v σ H Q → g v σ H Q'
def MonoGs (g : TGs) : Prop := ∀ v σ H (Q Q' : St → Hp → Prop), (∀ σ H, Q σ H → Q' σ H) → g v σ H Q → g v σ H Q'
def MonoI (wi : TI) : Prop := ∀ σ H (R R' : It → Hp → Prop), (∀ J H', R J H' → R' J H') → wi σ H R → wi σ H R'
def MonoP (sp : Sp) : Prop := ∀ vs H (Q Q' : VK) (E : XK), (∀ v H', Q v H' → Q' v H') → sp vs H Q E → sp vs H Q' E
structure LeE (D D' : Ends) : Prop where
  nx : ∀ σ H, D.nx σ H → D'.nx σ H
  rt : ∀ v H, D.rt v H → D'.rt v H
  bk : ∀ σ H, D.bk σ H → D'.bk σ H
  ct : ∀ σ H, D.ct σ H → D'.ct σ H
def MonoS (t : TS) : Prop := ∀ D D' σ H, LeE D D' → t D σ H → t D' σ H
section
variable {t u : TS} {te ta tb tc : TE} {tt tu : TT} {A : TA} {g : TG} {gs : TGs} {r r' : R2} {i n : Nat} {v : V} {K : PySem.W.Frag} {wi : TI}
theorem mn_var : MonoE (tVar i) := fun _ _ _ _ f ⟨v, e, q⟩ => ⟨v, e, f _ _ q⟩
theorem mn_c : MonoE (tC v) := fun _ _ _ _ f q => f _ _ q
theorem mn_op (hr : MonoR r) (ha : MonoE ta) (hb : MonoE tb) : MonoE (tOp r ta tb) := fun σ H _ _ f q => ha σ H _ _ (fun x H1 q1 => hb σ H1 _ _ (fun y H2 q2 => hr x y H2 _ _ f q2) q1) q
theorem mn_un {r : V → Hp → VK → Prop} (hr : MonoU r) (ha : MonoE ta) : MonoE (tUn r ta) := fun σ H _ _ f q => ha σ H _ _ (fun x H1 q1 => hr x H1 _ _ f q1) q
theorem mn_rI {C : Int → Int → Prop} {f : Int → Int → V} : MonoR (rI C f) := fun _ _ _ _ _ k ⟨i, j, e1, e2, c, q⟩ => ⟨i, j, e1, e2, c, k _ _ q⟩
theorem mn_rI0 {f : Int → Int → V} : MonoR (rI0 f) := fun _ _ _ _ _ k ⟨i, j, e1, e2, q⟩ => ⟨i, j, e1, e2, k _ _ q⟩
theorem mn_rU {f : Int → V} : MonoU (rU f) := fun _ _ _ _ k ⟨i, e1, q⟩ => ⟨i, e1, k _ _ q⟩
theorem mn_rEq : MonoR rEq := fun _ _ _ _ _ k ⟨s, q⟩ => ⟨s, k _ _ q⟩
theorem mn_rNe : MonoR rNe := fun _ _ _ _ _ k ⟨s, q⟩ => ⟨s, k _ _ q⟩
theorem mn_rEqD : MonoR (rEqD K) := fun _ _ _ _ _ k ⟨a, b, c, d, e, f, q⟩ => ⟨a, b, c, d, e, f, k _ _ q⟩
theorem mn_rNeD : MonoR (rNeD K) := fun _ _ _ _ _ k ⟨a, b, c, d, e, f, q⟩ => ⟨a, b, c, d, e, f, k _ _ q⟩
theorem mn_ixL : MonoR (rIxL K) := fun _ _ _ _ _ k ⟨p, xs, i, v, a, b, c, d, q⟩ => ⟨p, xs, i, v, a, b, c, d, k _ _ q⟩
theorem mn_ixT : MonoR (rIxT K) := fun _ _ _ _ _ k ⟨p, xs, i, v, a, b, c, d, q⟩ => ⟨p, xs, i, v, a, b, c, d, k _ _ q⟩
theorem mn_in {b : Bool} : MonoR (rIn K b) := fun _ _ _ _ _ k ⟨p, xs, a, b, c, d, q⟩ => ⟨p, xs, a, b, c, d, k _ _ q⟩
theorem mn_isN : MonoR (fun x y H Q => y = V.non ∧ Q (.bl (decide (x = .non))) H) := fun _ _ _ _ _ k ⟨e, q⟩ => ⟨e, k _ _ q⟩
theorem mn_notN : MonoR (fun x y H Q => y = V.non ∧ Q (.bl (!decide (x = .non))) H) := fun _ _ _ _ _ k ⟨e, q⟩ => ⟨e, k _ _ q⟩
theorem mn_cat : MonoR rCat := fun _ _ _ _ _ k ⟨a, b, c, d, e, f, g, h, i, q⟩ => ⟨a, b, c, d, e, f, g, h, i, fun p hp => k _ _ (q p hp)⟩
theorem mn_test (h : MonoE te) : MonoT (tTest te) := fun σ H _ _ f q => h σ H _ _ (fun x H1 ⟨k, e, q1⟩ => ⟨k, e, f _ _ q1⟩) q
theorem mn_tB (h : MonoE te) : MonoT (tB te) := fun σ H _ _ f q => h σ H _ _ (fun x H1 ⟨k, e, q1⟩ => ⟨k, e, f _ _ q1⟩) q
theorem mn_not (h : MonoT tt) : MonoT (tNot tt) := fun σ H _ _ f q => h σ H _ _ (fun c H1 q1 => f _ _ q1) q
theorem mn_and (h : MonoT tt) (h2 : MonoT tu) : MonoT (tAnd tt tu) := fun σ H _ _ f q => h σ H _ _ (fun c H1 q1 => by
  cases c with
  | true => exact h2 σ H1 _ _ f q1
  | false => exact f _ _ q1) q
theorem mn_or (h : MonoT tt) (h2 : MonoT tu) : MonoT (tOr tt tu) := fun σ H _ _ f q => h σ H _ _ (fun c H1 q1 => by
  cases c with
  | true => exact f _ _ q1
  | false => exact h2 σ H1 _ _ f q1) q
theorem mn_nil : MonoA tNil := fun _ _ _ _ f q => f _ _ q
theorem mn_cons (h : MonoE ta) (h2 : MonoA A) : MonoA (tCons ta A) := fun σ H _ _ f q => h σ H _ _ (fun x H1 q1 => h2 σ H1 _ _ (fun xs H2 q2 => f _ _ q2) q1) q
theorem mn_cb {r : List V → Hp → VK → Prop} (hr : MonoC r) (h : MonoA A) : MonoE (tCB r A) := fun σ H _ _ f q => h σ H _ _ (fun x H1 q1 => hr _ _ _ _ f q1) q
theorem mn_call {sp : Sp} {dvs : List V} {E : XK} (hr : MonoP sp) (h : MonoA A) : MonoE (tCall sp dvs E A) := fun σ H _ _ f q => h σ H _ _ (fun x H1 q1 => hr _ _ _ _ _ f q1) q
theorem mn_lst (h : MonoA A) : MonoE (tLst A) := fun σ H _ _ f q => h σ H _ _ (fun x H1 ⟨z, q1⟩ => ⟨z, fun p hp => f _ _ (q1 p hp)⟩) q
theorem mn_tup (h : MonoA A) : MonoE (tTup A) := fun σ H _ _ f q => h σ H _ _ (fun x H1 ⟨z, q1⟩ => ⟨z, fun p hp => f _ _ (q1 p hp)⟩) q
theorem mn_len : MonoC (rLen K) := fun _ _ _ _ k ⟨p, ys, a, b, q⟩ => ⟨p, ys, a, b, k _ _ q⟩
theorem mn_sum : MonoC (rSum K) := fun _ _ _ _ k ⟨p, ys, a, b, q⟩ => ⟨p, ys, a, b, k _ _ q⟩
theorem mn_any : MonoC (rAny K) := fun _ _ _ _ k ⟨p, ys, a, b, q⟩ => ⟨p, ys, a, b, k _ _ q⟩
theorem mn_all : MonoC (rAll K) := fun _ _ _ _ k ⟨p, ys, a, b, q⟩ => ⟨p, ys, a, b, k _ _ q⟩
theorem mn_max : MonoC rMax := fun _ _ _ _ k ⟨p, ys, a, q⟩ => ⟨p, ys, a, k _ _ q⟩
theorem mn_min : MonoC rMin := fun _ _ _ _ k ⟨p, ys, a, q⟩ => ⟨p, ys, a, k _ _ q⟩
theorem mn_listOf : MonoC (rListOf K) := fun _ _ _ _ k ⟨p, ys, a, b, q⟩ => ⟨p, ys, a, b, fun l hl => k _ _ (q l hl)⟩
theorem mn_isT : MonoC (rIsT K) := fun _ _ _ _ k ⟨x, n, t, kk, a, b, c, q⟩ => ⟨x, n, t, kk, a, b, c, k _ _ q⟩
theorem mn_isC : MonoC (rIsC K) := fun _ _ _ _ k ⟨x, n, t, kk, a, b, c, q⟩ => ⟨x, n, t, kk, a, b, c, k _ _ q⟩
theorem mn_noPart : MonoO tNoPart := fun _ _ _ _ f q => f _ _ q
theorem mn_part (h : MonoE te) : MonoO (tPart te) := fun σ H _ _ f q => h σ H _ _ (fun x H1 ⟨i, e, q1⟩ => ⟨i, e, f _ _ q1⟩) q
theorem mn_sl {r : V → Option Int → Option Int → Hp → VK → Prop} {tl th : TO} (hr : MonoL r) (h : MonoE te) (hl : MonoO tl) (hh : MonoO th) : MonoE (tSl r te tl th) := fun σ H _ _ f q =>
  h σ H _ _ (fun x H1 q1 => hl σ H1 _ _ (fun l H2 q2 => hh σ H2 _ _ (fun u H3 q3 => hr _ _ _ _ _ _ f q3) q2) q1) q
theorem mn_slL : MonoL (rSlL K) := fun _ _ _ _ _ _ k ⟨a, xs, e, h, q⟩ => ⟨a, xs, e, h, fun p hp => k _ _ (q p hp)⟩
theorem mn_bm {T : String} {r : V → List V → Hp → VK → Prop} (hr : MonoM r) (h : MonoE te) (hA : MonoA A) : MonoE (tBM K T r te A) := fun σ H _ _ f q => h σ H _ _ (fun x H1 ⟨ty, q1⟩ => ⟨ty, hA σ H1 _ _ (fun xs H2 q2 => hr _ _ _ _ _ f q2) q1⟩) q
theorem mn_bm0 {T : String} {r : V → List V → Hp → VK → Prop} (hr : MonoM r) (h : MonoE te) : MonoE (tBM0 K T r te) := fun σ H _ _ f q => h σ H _ _ (fun x H1 ⟨ty, q1⟩ => ⟨ty, hr _ _ _ _ _ f q1⟩) q
theorem mn_append : MonoM rAppend := fun _ _ _ _ _ k ⟨l, xs, y, a, b, c, d, q⟩ => ⟨l, xs, y, a, b, c, d, k _ _ q⟩
theorem mn_chain (h1 : MonoR r) (h2 : MonoR r') (ha : MonoE ta) (hb : MonoE tb) (hc : MonoE tc) : MonoE (tChain r r' ta tb tc) := fun σ H _ _ f q =>
  ha σ H _ _ (fun x H1 q1 => hb σ H1 _ _ (fun y H2 q2 => h1 x y H2 _ _ (fun z H3 ⟨k, e, q3⟩ => ⟨k, e, by
    cases k with
    | true => exact hc σ H3 _ _ (fun w' H4 q4 => h2 y w' H4 _ _ f q4) q3
    | false => exact f _ _ q3⟩) q2) q1) q
theorem mn_andV (ha : MonoE ta) (hb : MonoE tb) : MonoE (tAndV ta tb) := fun σ H _ _ f q => ha σ H _ _ (fun x H1 ⟨c, e, q1⟩ => ⟨c, e, by
  cases c with
  | true => exact hb σ H1 _ _ f q1
  | false => exact f _ _ q1⟩) q
theorem mn_orV (ha : MonoE ta) (hb : MonoE tb) : MonoE (tOrV ta tb) := fun σ H _ _ f q => ha σ H _ _ (fun x H1 ⟨c, e, q1⟩ => ⟨c, e, by
  cases c with
  | true => exact f _ _ q1
  | false => exact hb σ H1 _ _ f q1⟩) q
theorem mn_notV (ha : MonoE ta) : MonoE (tNotV ta) := fun σ H _ _ f q => ha σ H _ _ (fun x H1 ⟨c, e, q1⟩ => ⟨c, e, f _ _ q1⟩) q
theorem mn_ifE (h : MonoT tt) (ha : MonoE ta) (hb : MonoE tb) : MonoE (tIf tt ta tb) := fun σ H _ _ f q => h σ H _ _ (fun c H1 q1 => by
  cases c with
  | true => exact ha σ H1 _ _ f q1
  | false => exact hb σ H1 _ _ f q1) q
theorem mn_name : MonoG (gName i) := fun _ _ _ _ _ f q => f _ _ q
theorem mn_gNil : MonoGs gNil := fun _ _ _ _ _ f ⟨e, q⟩ => ⟨e, f _ _ q⟩
theorem mn_gCons (h : MonoG g) (h2 : MonoGs gs) : MonoGs (gCons g gs) := fun _ σ H _ _ f ⟨v, r, e, q⟩ => ⟨v, r, e, h _ _ _ _ _ (fun σ1 H1 q1 => h2 _ _ _ _ _ f q1) q⟩
theorem mn_gLst (h : MonoGs gs) : MonoG (gLst K n gs) := fun _ _ _ _ _ f ⟨a, xs, e, s, l, q⟩ => ⟨a, xs, e, s, l, h _ _ _ _ _ f q⟩
theorem mn_gTup (h : MonoGs gs) : MonoG (gTup K n gs) := fun _ _ _ _ _ f ⟨a, xs, e, s, l, q⟩ => ⟨a, xs, e, s, l, h _ _ _ _ _ f q⟩
theorem mn_next : MonoS tNext := fun _ _ _ _ f q => f.nx _ _ q
theorem mn_nxE : MonoS Ends.nx := fun _ _ _ _ f q => f.nx _ _ q
theorem mn_never : MonoS tNever := fun _ _ _ _ _ q => q
theorem mn_break : MonoS tBreak := fun _ _ _ _ f q => f.bk _ _ q
theorem mn_cont : MonoS tCont := fun _ _ _ _ f q => f.ct _ _ q
theorem mn_ret (h : MonoE te) : MonoS (tRet te) := fun _ _ σ H f q => h σ H _ _ f.rt q
theorem mn_retN : MonoS tRetN := fun _ _ _ _ f q => f.rt _ _ q
theorem mn_drop (h : MonoE te) : MonoS (tDrop te) := fun _ _ σ H f q => h σ H _ _ (fun _ H1 q1 => f.nx _ _ q1) q
theorem mn_asg (h : MonoE te) (hg : MonoG g) : MonoS (tAsg te g) := fun _ _ σ H f q => h σ H _ _ (fun x H1 q1 => hg _ _ _ _ _ f.nx q1) q
theorem mn_seq (h : MonoS t) (h2 : MonoS u) : MonoS (tSeq t u) := fun D D' σ H f q => h { D with nx := u D } { D' with nx := u D' } σ H ⟨fun σ1 H1 q1 => h2 D D' σ1 H1 f q1, f.rt, f.bk, f.ct⟩ q
theorem mn_if (h : MonoT tt) (ht : MonoS t) (hu : MonoS u) : MonoS (tIfS tt t u) := fun _ _ σ H f q => h σ H _ _ (fun c H1 q1 => by
  cases c with
  | true => exact ht _ _ σ H1 f q1
  | false => exact hu _ _ σ H1 f q1) q
end
end L2
namespace L2
open PySem PySem.Spec PyProof.Rows
section
variable {X : Cx} {pins : List (Addr × Obj)} {σ : St} {H : Hp} {s : Shared} {h' : Heap}
theorem Inv.turnedN {t' : Nat} {fp : List Addr} (I : Inv X pins σ H s) (hf : ∀ b ∈ fp, FpOk X pins H b) (k : ∀ b o, b ∉ fp → s.heap.get? b = some o → h'.get? b = some o) : Inv X pins σ H { s with heap := h', toks := t' } := by
  have nit : ∀ b u, H b = some u → b ∉ fp := fun b u e z => by rw [(hf b z).1] at e; cases e
  refine I.step (g' := s.gens) (d' := s.drawn) (ch := fp) (fun b hb => ⟨(hf b hb).2.2.2.1, (hf b hb).2.1, (hf b hb).2.2.2.2.1, (hf b hb).2.2.2.2.2⟩) (fun b o _ _ hc e _ => k b o hc e) (fun b o _ _ hc e _ => ⟨o.slots, k b o hc e⟩) (fun _ _ _ _ n => n)
    (fun b o hc e => ⟨o, k b o hc e⟩) (fun _ _ e => e) (fun _ _ _ e => e) (fun b ps e => ⟨#[], by rw [e]; simp⟩) (fun m hm => ?_) (fun b u e => ?_) I.bare
  · obtain ⟨o, es, ep, ho, r⟩ := hm
    exact ⟨o, es, ep, k _ o (fun z => (hf _ z).2.1 rfl) ho, r⟩
  · refine (I.hok b u e).stay (fun c v hc q => k c v ?_ q) (fun _ q => q) fun _ _ q => q
    rcases hc with z | z
    · rw [z]; exact nit b u e
    · exact nit c _ z
theorem Inv.turnedT {t' : Nat} {fp : List Addr} {T : Addr} {o : HO} (I : Inv X pins σ H s) (hf : ∀ b ∈ fp, FpOk X pins H b) (hT : s.heap.objs.size ≤ T) (k : ∀ b o, b ∉ fp → s.heap.get? b = some o → h'.get? b = some o)
    (new : ObjOk X.prog X.w (upd H T o) h' T o) : Inv X pins σ (upd H T o) { s with heap := h', toks := t' } := by
  have nit : ∀ b u, H b = some u → b ∉ fp := fun b u e z => by rw [(hf b z).1] at e; cases e
  have hn : H T = none := I.hok.fresh hT
  refine I.step (g' := s.gens) (d' := s.drawn) (ch := fp) (fun b hb => ⟨(hf b hb).2.2.2.1, (hf b hb).2.1, (hf b hb).2.2.2.2.1, (hf b hb).2.2.2.2.2⟩) (fun b o _ _ hc e _ => k b o hc e) (fun b o _ _ hc e _ => ⟨o.slots, k b o hc e⟩)
    (fun b o _ e n => by rw [upd_ne (Nat.ne_of_lt (Nat.lt_of_lt_of_le (Heap.lt_size e) hT))]; exact n)
    (fun b o hc e => ⟨o, k b o hc e⟩) (fun b xs e => by rw [upd_ne (ne_of_none e hn)]; exact e) (fun b o xs e => by rw [upd_ne (ne_of_none e hn)]; exact e) (fun b ps e => ⟨#[], by rw [upd_ne (ne_of_none e hn), e]; simp⟩) (fun m hm => ?_) (fun b u e => ?_) I.bare
  · obtain ⟨o, es, ep, ho, r⟩ := hm
    exact ⟨o, es, ep, k _ o (fun z => (hf _ z).2.1 rfl) ho, r⟩
  · by_cases hb : b = T
    · subst hb; rw [upd_same] at e; cases e; exact new
    · rw [upd_ne hb] at e
      refine (I.hok b u e).stay (fun c v hc q => k c v ?_ q) (fun c q => by rw [upd_ne (ne_of_none q hn)]; exact q) fun c xs q => by rw [upd_ne (ne_of_none q hn)]; exact q
      rcases hc with z | z
      · rw [z]; exact nit b u e
      · exact nit c _ z
end
theorem ne_cls {h : Heap} {a b : Addr} {oa ob : Obj} {ca cb : Value} (ha : h.get? a = some oa) (hb : h.get? b = some ob) (ea : oa.cls = ca) (eb : ob.cls = cb) (hc : ca ≠ cb) : a ≠ b := by
  intro e; subst e; rw [ha] at hb; cases hb; exact hc (ea.symm.trans eb)
def Itz (K : PySem.W.Frag) (a b : Addr) : It :=
  ⟨fun i H => ∃ xs ys x y, SqL K H a xs ∧ SqL K H b ys ∧ xs[i]? = some x ∧ ys[i]? = some y,
   fun i H v H' => ∃ p x y, H p = none ∧ v = .ref p ∧ H' = upd H p (.tup [x, y]) ∧ (∀ xs, SqL K H a xs → xs[i]? = some x) ∧ ∀ ys, SqL K H b ys → ys[i]? = some y,
   fun i H => ∃ xs ys, SqL K H a xs ∧ SqL K H b ys ∧ (xs.length ≤ i ∨ ys.length ≤ i)⟩
theorem zipApart_of {h : Heap} {z TI TO i1 i2 a b : Addr} {f0 u v : Value} {xs ys : Array Value} {j1 j2 : Nat} (hTT : TI ≠ TO) (h12 : i1 ≠ i2) (hz : IsZip h z TI TO f0) (hTI : IsPair h TI (.ref i1) (.ref i2)) (hTO : IsPair h TO u v)
    (h1 : h.IsListIter i1 a j1) (h2 : h.IsListIter i2 b j2) (p1 : h.IsList a xs) (p2 : h.IsList b ys) : ZipApart z TI TO i1 i2 a b := by
  obtain ⟨o1, e1, c1, _⟩ := h1
  obtain ⟨o2, e2, c2, _⟩ := h2
  obtain ⟨l1, f1, d1, _⟩ := p1
  obtain ⟨l2, f2, d2, _⟩ := p2
  exact ⟨ne_cls hTI hz rfl rfl (by simp), ne_cls hTO hz rfl rfl (by simp), ne_cls e1 hz c1 rfl (by simp), ne_cls e2 hz c2 rfl (by simp), hTT, ne_cls hTI e1 rfl c1 (by simp), ne_cls hTI e2 rfl c2 (by simp), ne_cls hTO e1 rfl c1 (by simp), ne_cls hTO e2 rfl c2 (by simp), h12,
    ne_cls f1 hz d1 rfl (by simp), ne_cls f1 hTO d1 rfl (by simp), ne_cls f1 e1 d1 c1 (by simp), ne_cls f1 e2 d1 c2 (by simp), ne_cls f2 hz d2 rfl (by simp), ne_cls f2 hTO d2 rfl (by simp), ne_cls f2 e1 d2 c1 (by simp), ne_cls f2 e2 d2 c2 (by simp)⟩
theorem turn_zip {P : Program} {w : World} {K : PySem.W.Frag} {elts : List Expr} {x1 : Nat} {pos : Pos} (a b z TI TO i1 i2 : Addr) (hTT : TI ≠ TO) (h12 : i1 ≠ i2) :
    Turn P w K (.Tuple elts x1 pos) (Itz K a b) [z, TI, TO, i1, i2] z (fun i h => IsZip h z TI TO .none ∧ IsPair h TI (.ref i1) (.ref i2) ∧ (∃ u v, IsPair h TO u v) ∧ h.IsListIter i1 a i ∧ h.IsListIter i2 b i) where
  mem := by simp
  obj := fun i h st c hb => by
    obtain ⟨hz, hTI, ⟨u, v, hTO⟩, ⟨o1, e1, c1, d1⟩, ⟨o2, e2, c2, d2⟩⟩ := st
    simp only [List.mem_cons, List.not_mem_nil, or_false] at hb
    rcases hb with rfl | rfl | rfl | rfl | rfl
    · exact ⟨_, hz, fun v z => by cases z⟩
    · exact ⟨_, hTI, fun v z => by cases z⟩
    · exact ⟨_, hTO, fun v z => by cases z⟩
    · exact ⟨_, e1, fun v z => by rw [d1] at z; cases z⟩
    · exact ⟨_, e2, fun v z => by rw [d2] at z; cases z⟩
  keep := fun i h h' st k => by
    obtain ⟨hz, hTI, ⟨u, v, hTO⟩, h1, h2⟩ := st
    exact ⟨k _ (by simp) _ hz, k _ (by simp) _ hTI, ⟨u, v, k _ (by simp) _ hTO⟩, h1.at fun o e => k _ (by simp) o e, h2.at fun o e => k _ (by simp) o e⟩
  item := by
    intro X hP hw hK hc i pins s σ H E I hf st hg
    subst hP hw hK
    obtain ⟨xs, ys, x, y, hq1, hq2, hx, hy⟩ := hg
    obtain ⟨its1, rv1, p1, _⟩ := I.list hq1
    obtain ⟨its2, rv2, p2, _⟩ := I.list hq2
    obtain ⟨u1, hu1, ru1⟩ := rv1.get hx
    obtain ⟨u2, hu2, ru2⟩ := rv2.get hy
    obtain ⟨hz, hTI, ⟨ua, ub, hTO⟩, h1, h2⟩ := st
    have D := zipApart_of hTT h12 hz hTI hTO h1 h2 p1.isList p2.isList
    refine wpAny_pyNext_zip_item D hz hTI hTO h1 h2 p1.isList p2.isList (x := u1) (y := u2) (by simpa using hu1) (by simpa using hu2) fun h' a1 a2 a3 a4 a5 a6 a7 => ?_
    refine ⟨_, rfl, wpAny_letOwnedTupleGo_zip (s := { s with heap := h' }) a1 fun h'' b1 b2 => ?_⟩
    have nz : s.heap.objs.size ≠ z := Nat.ne_of_gt (Heap.lt_size hz)
    have k : ∀ c o, c ∉ [z, TI, TO, i1, i2] → s.heap.get? c = some o → h''.get? c = some o := fun c o hc e => by
      simp only [List.mem_cons, List.not_mem_nil, or_false, not_or] at hc
      exact (b2.2 c hc.1).trans (a7 c o hc.1 hc.2.2.1 hc.2.2.2.1 hc.2.2.2.2 e)
    have hTup : h''.get? s.heap.objs.size = some { cls := .type "tuple", data := .seq #[u1, u2] } := (b2.2 _ nz).trans a5
    refine ⟨.ref s.heap.objs.size, upd H s.heap.objs.size (.tup [x, y]), I.turnedT (t' := s.toks) hf (Nat.le_refl _) k ⟨by rw [sizeLine_eq]; simp, [u1, u2], .cons ru1 (.cons ru2 .nil), _, hTup, rfl, _, rfl⟩, rfl,
      ⟨_, x, y, I.hok.fresh (Nat.le_refl _), rfl, rfl, fun xs' q => by rw [I.list_inj q hq1]; exact hx, fun ys' q => by rw [I.list_inj q hq2]; exact hy⟩, ?_, fun c hb => ?_⟩
    · exact ⟨b1, (b2.2 _ D.TIz).trans (a7 _ _ D.TIz D.TITO D.TIi1 D.TIi2 hTI), ⟨_, _, (b2.2 _ D.TOz).trans a2⟩, a3.at fun o e => (b2.2 _ D.i1z).trans e, a4.at fun o e => (b2.2 _ D.i2z).trans e⟩
    · obtain ⟨o, e⟩ : ∃ o, s.heap.get? c = some o := by
        simp only [List.mem_cons, List.not_mem_nil, or_false] at hb
        rcases hb with rfl | rfl | rfl | rfl | rfl
        · exact ⟨_, hz⟩
        · exact ⟨_, hTI⟩
        · exact ⟨_, hTO⟩
        · obtain ⟨o, e, _⟩ := h1; exact ⟨o, e⟩
        · obtain ⟨o, e, _⟩ := h2; exact ⟨o, e⟩
      rw [upd_ne (Nat.ne_of_lt (Heap.lt_size e))]
      exact (hf c hb).1
  done := by
    intro X hP hw hK hc i pins s σ H E I hf st hg
    subst hP hw hK
    obtain ⟨xs, ys, hq1, hq2, hx⟩ := hg
    obtain ⟨its1, rv1, p1, _⟩ := I.list hq1
    obtain ⟨its2, rv2, p2, _⟩ := I.list hq2
    obtain ⟨hz, hTI, ⟨ua, ub, hTO⟩, h1, h2⟩ := st
    have D := zipApart_of hTT h12 hz hTI hTO h1 h2 p1.isList p2.isList
    have l1 := rv1.length
    have l2 := rv2.length
    refine wpAny_pyNext_zip_end (I.ok.hd hc) D hz hTI hTO h1 h2 p1.isList p2.isList (hx.elim (fun h => .inl (by simp; omega)) fun h => .inr (by simp; omega)) fun h' k => ⟨rfl, I.turnedN (t' := s.toks) hf fun c o hc e => ?_⟩
    simp only [List.mem_cons, List.not_mem_nil, or_false, not_or] at hc
    exact k c o hc.1 hc.2.2.1 hc.2.2.2.1 hc.2.2.2.2 e
  self := fun _ _ _ _ _ st h => wpAny_pyIter_zip st.1 h
def Ite (K : PySem.W.Frag) (a : Addr) : It :=
  ⟨fun i H => ∃ xs x, SqL K H a xs ∧ xs[i]? = some x,
   fun i H v H' => ∃ p x, H p = none ∧ v = .ref p ∧ H' = upd H p (.tup [.int i, x]) ∧ ∀ xs, SqL K H a xs → xs[i]? = some x,
   fun i H => ∃ xs, SqL K H a xs ∧ xs.length ≤ i⟩
section
variable {X : Cx} {K : PySem.W.Frag} {ta : TA} {elts : List Expr} {x1 : Nat} {tpos : Pos}
def iZip (K : PySem.W.Frag) (ta : TA) : TI := fun σ H R => ta σ H fun vs H1 => ∃ a b, vs = [.ref a, .ref b] ∧ (∃ xs, SqL K H1 a xs) ∧ (∃ ys, SqL K H1 b ys) ∧ R (Itz K a b) H1
def iEnum (K : PySem.W.Frag) (ta : TA) : TI := fun σ H R => ta σ H fun vs H1 => ∃ a, vs = [.ref a] ∧ (∃ xs, SqL K H1 a xs) ∧ R (Ite K a) H1
theorem pi_zip {a b : Expr} {p pos : Pos} (hg : Gl X "zip") (hm : X.mg "zip" = none) (ha : PA X [a, b] ta) (hs : starEach [a, b] X.env = [(false, eval a X.env), (false, eval b X.env)] := by rfl) (hs2 : starEach [b] X.env = [(false, eval b X.env)] := by rfl) (hK : X.K = K := by rfl) :
    PI X (.Tuple elts x1 tpos) (.Call (.Name "zip" p) [a, b] [] pos) (iZip K ta) := by
  subst hK
  intro pins s σ H R I h
  refine Call_ (ld_blt I hg hm (by decide +kernel) (PyProof.Rows.callWith_type1 (T := "zip") (thn (ha pos pins s σ H _ I h) fun us s1 ⟨vs, H1, I1, r1, q1⟩ => ?_) (by rw [hs, hs2]) (by rw [hs2]; rfl)))
  obtain ⟨l1, l2, e, ⟨xs, hx⟩, ⟨ys, hy⟩, q⟩ := q1
  subst e
  obtain ⟨u, v, rfl, ru, rv⟩ := vals2 r1
  cases ru
  cases rv
  obtain ⟨its1, _, p1, _⟩ := I1.list hx
  obtain ⟨its2, _, p2, _⟩ := I1.list hy
  refine call_zip_2 p1.isList p2.isList fun h' g1 g2 g3 g4 g5 g6 k => ?_
  have I2 : Inv X pins σ H1 { s1 with heap := h' } := I1.kept (t' := s1.toks) k
  refine wpAny_pyIter_zip (s := { s1 with heap := h' }) g1 ⟨_, [s1.heap.objs.size + 4, s1.heap.objs.size + 2, s1.heap.objs.size + 3, s1.heap.objs.size, s1.heap.objs.size + 1], _, _, H1, rfl, I2, turn_zip l1 l2 _ _ _ _ _ (show ((s1.heap.objs.size : Nat) + 2 ≠ s1.heap.objs.size + 3) by omega) (show ((s1.heap.objs.size : Nat) ≠ s1.heap.objs.size + 1) by omega), ⟨g1, g2, ⟨_, _, g3⟩, g4, g5⟩, fun c hc => ?_, q⟩
  have hc' : s1.heap.objs.size ≤ c := by
    simp only [List.mem_cons, List.not_mem_nil, or_false] at hc
    have hc2 : ∃ k : Nat, c = s1.heap.objs.size + k := by
      rcases hc with rfl | rfl | rfl | rfl | rfl
      · exact ⟨4, rfl⟩
      · exact ⟨2, rfl⟩
      · exact ⟨3, rfl⟩
      · exact ⟨0, rfl⟩
      · exact ⟨1, rfl⟩
    obtain ⟨k, rfl⟩ := hc2
    exact Nat.le_add_right _ k
  exact I1.fpOk hc' (I1.hok.fresh hc')
variable {σ : St} {H : Hp} {R : It → Hp → Prop} {g : TG} {tb : TS} {D : Ends} {a b : Addr} {xs ys : List V}
theorem ap_iZip : iZip K ta σ H R = ta σ H fun vs H1 => ∃ a b, vs = [.ref a, .ref b] ∧ (∃ xs, SqL K H1 a xs) ∧ (∃ ys, SqL K H1 b ys) ∧ R (Itz K a b) H1 := rfl
theorem ap_iEnum : iEnum K ta σ H R = ta σ H fun vs H1 => ∃ a, vs = [.ref a] ∧ (∃ xs, SqL K H1 a xs) ∧ R (Ite K a) H1 := rfl
theorem ForP.zip (Pv : Nat → St → Hp → Prop) (hlen : xs.length = ys.length) (h0 : Pv 0 σ H) (hl : ∀ i σ H, i ≤ xs.length → Pv i σ H → SqL K H a xs ∧ SqL K H b ys)
    (hs : ∀ i x y σ H p, xs[i]? = some x → ys[i]? = some y → Pv i σ H → H p = none → g (.ref p) σ (upd H p (.tup [x, y])) fun σ2 H2 => tb { D with nx := Pv (i + 1), ct := Pv (i + 1), bk := D.nx } σ2 H2) (hd : ∀ σ H, Pv xs.length σ H → D.nx σ H) : ForP (Itz K a b) g tb D σ H := by
  refine ⟨fun i m σ H => m = xs.length - i ∧ i ≤ xs.length ∧ Pv i σ H, ⟨xs.length, by simp, Nat.zero_le _, h0⟩, ?_⟩
  rintro i m σ H ⟨rfl, hi, p⟩
  obtain ⟨q1, q2⟩ := hl i σ H hi p
  by_cases hlt : i < xs.length
  · refine .inr ⟨⟨xs, ys, xs[i], ys[i], q1, q2, by simp [hlt], by simp [hlen ▸ hlt]⟩, Pv (i + 1), fun σ' H' p' => ⟨xs.length - (i + 1), by omega, rfl, hlt, p'⟩, fun v H' y => ?_⟩
    obtain ⟨pp, x, y, hp, rfl, rfl, e1, e2⟩ := y
    exact hs i x y σ _ pp (e1 xs q1) (e2 ys q2) p hp
  · have e : i = xs.length := by omega
    subst e
    exact .inl ⟨⟨xs, ys, q1, q2, .inl (Nat.le_refl _)⟩, hd σ H p⟩
end
end L2
namespace L2
open PySem PySem.Spec PyProof.Rows
def DK (h h' : Heap) : Prop := ∀ b o, h.get? b = some o → ∃ o', h'.get? b = some o' ∧ o'.dict = o.dict
theorem DK.refl {h : Heap} : DK h h := fun b o e => ⟨o, e, rfl⟩
theorem DK.trans {h h1 h2 : Heap} (a : DK h h1) (b : DK h1 h2) : DK h h2 := fun c o e => by
  obtain ⟨o1, e1, d1⟩ := a c o e
  obtain ⟨o2, e2, d2⟩ := b c o1 e1
  exact ⟨o2, e2, d2.trans d1⟩
structure KD {α : Type} (t : Sem α) : Prop where
  out : ∀ (M : Model) (Γ : PySem.Ctx) (P : α → Pos → Shared → Prop) (E : Value → Pos → Shared → Prop) (p : Pos) (s : Shared), Sem.wp M Γ t P E p s → Sem.wp M Γ t (fun a p' s' => P a p' s' ∧ DK s.heap s'.heap) E p s
theorem KD.bind {α β : Type} {m : Sem α} {f : α → Sem β} (h : KD m) (k : ∀ a, KD (f a)) : KD (m >>= f) := ⟨fun M Γ P E p s hw => by
  have hw : Sem.wp M Γ (m.bind f) P E p s := hw
  show Sem.wp M Γ (m.bind f) _ E p s
  rw [Sem.wp_bind] at hw ⊢
  refine Sem.wp_mono M Γ m (fun a p1 s1 h1 => ?_) (fun _ _ _ z => z) p s (h.out M Γ _ E p s hw)
  exact Sem.wp_mono M Γ (f a) (fun b p2 s2 h2 => ⟨h2.1, h1.2.trans h2.2⟩) (fun _ _ _ z => z) p1 s1 ((k a).out M Γ P E p1 s1 h1.1)⟩
theorem KD.pure {α : Type} (a : α) : KD (Pure.pure a : Sem α) := ⟨fun M Γ P E p s h => ⟨h, DK.refl⟩⟩
theorem KD.uns {α : Type} (w : String) : KD (unsupported w : Sem α) := ⟨fun M Γ P E p s h => h⟩
theorem KD.load (a : Addr) : KD (load a) := ⟨fun M Γ P E p s ⟨o, e, h⟩ => ⟨o, e, h, DK.refl⟩⟩
theorem KD.stack : KD PySem.stack := ⟨fun M Γ P E p s h => ⟨h, DK.refl⟩⟩
theorem KD.alloc (o : Obj) : KD (alloc o) := ⟨fun M Γ P E p s h => ⟨h, fun b o' e => ⟨o', Heap.get?_push_of_some o e, rfl⟩⟩⟩
theorem get_nf {h : Heap} {a : Addr} {o : Obj} (e : h.get? a = some o) : o.isFreed = false := by
  unfold Heap.get? at e
  split at e
  · cases e
  · rename_i hn
    obtain ⟨c, dd, da, sl⟩ := o
    cases da <;> first | rfl | exact (hn _ _ _ e).elim
theorem KD.update (a : Addr) (f : Obj → Obj) (hf : ∀ o, o.isFreed = false → (f o).isFreed = false ∧ (f o).dict = o.dict) : KD (update a f) := ⟨fun M Γ P E p s ⟨e, h⟩ => ⟨e, h, fun b o eb => by
  by_cases hb : b = a
  · subst hb
    obtain ⟨f1, f2⟩ := hf o (get_nf eb)
    exact ⟨f o, Heap.get?_update_self f eb f1, f2⟩
  · exact ⟨o, Heap.get?_update_of_ne f (Ne.symm hb) eb, rfl⟩⟩⟩
theorem wpAny_kd {α : Type} {M : Model} {A : Around} {t : Sem α} {Q : α → Shared → Prop} {E : Value → Shared → Prop} {s : Shared} (k : KD t) (h : wpAny M A t Q E s) : wpAny M A t (fun a s' => Q a s' ∧ DK s.heap s'.heap) E s := fun Γ p hA => k.out M Γ _ _ p s (h Γ p hA)
theorem KD.fieldsOf (v : Value) : KD (fieldsOf v) := by
  unfold PySem.fieldsOf
  split
  · refine (KD.load _).bind fun o => ?_
    split
    · exact .pure _
    · exact .uns _
  · exact .uns _
theorem KD.field (v : Value) (i : Nat) : KD (field v i) := by
  unfold PySem.field
  refine (KD.fieldsOf v).bind fun o => ?_
  split
  · exact .pure _
  · exact .uns _
theorem KD.updateField (a : Addr) (i : Nat) (v : Value) : KD (updateField a i v) := by
  unfold PySem.updateField
  refine (KD.load _).bind fun o => ?_
  split
  · split
    · refine KD.update _ _ fun o h => ?_
      unfold Obj.mapFields
      split
      · exact ⟨rfl, rfl⟩
      · exact ⟨h, rfl⟩
    · exact .uns _
  · exact .uns _
theorem KD.setField (v : Value) (i : Nat) (x : Value) : KD (setField v i x) := by
  unfold PySem.setField
  split
  · exact KD.updateField _ _ _
  · exact .uns _
theorem KD.setFlight (e : Value) (f : Option Addr) : KD (setFlight e f) := by
  unfold PySem.setFlight
  refine (KD.field _ _).bind fun tb => ?_
  split
  · exact KD.setField _ _ _
  · exact .pure _
theorem KD.readyFrames : ∀ l, KD (readyFrames l)
  | [] => by rw [readyFrames.eq_1]; exact .pure _
  | env :: l => by
    rw [readyFrames.eq_2]
    split
    · refine (KD.load _).bind fun o => ?_
      split
      · exact .pure _
      · refine KD.bind ?_ fun im => KD.bind ?_ fun bk => KD.bind (KD.update _ _ fun o h => ⟨by obtain ⟨c, dd, da, sl⟩ := o; cases da <;> first | rfl | exact h, rfl⟩) fun _ => KD.readyFrames l
        · unfold behindIsImport
          split
          · exact .pure _
          · split
            · exact .pure _
            · exact (KD.field _ _).bind fun _ => .pure _
        · unfold keptBack
          split
          · split
            · exact .pure _
            · refine KD.bind ?_ fun _ => .pure _
              unfold underTheClaimsCaller
              exact KD.stack.bind fun _ => .pure _
          · exact .pure _
    · exact .uns _
theorem KD.frameOf (env : Env) : KD (frameOf env) := by
  unfold PySem.frameOf
  refine KD.bind ?_ fun l => KD.bind ?_ fun f => ?_
  · unfold frameEnvs
    exact KD.stack.bind fun _ => .pure _
  · unfold frameObject
    split
    · exact .pure _
    · exact (KD.readyFrames _).bind fun _ => .pure _
  · split
    · exact .pure _
    · exact .uns _
theorem KD.entryPlaceOf (f : Addr) (b : Bool) : KD (entryPlaceOf f b) := by
  unfold PySem.entryPlaceOf
  refine KD.stack.bind fun acts => ?_
  split <;> exact .pure _
theorem KD.newRec (ty : String) (vs : Array Value) : KD (newObj (.type ty) (.fields vs)) := by
  have h : KD (newObjAsIs (.type ty) (.fields vs)) := (KD.alloc _).bind fun _ => .pure _
  unfold newObj
  dsimp only
  split
  · exact KD.bind (.uns _) fun _ => h
  · exact h
theorem KD.newEntry (a b c d e : Value) (l : List Value) : KD (EntryCells.newEntry a b c d e l) := by
  unfold EntryCells.newEntry newFields
  exact KD.newRec _ _
theorem KD.noteFrame (e : Value) (env : Env) : KD (noteFrame e env) := by
  unfold PySem.noteFrame
  split
  · refine (KD.field _ _).bind fun head => ?_
    have jp : ∀ f, KD (do
      let a ← PySem.frameOf env
      let pl ← PySem.entryPlaceOf f (head != Value.none)
      let b ← EntryCells.newEntry head a Value.none (rawInt f) Value.none pl
      PySem.setField e 1 b) := fun f => (KD.frameOf env).bind fun _ => (KD.entryPlaceOf _ _).bind fun _ => (KD.newEntry _ _ _ _ _ _).bind fun _ => KD.setField _ _ _
    dsimp only
    split
    · refine (KD.field _ _).bind fun x => ?_
      split
      · exact .pure _
      · exact (KD.setField _ _ _).bind fun _ => jp _
    · exact jp _
  · exact .uns _
theorem KD.leaving (env : Env) (e : Value) : KD (leaving env e) := by
  unfold PySem.leaving
  exact (KD.noteFrame _ _).bind fun _ => KD.setFlight _ _
def DictIs (h : Heap) (e : Addr) (dd : Option Addr) : Prop := ∃ o, h.get? e = some o ∧ o.dict = dd
theorem DictIs.dk {h h' : Heap} {e : Addr} {dd : Option Addr} (x : DictIs h e dd) (k : DK h h') : DictIs h' e dd := by
  obtain ⟨o, e1, e2⟩ := x
  obtain ⟨o', e3, e4⟩ := k e o e1
  exact ⟨o', e3, e4.trans e2⟩
end L2
namespace L2
open PySem PySem.Spec PyProof.Rows
theorem ObjOk.there {P : Program} {w : World} {H : Hp} {h : Heap} {a : Addr} {o : HO} (x : ObjOk P w H h a o) : ∃ u, h.get? a = some u := by
  induction o with
  | lst xs => obtain ⟨z, its, n, r, e⟩ := x; exact ⟨_, e⟩
  | tup xs => obtain ⟨z, its, r, ob, e, c⟩ := x; exact ⟨_, e⟩
  | dK kvs => obtain ⟨z, y, vs, r, ob, es, ep, e, c⟩ := x; exact ⟨_, e⟩
  | dT kvs => obtain ⟨z, y, xs, r, ob, es, ep, e, c⟩ := x; exact ⟨_, e⟩
  | set S n => obtain ⟨ob, es, ep, t, e, c⟩ := x; exact ⟨_, e⟩
  | ins C dx fs => obtain ⟨d, z, ne, e, mA, _⟩ := x; exact ⟨_, e⟩
  | own y => exact x
  | xd fs => obtain ⟨mA, ⟨od, es, ep, e, c⟩, r⟩ := x; exact ⟨_, e⟩
  | rng lo hi => obtain ⟨t, u, v, e⟩ := x; exact ⟨_, e⟩
  | frz ob u ih => obtain ⟨e, q⟩ := x; exact ⟨_, e⟩
  | tbl ps => exact ⟨_, (show h.get? a = some _ from x)⟩
  | met f y => exact ⟨_, (show h.get? a = some _ from x)⟩
  | ext φ => obtain ⟨p, e, st⟩ := x; exact e
theorem Inv.untracked {X : Cx} {pins : List (Addr × Obj)} {σ : St} {H : Hp} {s : Shared} {a : Addr} (I : Inv X pins σ H s) (e : s.heap.get? a = none) : H a = none := by
  cases q : H a with
  | none => rfl
  | some o =>
    obtain ⟨u, z⟩ := (I.hok a o q).there
    rw [e] at z; cases z
def CX1 (P : Program) (w : World) : CXT := fun outer H s E e s' => ∃ (ea C : Addr) (a0 : Value) (H' : Hp) (B : Heap) (dd : Option Addr), e = .ref ea ∧ s'.os = s.os ∧ AllBare s'.gens ∧ Un (frs outer) [] H H' s.heap s'.heap ∧ HOk P w H' B ∧
  Heap.FlyingW B outer ea (.ref C) a0 s'.heap ∧ (∀ b o, s.heap.get? b = some o → H b = none → b ∉ frs outer → B.get? b = some o) ∧ (∀ b o, s.heap.get? b = some o → b ∉ frs outer → ∃ o', B.get? b = some o') ∧ H' ea = none ∧ DictIs s'.heap ea dd ∧ E (.ref C) dd H'
theorem pass1 {P : Program} {w : World} {X : Cx} : Passes (CX1 P w) X E0 := fun _ _ _ _ _ _ _ ⟨_, _, _, _, _, _, _, _, _, _, _, _, _, _, _, _, h⟩ => h.elim
section
variable {P : Program} {w : World} {K : PySem.W.Frag} {mg : Str → Option Value} {base : Heap} {N : List Str} {qual : Str} {scope : Scope} {f : Addr} {cd : Value} {A : Around} {outer : List Env} {s₀ : Shared} {H₀ : Hp} {E : XK}
def Raises (X : Cx) (E : XK) : Prop := ∀ (pins : List (Addr × Obj)) (σ : St) (H : Hp) (s : Shared) (e C : Addr) (args : List Value) (h' : Heap), Inv X pins σ H s → Heap.MadeExcOf s.heap h' e (.ref C) args → E (.ref C) none H → X.xe (.ref e) { s with heap := h' }
theorem raise_core {pins : List (Addr × Obj)} {σ : St} {H : Hp} {s : Shared} {e C : Addr} {oe : Obj} {vs : Array Value} {a0 : Value} (I : Inv (cxOf (CX1 P w) P w K mg base N qual scope f cd A outer s₀ H₀ E) pins σ H s) (he : s.heap.get? e = some oe) (hcl : oe.cls = .ref C) (hda : oe.data = .fields vs) (h1 : vs[1]? = some .none) (h0 : vs[0]? = some a0)
    (hH : H e = none) (hs0 : s₀.heap.get? e = none) (hE : E (.ref C) oe.dict H) : (cxOf (CX1 P w) P w K mg base N qual scope f cd A outer s₀ H₀ E).xe (.ref e) s := by
  have hstk : (cxOf (CX1 P w) P w K mg base N qual scope f cd A outer s₀ H₀ E).stack = envOfC qual scope s₀.heap.objs.size f cd :: outer := rfl
  have fr := I.ok.frames
  have nfr : ∀ b o, s₀.heap.get? b = some o → b ∉ frs outer → b ∉ frs (envOfC qual scope s₀.heap.objs.size f cd :: outer) := fun b o q n hb => by
    rcases List.mem_cons.mp (I.stkSub b hb) with z | z
    · exact absurd (Heap.lt_size q) (by rw [z]; exact Nat.lt_irrefl _)
    · exact n z
  have hin : ∀ env ∈ (envOfC qual scope s₀.heap.objs.size f cd :: outer), ∀ b, env.frame = some b → b ∈ e :: frs (envOfC qual scope s₀.heap.objs.size f cd :: outer) := fun env he b hb => List.mem_cons_of_mem _ (List.mem_filterMap.mpr ⟨env, he, hb⟩)
  have stk : s.heap.FunFrames (PySem.W.hideAll s.heap (e :: frs (envOfC qual scope s₀.heap.objs.size f cd :: outer))) (envOfC qual scope s₀.heap.objs.size f cd :: outer) := PySem.W.funFrames_hide I.stack hin
  have hB : ∀ b o, s.heap.get? b = some o → b ≠ e → b ∉ frs (envOfC qual scope s₀.heap.objs.size f cd :: outer) → (PySem.W.hideAll s.heap (e :: frs (envOfC qual scope s₀.heap.objs.size f cd :: outer))).get? b = some o := fun b o q ne n => PySem.W.hideAll_get _ q fun z => (List.mem_cons.mp z).elim ne n
  have hBe : (PySem.W.hideAll s.heap (e :: frs (envOfC qual scope s₀.heap.objs.size f cd :: outer))).get? e = none := PySem.W.hideAll_none _ List.mem_cons_self
  refine wpAny_mono (wpAny_kd (KD.leaving _ _) (wpAny_leaving_firstW (base := PySem.W.hideAll s.heap (e :: frs (envOfC qual scope s₀.heap.objs.size f cd :: outer))) (Q := fun _ s2 => ∃ h2, s2 = { s with heap := h2 } ∧ Heap.LeftW (PySem.W.hideAll s.heap (e :: frs (envOfC qual scope s₀.heap.objs.size f cd :: outer))) (envOfC qual scope s₀.heap.objs.size f cd :: outer) e oe.cls a0 s.heap h2) fr stk rfl he (fun b o q => PySem.W.of_hideAll _ q) hBe hda h1 h0 fun h2 lw => ⟨h2, rfl, lw⟩)) (fun _ s2 z => ?_) (fun _ _ z => z)
  obtain ⟨⟨h2, rfl, st, ff, tr, ups⟩, dk⟩ := z
  rw [hcl] at tr
  have ne0 : ∀ b o, s₀.heap.get? b = some o → b ≠ e := fun b o q z => by rw [z, hs0] at q; cases q
  have k1 : ∀ b o, s₀.heap.get? b = some o → H₀ b = none → b ∉ frs outer → (PySem.W.hideAll s.heap (e :: frs (envOfC qual scope s₀.heap.objs.size f cd :: outer))).get? b = some o := fun b o q n hb => hB b o (I.base.keep b o q n hb (by simp [cxOf])) (ne0 b o q) (nfr b o q hb)
  have k2 : ∀ b o, s₀.heap.get? b = some o → b ∉ frs outer → ∃ o', (PySem.W.hideAll s.heap (e :: frs (envOfC qual scope s₀.heap.objs.size f cd :: outer))).get? b = some o' := fun b o q hb => by
    obtain ⟨o', q'⟩ := I.base.there b o q (by simp [cxOf])
    exact ⟨o', hB b o' q' (ne0 b o q) (nfr b o q hb)⟩
  have k3 : ∀ b o, s₀.heap.get? b = some o → b ∈ frs outer → ∃ o1, s.heap.get? b = some o1 ∧ (H₀ b = none → ∃ sl, o1 = { o with slots := sl }) ∧ ∃ sl, h2.get? b = some { o1 with slots := sl } := fun b o q hb => by
    obtain ⟨o1, q1⟩ := I.base.there b o q (by simp [cxOf])
    have hm : b ∈ frs (envOfC qual scope s₀.heap.objs.size f cd :: outer) := by
      obtain ⟨env, he, hf⟩ := List.mem_filterMap.mp hb
      exact List.mem_filterMap.mpr ⟨env, List.mem_cons_of_mem _ he, hf⟩
    obtain ⟨_, o2, q2, nd⟩ := stk.mem hm
    rw [q1] at q2; cases q2
    refine ⟨o1, q1, fun n => ?_, ups b o1 q1 nd⟩
    obtain ⟨sl, q3⟩ := I.base.slot b o q n hb (by simp [cxOf])
    rw [q1] at q3
    exact ⟨sl, Option.some.inj q3⟩
  have fo : h2.FunFrames (PySem.W.hideAll s.heap (e :: frs (envOfC qual scope s₀.heap.objs.size f cd :: outer))) outer := ff.2.2
  refine ⟨e, C, a0, H, _, oe.dict, rfl, I.os, I.bare, ⟨fun b o q n hb _ => st b o (k1 b o q n hb), fun b o q n hb _ => ?_, fun b o q n _ => I.base.free b o q n (by simp [cxOf]), fun b o q _ => ?_, I.base.tups, I.base.frzs, I.base.tbls⟩, fun a o q => ?_, ⟨st, hBe, fo, tr⟩, k1, k2, hH, DictIs.dk ⟨oe, he, rfl⟩ dk, hE⟩
  · obtain ⟨o1, _, e1, sl, e2⟩ := k3 b o q hb
    obtain ⟨sl1, rfl⟩ := e1 n
    exact ⟨sl, e2⟩
  · by_cases hb : b ∈ frs outer
    · obtain ⟨o1, _, _, sl, e2⟩ := k3 b o q hb
      exact ⟨_, e2⟩
    · obtain ⟨o', q'⟩ := k2 b o q hb
      exact ⟨o', st b o' q'⟩
  · have nf : ∀ b u, H b = some u → b ∉ frs (envOfC qual scope s₀.heap.objs.size f cd :: outer) := fun b u z hb => by
      have := I.stkFree b hb
      rw [this] at z; cases z
    have nn : ∀ b u, H b = some u → b ≠ e := fun b u z hb => by rw [hb, hH] at z; cases z
    refine (I.hok a o q).stay (fun b u hb z => ?_) (fun _ z => z) fun _ _ z => z
    rcases hb with z1 | z1
    · subst z1; exact hB b u z (nn b o q) (nf b o q)
    · exact hB b u z (nn b _ z1) (nf b _ z1)
theorem raises_cx : Raises (cxOf (CX1 P w) P w K mg base N qual scope f cd A outer s₀ H₀ E) E := by
  intro pins σ H s e C args h' I hx hE
  obtain ⟨t, g1, g2, g3⟩ := hx.there
  have I' : Inv (cxOf (CX1 P w) P w K mg base N qual scope f cd A outer s₀ H₀ E) pins σ H { s with heap := h' } := I.kept (t' := s.toks) hx.keeps
  refine raise_core I' g1 rfl rfl rfl rfl (I.untracked hx.new) ?_ hE
  cases q : s₀.heap.get? e with
  | none => rfl
  | some o =>
    obtain ⟨o', q'⟩ := I.base.there e o q (by simp [cxOf])
    have := hx.new
    rw [q'] at this; cases this
end
end L2
namespace L2
open PySem PySem.Spec PyProof.Rows
structure XCls (K : PySem.W.Frag) (C : Addr) : Prop where
  ex : PySem.W.excIn K C [.type "ValueError", .type "Exception", .type "BaseException", .type "object"] "ValueError.__new__" = true
theorem XCls.obj {K : PySem.W.Frag} {C : Addr} {h : Heap} (c : XCls K C) (X : K.In h) : ∃ bm N nm qn bs hdc sn sub ab col dd k0 k1 k2 k3 k5 mN, h.get? C = some (excClassObj nm qn C N bs bm hdc sn sub ab col dd k0 k1 k2 k3 k5 "ValueError.__new__") ∧ h.Ns N mN ∧ mN "__init__" = none ∧
    OwnTail h [.type "ValueError", .type "Exception", .type "BaseException", .type "object"] bm := by
  have z := c.ex
  unfold PySem.W.excIn at z
  split at z
  · rename_i dd cd sl hlook
    split at z
    · rename_i C2 tl k0 k1 k2 k3 nn k5 hmro hsl
      simp only [Bool.and_eq_true, beq_iff_eq, Bool.not_eq_true'] at z
      obtain ⟨⟨⟨⟨⟨e1, e2⟩, e3⟩, e4⟩, e5⟩, e6⟩ := z
      subst e1 e2
      obtain ⟨nm, bs, mro, ns, qn, hdc, sn, sub, ab, col, del⟩ := cd
      dsimp only at hmro e3 e5 e6
      subst hmro e3
      obtain ⟨lst⟩ := sl
      dsimp only at hsl
      subst hsl
      exact ⟨tl, ns, nm, qn, bs, hdc, sn, sub, ab, col, dd, k0, k1, k2, k3, k5, _, X _ _ hlook, .of_isNs (PySem.W.isNs_of_in X e5), PySem.W.nsMap_none_of_in X e5 e6, PySem.W.tail_of_in X e4⟩
    · cases z
  · cases z
def tRaise (C : Addr) (E : XK) (t : TA) : TS := fun _ σ H => t σ H fun vs H1 => vs.length ≤ sizeLine ∧ E (.ref C) none H1
section
variable {X : Cx} {x : Str} {C : Addr} {E : XK} {e : Expr} {es : List Expr} {t : TA} {np cpos pos : Pos}
theorem ps_raise (hr : Raises X E) (hc : X.calm = true) (c : XCls X.K C) (hg : Gl X x) (hm : X.mg x = some (.ref C)) (ha : PA X (e :: es) t) (hd : (x == ("__debug__" : Str)) = false := by decide)
    (he : starEach (e :: es) X.env = (false, eval e X.env) :: starEach es X.env := by rfl) (hpl : (backTo cpos (starEach es X.env)).any (·.1) = false := by rfl) :
    PS X (.Raise (some (.Call (.Name x np) (e :: es) [] cpos)) none pos) (tRaise C E t) := by
  intro pins s σ H D I h
  obtain ⟨bm, N, nm, qn, bs, hdc, sn, sub, ab, col, dd, k0, k1, k2, k3, k5, mN, g1, g2, g3, g4⟩ := c.obj I.ok.mod.kin
  refine wpAny_Raise_call_subT (C := C) (nm := nm) (q := qn) (N := N) (bs := bs) (bm := bm) (hdct := hdc) (sn := sn) (sub := sub) (ab := ab) (col := col) (dd := dd) (k0 := k0) (k1 := k1) (k2 := k2) (k3 := k3) (k5 := k5)
    PySem.F.excBase_ValueError (mN := mN) (g4.hasType PySem.F.excBase_ValueError.hasBase) (I.ok.hd hc) (by rw [he]; show (false || (backTo cpos (starEach es X.env)).any (·.1)) = false; rw [hpl]; rfl) g3 (ld_glob I hg hm ⟨rfl, ?_⟩ hd)
  have ha' := ha cpos pins s σ H _ I h
  rw [he] at ha' ⊢
  refine Calls.evalArgs_plain (thn ha' fun us s2 ⟨vs, H2, I2, rv, hz, hE⟩ => ⟨rfl, by show us.length ≤ sizeLine; rw [← rv.length]; exact hz, I2.bk _ _ g1, g2.keeps I2.bk, g4.keeps I2.bk, fun h' ea made => ?_⟩)
  exact hr pins σ H2 s2 ea C us h' I2 made hE
theorem PS.nox {st : Stmt} {t : TS} (h : PS X.nox st t) : PS X st t := fun pins s σ H D I hw =>
  wpAny_mono (h pins s σ H D (I.wish _) hw) (fun _ _ q => q.unwish) fun _ _ z => False.elim z
theorem PA.nox {es : List Expr} {t : TA} (h : PA X.nox es t) : PA X es t := fun pos pins s σ H Q I hw =>
  wpAny_mono (h pos pins s σ H Q (I.wish _) hw) (fun _ _ ⟨v, H', I', r, q⟩ => ⟨v, H', I'.unwish, r, q⟩) fun _ _ z => False.elim z
theorem Fun.okX {P : Program} {w : World} {K : PySem.W.Frag} {mg : Str → Option Value} {base : Heap} {x qual : Str} {st : Stmt} {f : Addr} {fd : FuncData} {N ps : List Str} {k : Nat} {sp : Sp} (F : Fun K x qual st f fd) (S : FnScope N ps (defScope st)) (len : ∀ vs H Q E, sp vs H Q E → vs.length = ps.length)
    (hbody : ∀ (cdv : Value) (A : Around) (outer : List Env) (s : Shared) (H : Hp) (vs : List V) (Q : VK) (E : XK), Room k (A.deeper (envOfC qual (defScope st) s.heap.objs.size f cdv)) → sp vs H Q E →
      ∃ t, PSs (cxOf (CX1 P w) P w K mg base N qual (defScope st) f cdv A outer s H E) (defBody st) t ∧ t { nx := fun _ H' => Q .non H', rt := Q } (start N vs) H) : FnOk P w K mg base (CX1 P w) (k + 1) f fd ps sp := by
  obtain ⟨oc, od, kV, doc, pm, an, cdv, ct, osl, rfl, lk, hcd⟩ := F.ex
  exact fn_of lk hcd S len fun A outer s H vs Q E hr hsp => hbody cdv A outer s H vs Q E hr hsp
theorem FnOk.calm {P : Program} {w : World} {K : PySem.W.Frag} {mg : Str → Option Value} {base : Heap} {k : Nat} {f : Addr} {fd : FuncData} {ps : List Str} {sp : Sp} (F : FnOk P w K mg base CX0 k f fd ps sp) : FnOk P w K mg base (CX1 P w) k f fd ps sp :=
  ⟨F.len, fun A outer s H args us vs Q E hr e0 hb hv hs => codeAny_mono (F.run A outer s H args us vs Q E hr e0 hb hv hs) fun r s' h => by
    cases r with
    | error e => exact False.elim h
    | ok fl => cases fl <;> exact h⟩
end
end L2
namespace L2
open PySem PySem.Spec PyProof.Rows
section
variable {prog : Program} {w : World} {A : Around} {E : Value → Shared → Prop} {h : Heap} {g : Array GenState} {d : Drawn} {t : Nat} {os : OsState} {a : Addr} {o : Obj}
  {nm q : Str} {C N : Addr} {bs bm : List Value} {hdct : Bool} {sn : List Str} {sub : List Value} {ab : Bool} {col : Option Bool} {dd : Option Addr} {k0 k1 k2 k3 k5 : Option Value} {newId : String} {K : PySem.W.Frag}
structure XAsk (K : PySem.W.Frag) (C : Addr) : Prop where
  cl : PySem.W.findIn K (.ref C) "__class__" = some (some (.builtin "object.__class__"))
  ga : PySem.W.findIn K (.ref C) "__getattribute__" = some (some (.builtin "BaseException.__getattribute__"))
  gh : PySem.W.findIn K (.ref C) "__getattr__" = some none
end
end L2
namespace L2
open PySem PySem.Spec PyProof.Rows
abbrev TX := St → Hp → VK → XK → Prop
def xCall (sp : Sp) (dvs : List V) (t : TA) : TX := fun σ H Q E => t σ H fun vs H1 => sp (vs ++ dvs) H1 Q E
section
variable {X : Cx} {CX : CXT} {k : Nat} {f C : Addr} {fd : FuncData} {ps : List Str} {sp : Sp} {dvs : List V} {ds : List Value} {x : Str} {p pos : Pos} {e : Expr} {es : List Expr} {t : TA}
def excO (C ea : Addr) : HO := .ext fun h => ∃ o, h.get? ea = some o ∧ o.cls = .ref C
def tTry (te : TX) (C : Addr) (i : Nat) (ts : TS) : TS := fun D σ H => te σ H (fun _ H1 => D.nx σ H1) fun cls _ H1 => cls = .ref C ∧ ∀ ea, H1 ea = none →
  ts { nx := fun σ2 H2 => D.nx (σ2.set i none) H2, rt := D.rt, bk := fun σ2 H2 => D.bk (σ2.set i none) H2, ct := fun σ2 H2 => D.ct (σ2.set i none) H2 } (σ.set i (some (.ref ea))) (upd H1 ea (excO C ea))
def rIsX (K : PySem.W.Frag) : List V → Hp → VK → Prop := fun xs H Q => ∃ ea C c k, xs = [.ref ea, c] ∧ H ea = some (excO C ea) ∧ XCls K C ∧ XAsk K C ∧ ((∃ D, c = .ref D ∧ PySem.W.kitOne K (.ref C) (.ref D) = some k) ∨ (∃ T, c = .ty T ∧ PySem.W.kitOne K (.ref C) (.type T) = some k)) ∧ Q (.bl k) H
def rIsXs (K : PySem.W.Frag) : List V → Hp → VK → Prop := fun xs H Q => ∃ (ea C p : Addr) (cs : List Addr) (k : Bool), xs = [.ref ea, .ref p] ∧ H ea = some (excO C ea) ∧ XCls K C ∧ XAsk K C ∧ H p = some (.tup (cs.map V.ref)) ∧ PySem.W.kitAny K (.ref C) (cs.map Value.ref) = some k ∧ Q (.bl k) H
end
end L2
namespace L2
open PySem PySem.Spec PyProof.Rows
section
variable {X : Cx} {K : PySem.W.Frag}
variable {σ : St} {H : Hp} {Q : VK} {D : Ends} {t : TA} {E : XK} {C ea p : Addr} {te : TX} {i : Nat} {ts : TS} {sp : Sp} {dvs : List V} {c : V}
theorem ap_raise : tRaise C E t D σ H = t σ H fun vs H1 => vs.length ≤ sizeLine ∧ E (.ref C) none H1 := rfl
theorem ap_xCall : xCall sp dvs t σ H Q E = t σ H fun vs H1 => sp (vs ++ dvs) H1 Q E := rfl
theorem ap_try : tTry te C i ts D σ H = te σ H (fun _ H1 => D.nx σ H1) fun cls _ H1 => cls = .ref C ∧ ∀ ea, H1 ea = none →
  ts { nx := fun σ2 H2 => D.nx (σ2.set i none) H2, rt := D.rt, bk := fun σ2 H2 => D.bk (σ2.set i none) H2, ct := fun σ2 H2 => D.ct (σ2.set i none) H2 } (σ.set i (some (.ref ea))) (upd H1 ea (excO C ea)) := rfl
theorem ap_isX : rIsX K [.ref ea, c] H Q = ∃ C k, H ea = some (excO C ea) ∧ XCls K C ∧ XAsk K C ∧ ((∃ D, c = .ref D ∧ PySem.W.kitOne K (.ref C) (.ref D) = some k) ∨ (∃ T, c = .ty T ∧ PySem.W.kitOne K (.ref C) (.type T) = some k)) ∧ Q (.bl k) H := propext
  ⟨fun ⟨ea', C, c', k, e, r⟩ => by cases e; exact ⟨C, k, r⟩, fun ⟨C, k, r⟩ => ⟨ea, C, c, k, rfl, r⟩⟩
theorem ap_isXs : rIsXs K [.ref ea, .ref p] H Q = ∃ (C : Addr) (cs : List Addr) (k : Bool), H ea = some (excO C ea) ∧ XCls K C ∧ XAsk K C ∧ H p = some (.tup (cs.map V.ref)) ∧ PySem.W.kitAny K (.ref C) (cs.map Value.ref) = some k ∧ Q (.bl k) H := propext
  ⟨fun ⟨ea', C, p', cs, k, e, r⟩ => by cases e; exact ⟨C, cs, k, r⟩, fun ⟨C, cs, k, r⟩ => ⟨ea, C, p, cs, k, rfl, r⟩⟩
end
end L2
namespace L2
open PySem PySem.Spec PyProof.Rows
section
variable {κ : Type} [DecidableEq κ]
def valV (kvs : List (κ × V)) (k : κ) : Option V := (kvs.find? fun kv => decide (kv.1 = k)).map (·.2)
def putK (kvs : List (κ × V)) (k : κ) (v : V) : List (κ × V) :=
  if (kvs.any fun kv => decide (kv.1 = k)) = true then kvs.map (fun kv => if kv.1 = k then (kv.1, v) else kv) else kvs ++ [(k, v)]
def dropK (kvs : List (κ × V)) (k : κ) : List (κ × V) := kvs.filter fun kv => decide (kv.1 ≠ k)
theorem valV_pos {p : κ × V} {r : List (κ × V)} {k : κ} (e : p.1 = k) : valV (p :: r) k = some p.2 := by simp [valV, List.find?_cons, e]
theorem valV_neg {p : κ × V} {r : List (κ × V)} {k : κ} (e : ¬ p.1 = k) : valV (p :: r) k = valV r k := by simp [valV, List.find?_cons, e]
theorem valV_any (k : κ) : ∀ kvs : List (κ × V), (kvs.any fun kv => decide (kv.1 = k)) = (valV kvs k).isSome
  | [] => rfl
  | p :: r => by
    rw [List.any_cons]
    by_cases e : p.1 = k
    · simp only [valV_pos e, decide_eq_true e, Bool.true_or, Option.isSome_some]
    · rw [valV_neg e, decide_eq_false e, Bool.false_or]; exact valV_any k r
theorem RelO.isSome_eq {o : Option V} {u : Option Value} (r : RelO o u) : o.isSome = u.isSome := by
  cases o with
  | none => cases u with
    | none => rfl
    | some _ => exact (show False from r).elim
  | some _ => cases u with
    | none => exact (show False from r).elim
    | some _ => rfl
theorem RelO.getD {o : Option V} {u : Option Value} {d : V} {d' : Value} (r : RelO o u) (rd : RelV d d') : RelV (o.getD d) (u.getD d') := by
  cases o with
  | none => cases u with
    | none => exact rd
    | some _ => exact (show False from r).elim
  | some _ => cases u with
    | none => exact (show False from r).elim
    | some _ => exact r
theorem KV.val {kvs : List (κ × V)} {vs : List (κ × Value)} (r : KV kvs vs) (k : κ) : RelO (valV kvs k) (valueAt vs k) := by
  unfold KV at r
  induction r with
  | nil => exact True.intro
  | @cons p q ps qs h t ih =>
    obtain ⟨h1, h2⟩ := h
    by_cases e : p.1 = k
    · have e' : q.1 = k := h1.symm.trans e
      have b : valueAt (q :: qs) k = some q.2 := by simp [valueAt, List.find?_cons, e']
      rw [valV_pos e, b]; exact h2
    · have e' : ¬ q.1 = k := fun z => e (h1.trans z)
      have b : valueAt (q :: qs) k = valueAt qs k := by simp [valueAt, List.find?_cons, e']
      rw [valV_neg e, b]; exact ih
theorem KV.any {kvs : List (κ × V)} {vs : List (κ × Value)} (r : KV kvs vs) (k : κ) : (kvs.any fun kv => decide (kv.1 = k)) = vs.any fun kv => decide (kv.1 = k) := by
  unfold KV at r
  induction r with
  | nil => rfl
  | cons h t ih => rw [List.any_cons, List.any_cons, ih, h.1]
theorem KV.repl {kvs : List (κ × V)} {vs : List (κ × Value)} (r : KV kvs vs) (k : κ) {y : V} {u : Value} (ry : RelV y u) :
    KV (kvs.map fun kv => if kv.1 = k then (kv.1, y) else kv) (vs.map fun kv => if kv.1 = k then (kv.1, u) else kv) := by
  unfold KV at r ⊢
  induction r with
  | nil => exact .nil
  | @cons p q ps qs h t ih =>
    rw [List.map_cons, List.map_cons]
    refine .cons ?_ ih
    obtain ⟨h1, h2⟩ := h
    by_cases e : p.1 = k
    · rw [if_pos e, if_pos (h1.symm.trans e)]; exact ⟨h1, ry⟩
    · rw [if_neg e, if_neg (fun z => e (h1.trans z))]; exact ⟨h1, h2⟩
theorem KV.put {kvs : List (κ × V)} {vs : List (κ × Value)} (r : KV kvs vs) (k : κ) {y : V} {u : Value} (ry : RelV y u) : KV (putK kvs k y) (stored vs k u) := by
  unfold putK stored
  rw [r.any k]
  by_cases e : (vs.any fun kv => decide (kv.1 = k)) = true
  · rw [if_pos e, if_pos e]; exact r.repl k ry
  · rw [if_neg e, if_neg e]; exact Paired.snoc r ⟨rfl, ry⟩
theorem KV.drop {kvs : List (κ × V)} {vs : List (κ × Value)} (r : KV kvs vs) (k : κ) : KV (dropK kvs k) (without vs k) := by
  unfold KV at r ⊢
  unfold dropK without
  induction r with
  | nil => exact .nil
  | @cons p q ps qs h t ih =>
    obtain ⟨h1, h2⟩ := h
    rw [List.filter_cons, List.filter_cons]
    by_cases e : p.1 = k
    · have a : ¬ decide (p.1 ≠ k) = true := by simp [e]
      have b : ¬ decide (q.1 ≠ k) = true := by simp [h1.symm.trans e]
      rw [if_neg a, if_neg b]; exact ih
    · have e' : ¬ q.1 = k := fun z => e (h1.trans z)
      have a : decide (p.1 ≠ k) = true := by simp [e]
      have b : decide (q.1 ≠ k) = true := by simp [e']
      rw [if_pos a, if_pos b]; exact .cons ⟨h1, h2⟩ ih
theorem KV.length {kvs : List (κ × V)} {vs : List (κ × Value)} (r : KV kvs vs) : kvs.length = vs.length := Paired.length r
end
abbrev KT (H : Hp) : List (List Key × V) → List (List Key × Addr × Value) → Prop := Paired fun p q => p.1 = q.1 ∧ H q.2.1 = some (.tup (p.1.map kV)) ∧ RelV p.2 q.2.2
theorem KT.val {H : Hp} {kvs : List (List Key × V)} {xs : List (List Key × Addr × Value)} (r : KT H kvs xs) (k : List Key) : RelO (valV kvs k) ((atKey xs k).map (·.2)) := by
  induction r with
  | nil => exact True.intro
  | @cons p q ps qs h t ih =>
    obtain ⟨h1, _, h2⟩ := h
    by_cases e : p.1 = k
    · have e' : q.1 = k := h1.symm.trans e
      have b : atKey (q :: qs) k = some q.2 := by simp [atKey, List.find?_cons, e']
      rw [valV_pos e, b]; exact h2
    · have e' : ¬ q.1 = k := fun z => e (h1.trans z)
      have b : atKey (q :: qs) k = atKey qs k := by simp [atKey, List.find?_cons, e']
      rw [valV_neg e, b]; exact ih
theorem KT.repl {H : Hp} {kvs : List (List Key × V)} {xs : List (List Key × Addr × Value)} (r : KT H kvs xs) (k : List Key) {y : V} {u : Value} (ry : RelV y u) :
    KT H (kvs.map fun kv => if kv.1 = k then (kv.1, y) else kv) (xs.map (putAt k u)) := by
  induction r with
  | nil => exact .nil
  | @cons p q ps qs h t ih =>
    rw [List.map_cons, List.map_cons]
    refine .cons ?_ ih
    obtain ⟨h1, h2, h3⟩ := h
    unfold putAt
    by_cases e : p.1 = k
    · rw [if_pos e, if_pos (h1.symm.trans e)]; exact ⟨h1, h2, ry⟩
    · rw [if_neg e, if_neg (fun z => e (h1.trans z))]; exact ⟨h1, h2, h3⟩
theorem KT.put {H : Hp} {kvs : List (List Key × V)} {xs : List (List Key × Addr × Value)} (r : KT H kvs xs) (k : List Key) {b : Addr} {y : V} {u : Value} (hb : H b = some (.tup (k.map kV))) (ry : RelV y u) :
    KT H (putK kvs k y) (storedH xs k b u) := by
  have e : (kvs.any fun kv => decide (kv.1 = k)) = (atKey xs k).isSome := by
    rw [valV_any, (r.val k).isSome_eq, Option.isSome_map]
  unfold putK storedH
  rw [e]
  by_cases q : (atKey xs k).isSome = true
  · rw [if_pos q, if_pos q]; exact r.repl k ry
  · rw [if_neg q, if_neg q]; exact Paired.snoc r ⟨rfl, hb, ry⟩
theorem KT.keeps {H H' : Hp} {kvs : List (List Key × V)} {xs : List (List Key × Addr × Value)} (r : KT H kvs xs) (ht : ∀ b ys, H b = some (.tup ys) → H' b = some (.tup ys)) : KT H' kvs xs :=
  Paired.mapP r fun _ _ z => ⟨z.1, ht _ _ z.2.1, z.2.2⟩
section
variable {P : Program} {w : World} {H : Hp} {h : Heap} {a : Addr}
end
def DGet (H : Hp) (a : Addr) (y : V) (r : Option V) : Prop :=
  (∃ kvs k, Rd H a (.dK kvs) ∧ y = kV k ∧ r = valV kvs k) ∨ ∃ kvs k b, Rd H a (.dT kvs) ∧ y = .ref b ∧ H b = some (.tup (k.map kV)) ∧ r = valV kvs k
def DPut (H : Hp) (a : Addr) (y v : V) (H' : Hp) : Prop :=
  (∃ kvs k, H a = some (.dK kvs) ∧ y = kV k ∧ kvs.length < sizeLine ∧ H' = upd H a (.dK (putK kvs k v))) ∨
  ∃ kvs k b, H a = some (.dT kvs) ∧ y = .ref b ∧ H b = some (.tup (k.map kV)) ∧ kvs.length < sizeLine ∧ H' = upd H a (.dT (putK kvs k v))
theorem DGet.k {H : Hp} {a : Addr} {kvs : List (Key × V)} {k : Key} (e : H a = some (.dK kvs)) : DGet H a (kV k) (valV kvs k) := .inl ⟨kvs, k, .inl e, rfl, rfl⟩
theorem DGet.t {H : Hp} {a b : Addr} {kvs : List (List Key × V)} {k : List Key} (e : H a = some (.dT kvs)) (eb : H b = some (.tup (k.map kV))) : DGet H a (.ref b) (valV kvs k) := .inr ⟨kvs, k, b, .inl e, rfl, eb, rfl⟩
theorem DPut.k {H : Hp} {a : Addr} {kvs : List (Key × V)} {k : Key} {v : V} (e : H a = some (.dK kvs)) (hl : kvs.length < sizeLine) : DPut H a (kV k) v (upd H a (.dK (putK kvs k v))) := .inl ⟨kvs, k, e, rfl, hl, rfl⟩
theorem DPut.t {H : Hp} {a b : Addr} {kvs : List (List Key × V)} {k : List Key} {v : V} (e : H a = some (.dT kvs)) (eb : H b = some (.tup (k.map kV))) (hl : kvs.length < sizeLine) :
    DPut H a (.ref b) v (upd H a (.dT (putK kvs k v))) := .inr ⟨kvs, k, b, e, rfl, eb, hl, rfl⟩
section
variable {X : Cx} {pins : List (Addr × Obj)} {σ : St} {H : Hp} {s : Shared} {a : Addr} {y v : V} {u r : Value} {o : Option V} {A : Around} {E : Value → Shared → Prop}
theorem Inv.big (I : Inv X pins σ H s) : sysModules < s.heap.objs.size := by
  have h : mainGlobals < s.heap.objs.size := (I.mod.glob.keeps I.bk).lt
  exact Nat.lt_trans (by decide) h
end
section
variable {X : Cx} {pins : List (Addr × Obj)} {σ : St} {H : Hp} {s : Shared} {a : Addr} {kvs : List (Key × V)} {k : Key} {u : Value} {A : Around} {E : Value → Shared → Prop}
end
def tDGet (td ty : TE) : TE := fun σ H Q => td σ H fun x H1 => ty σ H1 fun y H2 => ∃ a v, x = .ref a ∧ DGet H2 a y (some v) ∧ Q v H2
def sDPut (td ty tv : TE) : TS := fun D σ H => tv σ H fun v H1 => td σ H1 fun x H2 => ty σ H2 fun y H3 => ∃ a H4, x = .ref a ∧ DPut H3 a y v H4 ∧ D.nx σ H4
section
variable {X : Cx} {o i e value : Expr} {pos pos' tpos : Pos} {td ty tv : TE}
end
def tDNewK : TE := fun _ H Q => ∀ p, H p = none → Q (.ref p) (upd H p (.dK []))
section
variable {X : Cx} {pos : Pos}
end
structure M1 (X : Cx) (o : Expr) (m : Str) (apos : Pos) (e : Expr) (cpos : Pos) : Prop where
  base : attributeBase o m X.env (eval o X.env) = eval o X.env
  few : ((backTo cpos (starEach [e] X.env)).all (fun x => !x.1) && (backToKw cpos (keywordEach [] X.env)).all (fun x => x.1.isSome)
    && decide (([e] : List Expr).length + ([] : List Keyword).length + (if ([] : List Keyword).isEmpty then 0 else 1) < 30)) = true
  line : (apos.endLine == cpos.line) = true
  trees : backTo cpos (starEach [e] X.env) = [(false, eval e X.env)]
structure M2 (X : Cx) (o : Expr) (m : Str) (apos : Pos) (e f : Expr) (cpos : Pos) : Prop where
  base : attributeBase o m X.env (eval o X.env) = eval o X.env
  few : ((backTo cpos (starEach [e, f] X.env)).all (fun x => !x.1) && (backToKw cpos (keywordEach [] X.env)).all (fun x => x.1.isSome)
    && decide (([e, f] : List Expr).length + ([] : List Keyword).length + (if ([] : List Keyword).isEmpty then 0 else 1) < 30)) = true
  line : (apos.endLine == cpos.line) = true
  trees : backTo cpos (starEach [e, f] X.env) = [(false, eval e X.env), (false, eval f X.env)]
def IsD (H : Hp) (a : Addr) : Prop := (∃ kvs, Rd H a (.dK kvs)) ∨ ∃ kvs, Rd H a (.dT kvs)
section
variable {X : Cx} {pins : List (Addr × Obj)} {σ : St} {H : Hp} {s : Shared} {a : Addr} {y d : V} {u r : Value} {o : Option V} {A : Around} {E : Value → Shared → Prop}
end
def tDGet1 (td ty : TE) : TE := fun σ H Q => td σ H fun x H1 => ∃ a, x = .ref a ∧ IsD H1 a ∧ ty σ H1 fun y H2 => ∃ o, DGet H2 a y o ∧ Q (o.getD .non) H2
def tDGet2 (td ty tx : TE) : TE := fun σ H Q => td σ H fun x H1 => ∃ a, x = .ref a ∧ IsD H1 a ∧ ty σ H1 fun y H2 => tx σ H2 fun z H3 => ∃ o, DGet H3 a y o ∧ Q (o.getD z) H3
def tDPop1 (td ty : TE) : TE := fun σ H Q => td σ H fun x H1 => ∃ a, x = .ref a ∧ IsD H1 a ∧ ty σ H1 fun y H2 => ∃ kvs k v, H2 a = some (.dK kvs) ∧ y = kV k ∧ valV kvs k = some v ∧ Q v (upd H2 a (.dK (dropK kvs k)))
section
variable {X : Cx} {o e f : Expr} {apos cpos : Pos} {td ty tx : TE}
end
section
variable {X : Cx} {pins : List (Addr × Obj)} {σ : St} {H : Hp} {s : Shared} {a : Addr} {kvs : List (Key × V)} {A : Around} {E : Value → Shared → Prop}
end
section
variable {X : Cx} {pins : List (Addr × Obj)} {σ : St} {H : Hp} {s : Shared} {a : Addr} {y : V} {u : Value} {A : Around} {E : Value → Shared → Prop}
end
end L2
namespace L2
open PySem PySem.Spec PyProof.Rows
section
variable {X : Cx}
end
section
variable {κ : Type} [DecidableEq κ]
end
end L2
namespace L2
open PySem PySem.Spec PyProof.Rows
structure FunD (K : PySem.W.Frag) (x qual : Str) (st : Stmt) (f : Addr) (fd : FuncData) (dvs : List V) : Prop where
  ex : ∃ (oc : Value) (od : Option Addr) (Td : Addr) (kV doc pm : Value) (an : Option Addr) (cdv ct : Value) (osl : Array (Option Value)) (ot : Obj) (its : List Value) (nt : Nat),
    fd = PySem.W.fnOf x qual (defArgs st) (defBody st) (defScope st) (.ref Td) kV doc pm an cdv ct ∧ K.lookup f = some ⟨oc, od, .func fd, osl⟩ ∧ PySem.W.codeIn K cdv qual = true ∧ K.lookup Td = some ot ∧ ot.data = .seq its.toArray nt ∧ Vals dvs its
  kp : PySem.W.keepIn K (.ref f) = true
section
variable {P : Program} {w : World} {K : PySem.W.Frag} {mg : Str → Option Value} {base : Heap}
theorem FunD.ok {x qual : Str} {st : Stmt} {f : Addr} {fd : FuncData} {N ps : List Str} {k : Nat} {sp : Sp} {dvs : List V} (F : FunD K x qual st f fd dvs) (S : FnScope N ps (defScope st)) (len : ∀ vs H Q E, sp vs H Q E → vs.length = ps.length)
    (hbody : ∀ (cdv : Value) (A : Around) (outer : List Env) (s : Shared) (H : Hp) (vs : List V) (Q : VK) (E : XK), Room k (A.deeper (envOfC qual (defScope st) s.heap.objs.size f cdv)) → sp vs H Q E →
      ∃ t, PSs (cxOf CX0 P w K mg base N qual (defScope st) f cdv A outer s H E).nox (defBody st) t ∧ t { nx := fun _ H' => Q .non H', rt := Q } (start N vs) H) : FnOk P w K mg base CX0 (k + 1) f fd ps sp := by
  obtain ⟨oc, od, Td, kV, doc, pm, an, cdv, ct, osl, ot, its, nt, rfl, lk, hcd, _⟩ := F.ex
  refine fn_of lk hcd S len fun A outer s H vs Q E hr hsp => ?_
  obtain ⟨t, h, q⟩ := hbody cdv A outer s H vs Q E hr hsp
  exact ⟨t, h.nox, q⟩
theorem FunD.okX {x qual : Str} {st : Stmt} {f : Addr} {fd : FuncData} {N ps : List Str} {k : Nat} {sp : Sp} {dvs : List V} (F : FunD K x qual st f fd dvs) (S : FnScope N ps (defScope st)) (len : ∀ vs H Q E, sp vs H Q E → vs.length = ps.length)
    (hbody : ∀ (cdv : Value) (A : Around) (outer : List Env) (s : Shared) (H : Hp) (vs : List V) (Q : VK) (E : XK), Room k (A.deeper (envOfC qual (defScope st) s.heap.objs.size f cdv)) → sp vs H Q E →
      ∃ t, PSs (cxOf (CX1 P w) P w K mg base N qual (defScope st) f cdv A outer s H E) (defBody st) t ∧ t { nx := fun _ H' => Q .non H', rt := Q } (start N vs) H) : FnOk P w K mg base (CX1 P w) (k + 1) f fd ps sp := by
  obtain ⟨oc, od, Td, kV, doc, pm, an, cdv, ct, osl, ot, its, nt, rfl, lk, hcd, _⟩ := F.ex
  exact fn_of lk hcd S len fun A outer s H vs Q E hr hsp => hbody cdv A outer s H vs Q E hr hsp
theorem FunD.binds {x qual : Str} {st : Stmt} {f : Addr} {fd : FuncData} {ps : List Str} {dvs : List V} (F : FunD K x qual st f fd dvs) (n : Nat)
    (h : ∀ (Td : Addr) (kV doc pm : Value) (an : Option Addr) (cdv ct : Value) (its us : List Value), its.length = dvs.length → (us ++ its.drop n).length = ps.length →
      ∃ k, bindArgs (PySem.W.fnOf x qual (defArgs st) (defBody st) (defScope st) (.ref Td) kV doc pm an cdv ct) ⟨us, []⟩ = (seqItems? (.ref Td) >>= k) ∧ k (some its.toArray) = pure (ps.zip (us ++ its.drop n))) : ∃ ds, Binds K fd ps ds ∧ Vals (dvs.drop n) ds := by
  obtain ⟨oc, od, Td, kV, doc, pm, an, cdv, ct, osl, ot, its, nt, rfl, lk, hcd, lt, hdt, hv⟩ := F.ex
  refine ⟨its.drop n, fun s us X hl => ?_, hv.drop n⟩
  obtain ⟨k, e1, e2⟩ := h Td kV doc pm an cdv ct its us hv.length.symm hl
  exact PySem.W.binds_K X rfl lt hdt e1 e2
end
structure ClsFn (K : PySem.W.Frag) (C : Addr) (m : Str) (f : Addr) : Prop where
  ga : PySem.W.specialIn K (.ref C) "__getattribute__" = some (some (.builtin "type.__getattribute__"))
  rd : PySem.W.readsIn K C (.type "type") = true
  fi : PySem.W.findCls K (.ref C) (.type "type") m = some (.val (.ref f))
section
variable {X : Cx} {CX : CXT} {k : Nat} {f C : Addr} {fd : FuncData} {ps ks : List Str} {sp : Sp} {dvs : List V} {ds : List Value} {E : XK} {x m : Str} {p pos apos : Pos} {e o : Expr} {es : List Expr} {ta : TE} {t tk : TA} {kws : List Keyword}
inductive MTab (X : Cx) (CX : CXT) (m : Str) : List (Addr × Sp) → Prop
  | nil : MTab X CX m []
  | cons {C f : Addr} {fd : FuncData} {ps : List Str} {sp : Sp} {k : Nat} {r : List (Addr × Sp)} (c : Cls X.K C) (hm : Meth X.K C m f) (F : FnOk X.prog X.w X.K X.mg X.base CX k f fd ps sp) (hr : Room k X.A) (hb : Binds X.K fd ps []) (t : MTab X CX m r) : MTab X CX m ((C, sp) :: r)
theorem MTab.get {tab : List (Addr × Sp)} (T : MTab X CX m tab) {C : Addr} {sp : Sp} (h : (C, sp) ∈ tab) : ∃ f fd ps k, Cls X.K C ∧ Meth X.K C m f ∧ FnOk X.prog X.w X.K X.mg X.base CX k f fd ps sp ∧ Room k X.A ∧ Binds X.K fd ps [] := by
  induction T with
  | nil => cases h
  | cons c hm F hr hb t ih =>
    rcases List.mem_cons.mp h with z | z
    · cases z
      exact ⟨_, _, _, _, c, hm, F, hr, hb⟩
    · exact ih z
def tMethD (tab : List (Addr × Sp)) (m : Str) (E : XK) (ta : TE) (t : TA) : TE := fun σ H Q => ta σ H fun x H1 => ∃ a C dx fs sp, x = .ref a ∧ H1 a = some (.ins C dx fs) ∧ (C, sp) ∈ tab ∧ fs.lookup m = none ∧ t σ H1 fun vs H2 => sp (x :: vs) H2 Q E
theorem pe_methD {pl : Sem Bool} {tab : List (Addr × Sp)} (he : PE X o ta) (T : MTab X CX m tab) (hx : Passes CX X E) (ha : PA X (e :: es) t)
    (hst : starEach (e :: es) X.env = (false, eval e X.env) :: starEach es X.env := by rfl) (hpl : (backTo pos (starEach es X.env)).any (·.1) = false := by rfl)
    (ht : eval (.Call (.Attribute o m apos) (e :: es) [] pos) X.env = (do
      let ov ← eval o X.env
      standAt apos.atName
      let (f, first) ← holding [ov] (getMethod ov m pl)
      callWith pos f first (backTo pos (starEach (e :: es) X.env)) (backToKw pos (keywordEach [] X.env))) := by rfl) :
    PE X (.Call (.Attribute o m apos) (e :: es) [] pos) (tMethD tab m E ta t) := by
  intro pins s σ H Q I h
  refine PySem.W.methodCall_KW (pl := pl) (thn (he pins s σ H _ I h) fun u s1 ⟨y, H1, I1, rx, a, C, dx, fs, sp, ex, ea, hmem, l, q⟩ => ?_) ht
  subst ex
  obtain rfl : u = Value.ref a := rx
  obtain ⟨f, fd, ps, k, c, hm, F, hr, hb⟩ := T.get hmem
  refine getmeth_ok I1 ea c hm l ?_
  refine PySem.W.callWith_K (first := [.ref a]) (h₀ := X.base) I.ok.mod.kin hm.kp (thn (ha pos pins s1 σ H1 _ I1 q) fun us s2 ⟨vs, H2, I2, r, q2⟩ => ⟨I2.kIn, ?_⟩) hst hpl
  exact run_fn (us := .ref a :: us) (vs := .ref a :: vs) (dvs := []) (ds := []) F hr hb .nil hx I2 (.cons rfl r) (by rw [List.append_nil]; exact q2)
theorem pe_methD0 {pl : Sem Bool} {tab : List (Addr × Sp)} (he : PE X o ta) (T : MTab X CX m tab) (hx : Passes CX X E)
    (ht : eval (.Call (.Attribute o m apos) [] [] pos) X.env = (do
      let ov ← eval o X.env
      standAt apos.atName
      let (f, first) ← holding [ov] (getMethod ov m pl)
      callWith pos f first (backTo pos (starEach [] X.env)) (backToKw pos (keywordEach [] X.env))) := by rfl) :
    PE X (.Call (.Attribute o m apos) [] [] pos) (tMethD tab m E ta tNil) := by
  intro pins s σ H Q I h
  refine PySem.W.methodCall_KW (pl := pl) (thn (he pins s σ H _ I h) fun u s1 ⟨y, H1, I1, rx, a, C, dx, fs, sp, ex, ea, hmem, l, q⟩ => ?_) ht
  subst ex
  obtain rfl : u = Value.ref a := rx
  obtain ⟨f, fd, ps, k, c, hm, F, hr, hb⟩ := T.get hmem
  refine getmeth_ok I1 ea c hm l ?_
  exact PySem.W.callWith_K0 (first := [.ref a]) I1.kIn hm.kp (run_fn (us := [.ref a]) (vs := [.ref a]) (dvs := []) (ds := []) F hr hb .nil hx I1 (.cons rfl .nil) q)
def tMakeK (C : Addr) (sp : Sp) (gV : List V → List V → List V) (E : XK) (t tk : TA) : TE := fun σ H Q => t σ H fun vs H1 => tk σ H1 fun zs H2 => ∀ y dx, H2 y = none → H2 dx = none → dx ≠ y →
  sp (gV (.ref y :: vs) zs) (upd (upd H2 dx (.own y)) y (.ins C dx [])) (fun v H3 => v = .non ∧ Q (.ref y) H3) E
variable {g : List Value → List Value → List Value} {gV : List V → List V → List V}
end
theorem putF_new (f : Str) (v : V) : ∀ {fs : List (Str × V)}, (fs.map (·.1)).contains f = false → putF f v fs = fs ++ [(f, v)]
  | [], _ => rfl
  | (g, x) :: r, h => by
    rw [List.map_cons, List.contains_cons] at h
    have h1 : ¬ g = f := fun e => by rw [e] at h; simp at h
    have h2 : (r.map (·.1)).contains f = false := (Bool.or_eq_false_iff.mp h).2
    show (if g = f then (g, v) :: r else (g, x) :: putF f v r) = _
    rw [if_neg h1, putF_new f v h2]
    rfl
structure InsTy (K : PySem.W.Frag) (C : Addr) : Prop where
  cl : Cls K C
  ha : PySem.W.findIn K (.ref C) "__class__" = some (some (.builtin "object.__class__"))
  hn : PySem.W.specialIn K (.builtin "object.__class__") "__get__" = some (some (.builtin "getset_descriptor.__get__"))
  htk : PySem.W.takesIn K (.builtin "object.__class__") = some true
  hm : PySem.W.mroIn K C (.type "object") = some true
theorem InsTy.of {K : PySem.W.Frag} {C a dx : Addr} {H : Hp} {fs : List (Str × V)} (z : InsTy K C) (h : H a = some (.ins C dx fs)) : TyOf K H (.ref a) (.ref C) := .ins h z.cl z.ha z.hn z.htk z.hm
end L2
namespace L2
open PySem PySem.Spec PyProof.Rows
def signs (x : Str) : List V := x.cps.toList.map fun c => V.str ⟨#[c]⟩
def Itst (x : Str) : It := ⟨fun i _ => i < x.cps.size, fun i H v H' => H' = H ∧ (signs x)[i]? = some v, fun i _ => x.cps.size ≤ i⟩
section
variable {X : Cx} {K : PySem.W.Frag} {tg : Expr}
def iStr (tl : TE) : TI := fun σ H R => tl σ H fun x H1 => ∃ z, x = .str z ∧ R (Itst z) H1
variable {σ : St} {H : Hp} {R : It → Hp → Prop} {tl : TE} {cap : List (Option Nat)} {g : TG} {tt : TT} {te : TE} {Q : VK} {x : Str}
theorem ap_iStr : iStr tl σ H R = tl σ H fun x H1 => ∃ z, x = .str z ∧ R (Itst z) H1 := rfl
theorem CompP.str (Sσ : St → Prop) (p : V → Bool) (F : V → V) (h0 : Sσ (capSt σ cap)) (hz : x.cps.size ≤ sizeLine)
    (hs : ∀ y ∈ signs x, ∀ (σ : St) (H5 : Hp) (R1 : St → VK) (R2 : St → Hp → Prop), Sσ σ → Same H H5 → (p y = true → ∀ σ4 H6, Sσ σ4 → Same H5 H6 → R1 σ4 (F y) H6) → (p y = false → ∀ σ4 H6, Sσ σ4 → Same H5 H6 → R2 σ4 H6) →
      g y σ H5 fun σ4 H4 => tt σ4 H4 fun b H5 => if b = true then te σ4 H5 (R1 σ4) else R2 σ4 H5)
    (k : ∀ D H', H D = Option.none → Same H H' → H' D = some (.lst (((signs x).filter p).map F)) → Q (.ref D) H') : CompP cap (Itst x) g tt te σ H Q := fun D hD => by
  have hl : (signs x).length = x.cps.size := by simp [signs]
  refine comp_step (xs := signs x) (Itst x) Sσ p F hD h0 (by omega) (fun i y H' hy sm => ?_) (fun H' sm => ?_) hs fun H' s e => k D H' hD s e
  · have hi : i < (signs x).length := (List.getElem?_eq_some_iff.mp hy).1
    exact ⟨by show i < x.cps.size; omega, fun z H2 hz => ⟨Option.some.inj (hz.2.symm.trans hy), hz.1⟩⟩
  · show x.cps.size ≤ _
    omega
def rLeS : R2 := fun x y H Q => ∃ i j, x = .str i ∧ y = .str j ∧ Q (.bl (!decide (j.cps.toList < i.cps.toList))) H
def rInD (neg : Bool) : R2 := fun y x H Q => ∃ a o, x = .ref a ∧ DGet H a y o ∧ Q (.bl (if neg then !o.isSome else o.isSome)) H
def rDictOf : List V → Hp → VK → Prop := fun xs H Q => ∃ a kvs, xs = [.ref a] ∧ Rd H a (.dK kvs) ∧ ∀ p, H p = none → Q (.ref p) (upd H p (.dK kvs))
theorem ps_fldK {o value : Expr} {f : Str} {ta tv : TE} {pos pos' : Pos} (ha : PE X o ta) (hv : PE X value tv) (hs : swapsWith value (some (.Attribute o f pos')) pos.line X.env = pure false) (hK : X.K = K := by rfl) : PS X (.Assign [.Attribute o f pos'] value pos) (sFld K ta tv f) := hK ▸ ps_fld ha hv hs
variable {ta tv ty td tx : TE} {f : Str} {D : Ends} {C : Addr} {tab : List (Addr × Sp)} {m : Str} {E : XK} {t tk : TA} {sp : Sp} {dvs : List V} {gV : List V → List V → List V}
theorem ap_fldK : tFld K ta f σ H Q = ta σ H fun x H1 => ∃ a C dx fs v, x = .ref a ∧ H1 a = some (.ins C dx fs) ∧ Cls K C ∧ NoAttr K C f ∧ fs.lookup f = some v ∧ Q v H1 := rfl
theorem ap_sFld : sFld K ta tv f D σ H = tv σ H fun y H1 => ta σ H1 fun x H2 => ∃ a C dx fs, x = .ref a ∧ H2 a = some (.ins C dx fs) ∧ Cls K C ∧ NoAttr K C f ∧ fs.length < 1000 ∧ D.nx σ (upd H2 a (.ins C dx (putF f y fs))) := rfl
theorem ap_methD : tMethD tab m E ta t σ H Q = ta σ H fun x H1 => ∃ a C dx fs sp, x = .ref a ∧ H1 a = some (.ins C dx fs) ∧ (C, sp) ∈ tab ∧ fs.lookup m = none ∧ t σ H1 fun vs H2 => sp (x :: vs) H2 Q E := rfl
theorem ap_make : tMake C sp dvs E t σ H Q = t σ H fun vs H1 => ∀ x dx, H1 x = none → H1 dx = none → dx ≠ x → sp (.ref x :: (vs ++ dvs)) (upd (upd H1 dx (.own x)) x (.ins C dx [])) (fun v H2 => v = .non ∧ Q (.ref x) H2) E := rfl
theorem ap_makeK : tMakeK C sp gV E t tk σ H Q = t σ H fun vs H1 => tk σ H1 fun zs H2 => ∀ y dx, H2 y = none → H2 dx = none → dx ≠ y → sp (gV (.ref y :: vs) zs) (upd (upd H2 dx (.own y)) y (.ins C dx [])) (fun v H3 => v = .non ∧ Q (.ref y) H3) E := rfl
theorem ap_dget2 : tDGet2 td ty tx σ H Q = td σ H fun x H1 => ∃ a, x = .ref a ∧ IsD H1 a ∧ ty σ H1 fun y H2 => tx σ H2 fun z H3 => ∃ o, DGet H3 a y o ∧ Q (o.getD z) H3 := rfl
theorem ap_dget : tDGet td ty σ H Q = td σ H fun x H1 => ty σ H1 fun y H2 => ∃ a v, x = .ref a ∧ DGet H2 a y (some v) ∧ Q v H2 := rfl
theorem ap_dput : sDPut td ty tv D σ H = tv σ H fun v H1 => td σ H1 fun x H2 => ty σ H2 fun y H3 => ∃ a H4, x = .ref a ∧ DPut H3 a y v H4 ∧ D.nx σ H4 := rfl
theorem ap_dnewK : tDNewK σ H Q = ∀ p, H p = none → Q (.ref p) (upd H p (.dK [])) := rfl
theorem ap_dpop1 : tDPop1 td ty σ H Q = td σ H fun x H1 => ∃ a, x = .ref a ∧ IsD H1 a ∧ ty σ H1 fun y H2 => ∃ kvs k v, H2 a = some (.dK kvs) ∧ y = kV k ∧ valV kvs k = some v ∧ Q v (upd H2 a (.dK (dropK kvs k))) := rfl
theorem ap_dictOf {p : Addr} : rDictOf [.ref p] H Q = ∃ kvs, Rd H p (.dK kvs) ∧ ∀ q, H q = none → Q (.ref q) (upd H q (.dK kvs)) := by simp [rDictOf]
theorem ap_inD {neg : Bool} {x y : V} : rInD neg y x H Q = ∃ a o, x = .ref a ∧ DGet H a y o ∧ Q (.bl (if neg then !o.isSome else o.isSome)) H := rfl
theorem ap_leS {i j : Str} : rLeS (.str i) (.str j) H Q = Q (.bl (!decide (j.cps.toList < i.cps.toList))) H := propext ⟨fun ⟨i', j', e1, e2, q⟩ => by cases e1; cases e2; exact q, fun q => ⟨i, j, rfl, rfl, q⟩⟩
theorem ap_rIsC {y : V} : rIsC K [y, .ref C] H Q = ∃ t k, TyOf K H y t ∧ PySem.W.kitOne K t (.ref C) = some k ∧ Q (.bl k) H := propext ⟨fun ⟨x', C', t, k, e, r⟩ => by cases e; exact ⟨t, k, r⟩, fun ⟨t, k, r⟩ => ⟨y, C, t, k, rfl, r⟩⟩
theorem ap_ixT {x y : V} : rIxT K x y H Q = ∃ p xs i v, x = .ref p ∧ y = .int i ∧ SqT K H p xs ∧ atI xs i = some v ∧ Q v H := rfl
theorem ap_ixS {x y : V} : rIxS x y H Q = ∃ z i c, x = .str z ∧ y = .int i ∧ z.length ≤ sizeLine ∧ atI z.cps.toList i = some c ∧ Q (.str ⟨#[c]⟩) H := rfl
theorem ap_slT {x : V} {lo hi : Option Int} : rSlT K x lo hi H Q = ∃ a xs, x = .ref a ∧ SqT K H a xs ∧ ¬ (HT.sIx xs.length 0 lo = 0 ∧ HT.sIx xs.length xs.length hi = xs.length) ∧ ∀ p, H p = none → Q (.ref p) (upd H p (.tup (cutV xs lo hi))) := rfl
theorem ap_rTupOf {p : Addr} : rTupOf K [.ref p] H Q = ∃ ys, ((SqL K H p ys ∧ ∀ l, H l = none → Q (.ref l) (upd H l (.tup ys))) ∨ (SqT K H p ys ∧ Q (.ref p) H)) := by simp [rTupOf]
theorem ap_rIn {neg : Bool} {x y : V} : rIn K neg x y H Q = ∃ p xs, y = .ref p ∧ (SqL K H p xs ∨ SqT K H p xs) ∧ flatV x = true ∧ xs.all flatV = true ∧ Q (.bl (if neg then !inV x xs else inV x xs)) H := rfl
theorem ap_lenS {z : Str} : (fun (xs : List V) (H : Hp) (Q : VK) => ∃ z, xs = [V.str z] ∧ z.length ≤ sizeLine ∧ Q (.int z.length) H) [.str z] H Q = (z.length ≤ sizeLine ∧ Q (.int z.length) H) := propext ⟨fun ⟨z', e, r⟩ => by cases e; exact r, fun r => ⟨z, rfl, r⟩⟩
end
end L2
namespace L2
open PySem PySem.W PySem.Spec PyProof.Rows
section
variable {α β : Type} {lt : Nat → Nat → Bool} {n : Nat}
def Kok (lt : Nat → Nat → Bool) (n : Nat) (R : α → Prop) : KasT α → Prop
  | .ret a => R a
  | .ask i j k => i < n ∧ j < n ∧ Kok lt n R (k (lt i j))
theorem Kok.bind {R : α → Prop} {S : β → Prop} {f : α → KasT β} : ∀ {t : KasT α}, Kok lt n R t → (∀ a, R a → Kok lt n S (f a)) → Kok lt n S (t.bind f)
  | .ret a, h, k => k a h
  | .ask i j q, h, k => ⟨h.1, h.2.1, Kok.bind (t := q (lt i j)) h.2.2 k⟩
theorem Kok.wp {R : α → Prop} {cmp : Nat → Nat → (Bool → Shared → Prop) → Shared → Prop} {s : Shared} {Q : α → Shared → Prop} (hc : ∀ i j (C : Bool → Shared → Prop), i < n → j < n → C (lt i j) s → cmp i j C s) :
    ∀ {t : KasT α}, Kok lt n R t → (∀ a, R a → Q a s) → t.kasWp cmp Q s
  | .ret a, h, k => k a h
  | .ask i j q, h, k => hc i j _ h.1 h.2.1 (Kok.wp hc (t := q (lt i j)) h.2.2 k)
def Prm (n : Nat) (p : Array Nat) : Prop := p.toList.Perm (List.range n)
theorem Prm.ltn {p : Array Nat} (h : Prm n p) (hn : 0 < n) (i : Nat) : p.getD i 0 < n := by
  by_cases hi : i < p.size
  · have hm : p.getD i 0 ∈ p.toList := by simp [Array.getD, hi]
    exact List.mem_range.mp (h.mem_iff.mp hm)
  · simp [Array.getD, hi, hn]
theorem Prm.rev {p : Array Nat} (h : Prm n p) (i j : Nat) : Prm n (kas_rev p i j) := (Array.perm_iff_toList_perm.mp (mirror_perm p i j _)).trans h
theorem Prm.bub {p : Array Nat} (h : Prm n p) (k d : Nat) : Prm n (bubble p k d) := (Array.perm_iff_toList_perm.mp (bubble_perm p k d)).trans h
theorem kok_asc {p : Array Nat} (h : Prm n p) (hn : 0 < n) : ∀ f m, Kok lt n (fun _ => True) (kas_asc p f m)
  | 0, _ => trivial
  | f + 1, m => ⟨Prm.ltn h hn _, Prm.ltn h hn _, by
    dsimp only
    by_cases hc : lt (p.getD m 0) (p.getD (m - 1) 0) = true
    · rw [if_pos hc]; trivial
    · rw [if_neg hc]; exact kok_asc h hn f (m + 1)⟩
theorem kok_desc (hn : 0 < n) : ∀ f {p : Array Nat} m q, Prm n p → Kok lt n (fun r : Array Nat × Nat × Nat => Prm n r.1) (kas_desc f p m q)
  | 0, _, _, _, h => h
  | f + 1, p, m, q, h => ⟨Prm.ltn h hn _, Prm.ltn h hn _, by
    dsimp only
    by_cases hc : lt (p.getD m 0) (p.getD (m - 1) 0) = true
    · rw [if_pos hc]
      by_cases hq : q > 0
      · rw [if_pos hq]; exact kok_desc hn f _ _ (h.rev _ _)
      · rw [if_neg hq]; exact kok_desc hn f _ _ h
    · rw [if_neg hc]
      refine ⟨Prm.ltn h hn _, Prm.ltn h hn _, ?_⟩
      dsimp only
      by_cases hd : lt (p.getD (m - 1) 0) (p.getD m 0) = true
      · rw [if_pos hd]; exact h
      · rw [if_neg hd]; exact kok_desc hn f _ _ h⟩
theorem kok_tail {p : Array Nat} (h : Prm n p) (hn : 0 < n) (m r : Nat) : Kok lt n (fun r : Nat × Array Nat => Prm n r.2) (kas_tail3 m r p) :=
  Kok.bind (kok_asc (h.rev _ _) hn _ _) fun _ _ => h.rev 0 m
theorem kok_part {p : Array Nat} (h : Prm n p) (hn : 0 < n) (m r : Nat) : Kok lt n (fun r : Nat × Array Nat => Prm n r.2) (kas_descPart m r p) :=
  Kok.bind (kok_desc hn _ _ _ h) fun a ha => by
    by_cases hq : a.2.2 > 0
    · rw [if_pos hq]; exact kok_tail (ha.rev _ _) hn _ _
    · rw [if_neg hq]; exact kok_tail ha hn _ _
theorem kok_count {p : Array Nat} (h : Prm n p) (hn : 0 < n) (r : Nat) : Kok lt n (fun r : Nat × Array Nat => Prm n r.2) (kas_count r p) :=
  Kok.bind (kok_asc h hn _ _) fun m _ => by
    by_cases h1 : (m == r) = true
    · rw [if_pos h1]; exact h
    · rw [if_neg h1]
      by_cases h2 : m > 1
      · rw [if_pos h2]
        refine ⟨Prm.ltn h hn _, Prm.ltn h hn _, ?_⟩
        dsimp only
        by_cases h3 : lt (p.getD 0 0) (p.getD (m - 1) 0) = true
        · rw [if_pos h3]; exact h
        · rw [if_neg h3]; exact kok_part (h.rev _ _) hn _ _
      · rw [if_neg h2]; exact kok_part h hn _ _
theorem kok_place {p : Array Nat} (h : Prm n p) (hn : 0 < n) (k : Nat) : ∀ f l r, Kok lt n (fun _ => True) (kas_place p k f l r)
  | 0, _, _ => trivial
  | f + 1, l, r => by
    show Kok lt n _ (if l ≥ r then _ else _)
    by_cases h1 : l ≥ r
    · rw [if_pos h1]; trivial
    · rw [if_neg h1]
      refine ⟨Prm.ltn h hn _, Prm.ltn h hn _, ?_⟩
      dsimp only
      by_cases h3 : lt (p.getD k 0) (p.getD ((l + r) / 2) 0) = true
      · rw [if_pos h3]; exact kok_place h hn k f _ _
      · rw [if_neg h3]; exact kok_place h hn k f _ _
theorem kok_bin (hn : 0 < n) : ∀ f {p : Array Nat} k, Prm n p → Kok lt n (Prm n) (kas_bin f p k)
  | 0, _, _, h => h
  | f + 1, p, k, h => Kok.bind (kok_place h hn k k 0 k) fun l _ => kok_bin hn f _ (h.bub _ _)
theorem kok_sort (hn : 0 < n) : Kok lt n (Prm n) (kas_sort n) :=
  Kok.bind (kok_count (p := (List.range n).toArray) (by unfold Prm; simp) hn n) fun a ha => by
    by_cases h1 : a.1 < n
    · rw [if_pos h1]; exact kok_bin hn _ _ ha
    · rw [if_neg h1]; exact ha
end
section
variable {key : Nat → Int} {n : Nat}
def Up (key : Nat → Int) (p : Array Nat) (m : Nat) : Prop := ∀ a b, a < b → b < m → key (p.getD a 0) < key (p.getD b 0)
def Dn (key : Nat → Int) (p : Array Nat) (m : Nat) : Prop := ∀ a b, a < b → b < m → key (p.getD b 0) < key (p.getD a 0)
theorem getD_opt (p : Array Nat) (k : Nat) : p.getD k 0 = (p[k]?).getD 0 := by
  by_cases h : k < p.size
  · simp [Array.getD, h]
  · simp [Array.getD, h]
theorem Prm.size {p : Array Nat} (h : Prm n p) : p.size = n := by
  have := h.length_eq
  simpa using this
theorem Prm.unlike {p : Array Nat} (h : Prm n p) (hk : ∀ i j, i < n → j < n → key i = key j → i = j) {a b : Nat} (ha : a < n) (hb : b < n) (hne : a ≠ b) : key (p.getD a 0) ≠ key (p.getD b 0) := fun e => by
  have hs := h.size
  have hn : 0 < n := by omega
  have e1 := hk _ _ (h.ltn hn a) (h.ltn hn b) e
  have hnd : p.toList.Nodup := h.nodup_iff.mpr List.nodup_range
  have e2 : p.toList[a]'(by simpa [hs] using ha) = p.toList[b]'(by simpa [hs] using hb) := by
    have q1 : p.getD a 0 = p[a]'(by omega) := by simp [Array.getD, hs, ha]
    have q2 : p.getD b 0 = p[b]'(by omega) := by simp [Array.getD, hs, hb]
    rw [q1, q2] at e1
    simpa using e1
  exact hne ((List.getElem_inj hnd).mp e2)
theorem rev_get {p : Array Nat} {i j : Nat} (hj : j ≤ p.size) (k : Nat) : (kas_rev p i j).getD k 0 = if i ≤ k ∧ k < j then p.getD (i + j - 1 - k) 0 else p.getD k 0 := by
  unfold kas_rev
  rw [getD_opt, getElem?_mirror_all hj]
  by_cases c : i ≤ k ∧ k < j
  · rw [if_pos c, if_pos c, getD_opt]
  · rw [if_neg c, if_neg c, getD_opt]
theorem bub_get {p : Array Nat} {k l : Nat} (hk : k < p.size) (hl : l ≤ k) (a : Nat) : (bubble p k (k - l)).getD a 0 = if a = l then p.getD k 0 else if l < a ∧ a ≤ k then p.getD (a - 1) 0 else p.getD a 0 := by
  rw [getD_opt, getElem?_bubble hk (k - l) (by omega), show k - (k - l) = l by omega]
  by_cases c1 : a = l
  · rw [if_pos c1, if_pos c1, getD_opt]
  · rw [if_neg c1, if_neg c1]
    by_cases c2 : l < a ∧ a ≤ k
    · rw [if_pos c2, if_pos c2, getD_opt]
    · rw [if_neg c2, if_neg c2, getD_opt]
theorem Kok.mono {α : Type} {lt : Nat → Nat → Bool} {R S : α → Prop} (h : ∀ a, R a → S a) : ∀ {t : KasT α}, Kok lt n R t → Kok lt n S t
  | .ret a, q => h a q
  | .ask i j k, q => ⟨q.1, q.2.1, Kok.mono h q.2.2⟩
theorem Up.snoc {p : Array Nat} {m : Nat} (h : Up key p m) (h1 : 1 ≤ m) (hl : key (p.getD (m - 1) 0) < key (p.getD m 0)) : Up key p (m + 1) := fun a b hab hb => by
  by_cases e : b = m
  · subst e
    by_cases e2 : a = b - 1
    · subst e2; exact hl
    · exact Int.lt_trans (h a (b - 1) (by omega) (by omega)) hl
  · exact h a b hab (by omega)
theorem Dn.snoc {p : Array Nat} {m : Nat} (h : Dn key p m) (h1 : 1 ≤ m) (hl : key (p.getD m 0) < key (p.getD (m - 1) 0)) : Dn key p (m + 1) := fun a b hab hb => by
  by_cases e : b = m
  · subst e
    by_cases e2 : a = b - 1
    · subst e2; exact hl
    · exact Int.lt_trans hl (h a (b - 1) (by omega) (by omega))
  · exact h a b hab (by omega)
theorem o_asc (hk : ∀ i j, i < n → j < n → key i = key j → i = j) {p : Array Nat} (h : Prm n p) : ∀ f m, 1 ≤ m → m + f ≤ n → Up key p m →
    Kok (fun i j => decide (key i < key j)) n (fun r => m ≤ r ∧ r ≤ m + f ∧ Up key p r ∧ (r < m + f → key (p.getD r 0) < key (p.getD (r - 1) 0))) (kas_asc p f m)
  | 0, m, h1, h2, hu => ⟨Nat.le_refl _, Nat.le_refl _, hu, fun z => absurd z (by omega)⟩
  | f + 1, m, h1, h2, hu => ⟨Prm.ltn h (by omega) _, Prm.ltn h (by omega) _, by
    dsimp only
    by_cases hc : key (p.getD m 0) < key (p.getD (m - 1) 0)
    · rw [if_pos (by simpa using hc)]
      exact ⟨Nat.le_refl _, by omega, hu, fun _ => hc⟩
    · rw [if_neg (by simpa using hc)]
      have hne := h.unlike hk (show m - 1 < n by omega) (show m < n by omega) (by omega)
      refine Kok.mono (fun r hr => ?_) (o_asc hk h f (m + 1) (by omega) (by omega) (hu.snoc h1 (by omega)))
      exact ⟨by omega, by omega, hr.2.2.1, fun z => hr.2.2.2 (by omega)⟩⟩
theorem o_desc (hk : ∀ i j, i < n → j < n → key i = key j → i = j) {p : Array Nat} (h : Prm n p) : ∀ f m, 1 ≤ m → m + f ≤ n → Dn key p m →
    Kok (fun i j => decide (key i < key j)) n (fun r : Array Nat × Nat × Nat => r.1 = p ∧ r.2.2 = 0 ∧ m ≤ r.2.1 ∧ r.2.1 ≤ m + f ∧ Dn key p r.2.1) (kas_desc f p m 0)
  | 0, m, h1, h2, hu => ⟨rfl, rfl, Nat.le_refl _, Nat.le_refl _, hu⟩
  | f + 1, m, h1, h2, hu => ⟨Prm.ltn h (by omega) _, Prm.ltn h (by omega) _, by
    dsimp only
    by_cases hc : key (p.getD m 0) < key (p.getD (m - 1) 0)
    · rw [if_pos (by simpa using hc), if_neg (by omega)]
      refine Kok.mono (fun r hr => ?_) (o_desc hk h f (m + 1) (by omega) (by omega) (hu.snoc h1 hc))
      exact ⟨hr.1, hr.2.1, by omega, by omega, hr.2.2.2.2⟩
    · rw [if_neg (by simpa using hc)]
      have hne := h.unlike hk (show m - 1 < n by omega) (show m < n by omega) (by omega)
      refine ⟨Prm.ltn h (by omega) _, Prm.ltn h (by omega) _, ?_⟩
      dsimp only
      rw [if_pos (decide_eq_true (by omega))]
      exact ⟨rfl, rfl, Nat.le_refl _, by show m ≤ _; omega, hu⟩⟩
theorem o_tail (hk : ∀ i j, i < n → j < n → key i = key j → i = j) {p : Array Nat} (h : Prm n p) {m : Nat} (h1 : 1 ≤ m) (h2 : m ≤ n) (hd : Dn key p m) :
    Kok (fun i j => decide (key i < key j)) n (fun r : Nat × Array Nat => Prm n r.2 ∧ 1 ≤ r.1 ∧ r.1 ≤ n ∧ Up key r.2 r.1) (kas_tail3 m n p) := by
  have hs := h.size
  have hu : Up key (kas_rev p 0 m) m := fun a b hab hb => by
    rw [rev_get (by omega), rev_get (by omega), if_pos (by omega), if_pos (by omega)]
    exact hd _ _ (by omega) (by omega)
  refine Kok.bind (o_asc hk (h.rev 0 m) (n - m) m h1 (by omega) hu) fun r hr => ?_
  exact ⟨h.rev 0 m, by show 1 ≤ r; omega, by show r ≤ n; omega, hr.2.2.1⟩
theorem o_part (hk : ∀ i j, i < n → j < n → key i = key j → i = j) {p : Array Nat} (h : Prm n p) {m : Nat} (h2 : m + 1 ≤ n) (hd : Dn key p (m + 1)) :
    Kok (fun i j => decide (key i < key j)) n (fun r : Nat × Array Nat => Prm n r.2 ∧ 1 ≤ r.1 ∧ r.1 ≤ n ∧ Up key r.2 r.1) (kas_descPart m n p) := by
  refine Kok.bind (o_desc hk h (n - (m + 1)) (m + 1) (by omega) (by omega) hd) fun r hr => ?_
  obtain ⟨r1, r2, r3⟩ := r
  obtain ⟨e1, e2, e3, e4, e5⟩ := hr
  dsimp only at e1 e2 e3 e4 e5 ⊢
  subst e1 e2
  rw [if_neg (by omega)]
  exact o_tail hk h (by omega) (by omega) e5
theorem o_count (hk : ∀ i j, i < n → j < n → key i = key j → i = j) {p : Array Nat} (h : Prm n p) (hn : 1 ≤ n) :
    Kok (fun i j => decide (key i < key j)) n (fun r : Nat × Array Nat => Prm n r.2 ∧ 1 ≤ r.1 ∧ r.1 ≤ n ∧ Up key r.2 r.1) (kas_count n p) := by
  refine Kok.bind (o_asc hk h (n - 1) 1 (by omega) (by omega) fun a b h1 h2 => absurd h1 (by omega)) fun m hm => ?_
  obtain ⟨m1, m2, m3, m4⟩ := hm
  by_cases h1 : (m == n) = true
  · rw [if_pos h1]
    exact ⟨h, m1, by show m ≤ n; omega, m3⟩
  · rw [if_neg h1]
    have h1 : m ≠ n := by simpa using h1
    by_cases h2 : m > 1
    · rw [if_pos h2]
      refine ⟨Prm.ltn h (by omega) _, Prm.ltn h (by omega) _, ?_⟩
      dsimp only
      have := m3 0 (m - 1) (by omega) (by omega)
      rw [if_pos (by simpa using this)]
      exact ⟨h, m1, by show m ≤ n; omega, m3⟩
    · rw [if_neg h2]
      have e : m = 1 := by omega
      subst e
      exact o_part hk h (by omega) fun a b hab hb => by
        have : a = 0 := by omega
        have : b = 1 := by omega
        subst a b
        exact m4 (by omega)
theorem o_place {p : Array Nat} (h : Prm n p) {k : Nat} (hkn : k < n) (hu : Up key p k) : ∀ f l r, l ≤ r → r ≤ k → r - l ≤ f → (∀ a, a < l → key (p.getD a 0) ≤ key (p.getD k 0)) → (∀ a, r ≤ a → a < k → key (p.getD k 0) < key (p.getD a 0)) →
    Kok (fun i j => decide (key i < key j)) n (fun l' => l' ≤ k ∧ (∀ a, a < l' → key (p.getD a 0) ≤ key (p.getD k 0)) ∧ (∀ a, l' ≤ a → a < k → key (p.getD k 0) < key (p.getD a 0))) (kas_place p k f l r)
  | 0, l, r, h1, h2, h3, ha, hb => ⟨by omega, ha, fun a q1 q2 => hb a (by omega) q2⟩
  | f + 1, l, r, h1, h2, h3, ha, hb => by
    show Kok _ n _ (if l ≥ r then _ else _)
    by_cases hc : l ≥ r
    · rw [if_pos hc]
      exact ⟨by omega, ha, fun a q1 q2 => hb a (by omega) q2⟩
    · rw [if_neg hc]
      refine ⟨Prm.ltn h (by omega) _, Prm.ltn h (by omega) _, ?_⟩
      dsimp only
      by_cases hd : key (p.getD k 0) < key (p.getD ((l + r) / 2) 0)
      · rw [if_pos (by simpa using hd)]
        refine o_place h hkn hu f _ _ (by omega) (by omega) (by omega) ha fun a q1 q2 => ?_
        by_cases e : a = (l + r) / 2
        · rw [e]; exact hd
        · exact Int.lt_trans hd (hu _ _ (by omega) q2)
      · rw [if_neg (by simpa using hd)]
        refine o_place h hkn hu f _ _ (by omega) (by omega) (by omega) (fun a q1 => ?_) hb
        by_cases e : a = (l + r) / 2
        · rw [e]; omega
        · have := hu a ((l + r) / 2) (by omega) (by omega)
          omega
theorem o_bin (hk : ∀ i j, i < n → j < n → key i = key j → i = j) : ∀ f {p : Array Nat} k, Prm n p → k + f = n → Up key p k → Kok (fun i j => decide (key i < key j)) n (fun p' => Prm n p' ∧ Up key p' n) (kas_bin f p k)
  | 0, p, k, h, e, hu => ⟨h, by rwa [← e]⟩
  | f + 1, p, k, h, e, hu => by
    refine Kok.bind (o_place h (by omega) hu k 0 k (by omega) (by omega) (by omega) (fun a q => absurd q (by omega)) (fun a q1 q2 => absurd q2 (by omega))) fun l hl => ?_
    obtain ⟨l1, l2, l3⟩ := hl
    have hs := h.size
    refine o_bin hk f (k + 1) (h.bub _ _) (by omega) fun a b hab hb => ?_
    have hlt : ∀ x, x < l → key (p.getD x 0) < key (p.getD k 0) := fun x hx => by
      have := l2 x hx
      have := h.unlike hk (show x < n by omega) (show k < n by omega) (by omega)
      omega
    rw [bub_get (by omega) l1, bub_get (by omega) l1]
    by_cases c1 : a = l
    · rw [if_pos c1, if_neg (by omega), if_pos (by omega)]
      exact l3 _ (by omega) (by omega)
    · rw [if_neg c1]
      by_cases c2 : b = l
      · rw [if_neg (by omega), if_pos c2]
        exact hlt _ (by omega)
      · rw [if_neg c2]
        by_cases c3 : l < a
        · rw [if_pos (by omega), if_pos (by omega)]
          exact hu _ _ (by omega) (by omega)
        · rw [if_neg (by omega)]
          by_cases c4 : l < b
          · rw [if_pos (by omega)]
            by_cases c5 : b - 1 = a
            · omega
            · exact hu _ _ (by omega) (by omega)
          · rw [if_neg (by omega)]
            exact hu _ _ hab (by omega)
theorem o_sort (hk : ∀ i j, i < n → j < n → key i = key j → i = j) (hn : 1 ≤ n) : Kok (fun i j => decide (key i < key j)) n (fun p => Prm n p ∧ Up key p n) (kas_sort n) :=
  Kok.bind (o_count hk (p := (List.range n).toArray) (by unfold Prm; simp) hn) fun a ha => by
    obtain ⟨a1, a2, a3, a4⟩ := ha
    by_cases h1 : a.1 < n
    · rw [if_pos h1, show max a.1 1 = a.1 by omega]
      exact o_bin hk _ _ a1 (by omega) a4
    · rw [if_neg h1]
      have e : a.1 = n := by omega
      exact ⟨a1, by rwa [e] at a4⟩
end
section
variable {n : Nat} {lt : Nat → Nat → Bool}
theorem count_lt {p q : Nat → Bool} : ∀ {l : List Nat} {i : Nat}, i ∈ l → (∀ x ∈ l, p x = true → q x = true) → p i = false → q i = true → l.countP p < l.countP q
  | [], _, h, _, _, _ => by cases h
  | a :: l, i, h, hpq, hp, hq => by
    rw [List.countP_cons, List.countP_cons]
    have hm : l.countP p ≤ l.countP q := List.countP_mono_left fun x hx => hpq x (List.mem_cons_of_mem _ hx)
    rcases List.mem_cons.mp h with rfl | h
    · rw [hp, hq]
      simp
      omega
    · have ih := count_lt h (fun x hx => hpq x (List.mem_cons_of_mem _ hx)) hp hq
      have := hpq a List.mem_cons_self
      cases hpa : p a with
      | true => rw [this hpa]; simp; exact ih
      | false => simp; split <;> omega
theorem Kok.congr {α : Type} {lt' : Nat → Nat → Bool} {R : α → Prop} (h : ∀ i j, i < n → j < n → lt i j = lt' i j) : ∀ {t : KasT α}, Kok lt n R t → Kok lt' n R t
  | .ret a, q => q
  | .ask i j k, q => ⟨q.1, q.2.1, h i j q.1 q.2.1 ▸ Kok.congr h q.2.2⟩
theorem o_sortL (irr : ∀ i, i < n → lt i i = false) (tr : ∀ i j k, i < n → j < n → k < n → lt i j = true → lt j k = true → lt i k = true) (tot : ∀ i j, i < n → j < n → i ≠ j → lt i j = true ∨ lt j i = true) (hn : 1 ≤ n) :
    Kok lt n (fun p => Prm n p ∧ ∀ a b, a < b → b < n → lt (p.getD a 0) (p.getD b 0) = true) (kas_sort n) := by
  obtain ⟨key, hkey⟩ : ∃ key : Nat → Int, ∀ i, key i = (((List.range n).countP fun x => lt x i : Nat) : Int) := ⟨_, fun _ => rfl⟩
  have up : ∀ i j, i < n → j < n → lt i j = true → key i < key j := fun i j hi hj h => by
    rw [hkey, hkey]
    have := count_lt (p := fun x => lt x i) (q := fun x => lt x j) (l := List.range n) (i := i) (List.mem_range.mpr hi) (fun x hx hxi => tr x i j (List.mem_range.mp hx) hi hj hxi h) (irr i hi) h
    omega
  have eq : ∀ i j, i < n → j < n → lt i j = decide (key i < key j) := fun i j hi hj => by
    cases h : lt i j with
    | true => exact (decide_eq_true (up i j hi hj h)).symm
    | false =>
      refine (decide_eq_false fun z => ?_).symm
      by_cases e : i = j
      · rw [e] at z; omega
      · rcases tot i j hi hj e with t | t
        · rw [h] at t; cases t
        · have := up j i hj hi t
          omega
  have hk : ∀ i j, i < n → j < n → key i = key j → i = j := fun i j hi hj e => by
    by_cases h : i = j
    · exact h
    · rcases tot i j hi hj h with t | t
      · have := up i j hi hj t; omega
      · have := up j i hj hi t; omega
  refine Kok.congr (lt := fun i j => decide (key i < key j)) (fun i j hi hj => (eq i j hi hj).symm) (Kok.mono (fun p hp => ⟨hp.1, fun a b hab hb => ?_⟩) (o_sort hk hn))
  rw [eq _ _ (hp.1.ltn (by omega) _) (hp.1.ltn (by omega) _)]
  exact decide_eq_true (hp.2 a b hab hb)
end
def lexB : List Int → List Int → Bool → Bool
  | x :: xs, y :: ys, f => if x = y then lexB xs ys f else decide (x < y)
  | [], _, f => f
  | _ :: _, [], f => f
theorem lex_irr : ∀ a : List Int, lexB a a false = false
  | [] => rfl
  | x :: a => by rw [lexB, if_pos rfl, lex_irr a]
theorem lex_tr : ∀ {a b c : List Int}, a.length = b.length → b.length = c.length → lexB a b false = true → lexB b c false = true → lexB a c false = true
  | [], _, _, _, _, h, _ => by simp [lexB] at h
  | x :: a, [], _, h, _, _, _ => by simp at h
  | x :: a, y :: b, [], _, h, _, _ => by simp at h
  | x :: a, y :: b, z :: c, h1, h2, h, h' => by
    rw [lexB] at h h' ⊢
    by_cases e1 : x = y
    · subst e1
      rw [if_pos rfl] at h
      by_cases e2 : x = z
      · subst e2
        rw [if_pos rfl] at h' ⊢
        exact lex_tr (by simpa using h1) (by simpa using h2) h h'
      · rw [if_neg e2] at h' ⊢
        exact h'
    · rw [if_neg e1] at h
      have h := of_decide_eq_true h
      by_cases e2 : y = z
      · subst e2
        rw [if_neg e1]
        exact decide_eq_true h
      · rw [if_neg e2] at h'
        have h' := of_decide_eq_true h'
        rw [if_neg (by omega)]
        exact decide_eq_true (by omega)
theorem lex_tot : ∀ {a b : List Int}, a.length = b.length → a ≠ b → lexB a b false = true ∨ lexB b a false = true
  | [], [], _, h => (h rfl).elim
  | [], y :: b, h, _ => by simp at h
  | x :: a, [], h, _ => by simp at h
  | x :: a, y :: b, h, hne => by
    rw [lexB, lexB]
    by_cases e : x = y
    · subst e
      rw [if_pos rfl, if_pos rfl]
      exact lex_tot (by simpa using h) fun z => hne (by rw [z])
    · rw [if_neg e, if_neg (Ne.symm e)]
      rcases Int.lt_or_gt_of_ne e with q | q
      · exact .inl (decide_eq_true q)
      · exact .inr (decide_eq_true q)
section
variable {P : Program} {w : World} {A : Around} {E : Value → Shared → Prop} {s : Shared}
theorem lex_ints {b f : Bool} {Q : Bool → Shared → Prop} : ∀ {ms ns : List Int} {xs ys : List Value}, Vals (ms.map V.int) xs → Vals (ns.map V.int) ys → ∀ i, Q (lexB ms ns f) s → KatLex P w A b f Q (xs.zip ys) i s
  | [], _, _, _, r, _, i, h => by
    cases r
    exact h
  | m :: ms, [], _, _, r, r', i, h => by
    cases r'
    rw [List.zip_nil_right]
    exact h
  | m :: ms, n :: ns, _, _, r, r', i, h => by
    rw [List.map_cons] at r r'
    cases r with
    | cons a1 a2 =>
    cases r' with
    | cons b1 b2 =>
    obtain ⟨t, rfl⟩ := a1
    obtain ⟨t', rfl⟩ := b1
    rw [List.zip_cons_cons]
    refine kat_cons (wpAny_eqBool_int ?_)
    by_cases e : m = n
    · rw [show (m == n) = true by simp [e]]
      refine kat_yes (lex_ints a2 b2 (i + 1) ?_)
      rwa [lexB, if_pos e] at h
    · rw [show (m == n) = false by simp [e]]
      refine kat_no ?_
      rw [lexB, if_neg e] at h
      cases hf : (b && i == 0) with
      | true => exact oneLt_int h
      | false => exact kat_one _ _ (lt_int h)
theorem tups_of {h : Heap} : ∀ {us : List Value}, (∀ v ∈ us, ∃ b o xs m i t, v = .ref b ∧ h.get? b = some o ∧ o.cls = .type "tuple" ∧ o.data = .seq xs m ∧ xs[0]? = some (Value.int i t)) →
    ∃ fs, KatTups h us fs ∧ fs.length = us.length ∧ ∀ f ∈ fs, ∃ i t, f = Value.int i t
  | [], _ => ⟨[], trivial, rfl, fun _ h => by cases h⟩
  | v :: us, hv => by
    obtain ⟨b, o, xs, m, i, t, rfl, h1, h2, h3, h4⟩ := hv v (.head _)
    obtain ⟨fs, k1, k2, k3⟩ := tups_of (us := us) fun v hm => hv v (.tail _ hm)
    exact ⟨_ :: fs, KatTups.cons h1 h2 h3 h4 k1, by rw [List.length_cons, List.length_cons, k2], fun f hf => (List.mem_cons.mp hf).elim (fun e => ⟨i, t, e⟩) (k3 f)⟩
end
section
variable {X : Cx}
def rSortT (K : PySem.W.Frag) : List V → Hp → VK → Prop := fun xs H Q => ∃ (a : Addr) (ys : List V) (ts : V → List Int), xs = [.ref a] ∧ SqL K H a ys ∧ ys.length < 64 ∧ (∀ y ∈ ys, ts y ≠ [] ∧ ∃ b, y = .ref b ∧ SqT K H b ((ts y).map V.int)) ∧
  ∀ p zs, H p = none → zs.Perm ys → (∀ m, (∀ y ∈ ys, (ts y).length = m) → (ys.map ts).Nodup → zs.Pairwise fun y z => lexB (ts y) (ts z) false = true) → Q (.ref p) (upd H p (.lst zs))
theorem vals_getD : ∀ {ys : List V} {us : List Value} {i : Nat}, Vals ys us → i < ys.length → RelV (ys.getD i .non) (us.getD i Value.none)
  | _, _, _, .nil, h => by simp at h
  | _, _, 0, .cons r _, _ => r
  | _, _, i + 1, .cons _ t, h => by
    simp only [List.getD_cons_succ]
    exact vals_getD t (by simpa using h)
theorem vals_pick {ys : List V} {us : List Value} (r : Vals ys us) : ∀ {l : List Nat}, (∀ i ∈ l, i < ys.length) → Vals (l.map fun i => ys.getD i .non) (l.map fun i => us.getD i Value.none)
  | [], _ => .nil
  | i :: l, h => .cons (vals_getD r (h i (.head _))) (vals_pick r fun j hj => h j (.tail _ hj))
theorem getD_rangeV (ys : List V) : ((List.range ys.length).map fun i => ys.getD i V.non) = ys := by
  refine List.ext_getElem (by simp) fun i h1 h2 => ?_
  simp [h2]
def SortOk (ys : List V) (ts : V → List Int) (p : Array Nat) : Prop := ∀ m, (∀ y ∈ ys, (ts y).length = m) → (ys.map ts).Nodup → ∀ a b, a < b → b < ys.length → lexB (ts (ys.getD (p.getD a 0) .non)) (ts (ys.getD (p.getD b 0) .non)) false = true
theorem sort_ok {ys : List V} {ts : V → List Int} (hn : 1 ≤ ys.length) : Kok (fun i j => lexB (ts (ys.getD i .non)) (ts (ys.getD j .non)) (decide ((ts (ys.getD i .non)).length < (ts (ys.getD j .non)).length))) ys.length (fun p => Prm ys.length p ∧ SortOk ys ts p) (kas_sort ys.length) := by
  by_cases h : ∃ m, (∀ y ∈ ys, (ts y).length = m) ∧ (ys.map ts).Nodup
  · obtain ⟨m, h1, h2⟩ := h
    have hm : ∀ i, i < ys.length → (ts (ys.getD i .non)).length = m := fun i hi => h1 _ (by simp [hi])
    have hf : ∀ i j, i < ys.length → j < ys.length → decide ((ts (ys.getD i .non)).length < (ts (ys.getD j .non)).length) = false := fun i j hi hj => by
      rw [hm i hi, hm j hj]; simp
    refine Kok.mono (fun p hp => ⟨hp.1, fun _ _ _ a b hab hb => ?_⟩) (o_sortL (n := ys.length) (lt := fun i j => lexB (ts (ys.getD i .non)) (ts (ys.getD j .non)) (decide ((ts (ys.getD i .non)).length < (ts (ys.getD j .non)).length))) (fun i hi => ?_) (fun i j k hi hj hk h h' => ?_) (fun i j hi hj hne => ?_) hn)
    · rw [hf i i hi hi]; exact lex_irr _
    · rw [hf i j hi hj] at h
      rw [hf j k hj hk] at h'
      rw [hf i k hi hk]
      exact lex_tr ((hm i hi).trans (hm j hj).symm) ((hm j hj).trans (hm k hk).symm) h h'
    · rw [hf i j hi hj, hf j i hj hi]
      refine lex_tot ((hm i hi).trans (hm j hj).symm) fun e => hne ?_
      refine (List.getElem?_inj (by rw [List.length_map]; exact hi) h2).mp ?_
      rw [List.getElem?_map, List.getElem?_map, List.getElem?_eq_getElem hi, List.getElem?_eq_getElem hj]
      have q1 : ys.getD i .non = ys[i] := by simp [hi]
      have q2 : ys.getD j .non = ys[j] := by simp [hj]
      rw [q1, q2] at e
      exact congrArg some e
    · have := hp.2 a b hab hb
      rwa [hf _ _ (hp.1.ltn (by omega) _) (hp.1.ltn (by omega) _)] at this
  · exact Kok.mono (fun p hp => ⟨hp, fun m h1 h2 => absurd ⟨m, h1, h2⟩ h⟩) (kok_sort hn)
theorem ap_rSortT {K : PySem.W.Frag} {a : Addr} {H : Hp} {Q : VK} : rSortT K [.ref a] H Q = ∃ (ys : List V) (ts : V → List Int), SqL K H a ys ∧ ys.length < 64 ∧ (∀ y ∈ ys, ts y ≠ [] ∧ ∃ b, y = .ref b ∧ SqT K H b ((ts y).map V.int)) ∧
    ∀ p zs, H p = none → zs.Perm ys → (∀ m, (∀ y ∈ ys, (ts y).length = m) → (ys.map ts).Nodup → zs.Pairwise fun y z => lexB (ts y) (ts z) false = true) → Q (.ref p) (upd H p (.lst zs)) := by simp [rSortT]
end
def But (D : Addr) (H H' : Hp) : Prop := ∀ b u, b ≠ D → H b = some u → H' b = some u
theorem Same.seqT {K : PySem.W.Frag} {H H' : Hp} {a : Addr} {xs : List V} (e : Same H H') (h : SqT K H a xs) : SqT K H' a xs := h.elim (fun h => h.elim (fun h => .inl (.inl (e _ _ h))) fun ⟨o, h⟩ => .inl (.inr ⟨o, e _ _ h⟩)) .inr
section
variable {K : PySem.W.Frag} {a : Addr} {xs : List V} {g : TG} {te : TE} {σ : St} {H : Hp} {Q : VK} {cap : List (Option Nat)}
theorem CompP.listE (Sσ : St → Prop) (F : Nat → V → Hp → Prop) (hS : SqL K H a xs) (h0 : Sσ (capSt σ cap)) (hz : xs.length ≤ sizeLine)
    (hs : ∀ D i x, xs[i]? = some x → ∀ (σ : St) (H5 : Hp) (R : St → VK), Sσ σ → Same H H5 → H D = Option.none → (∃ acc, H5 D = some (.lst acc)) → (∀ v σ4 H6, Sσ σ4 → Same H5 H6 → (∀ H', But D H6 H' → F i v H') → R σ4 v H6) →
      g x σ H5 fun σ4 H4 => te σ4 H4 (R σ4))
    (k : ∀ D H' acc, H D = Option.none → Same H H' → H' D = some (.lst acc) → acc.length = xs.length → (∀ i v, acc[i]? = some v → F i v H') → Q (.ref D) H') : CompP cap (Itl K a) g tNoIf te σ H Q := by
  intro D hD
  refine ⟨fun i m acc σ H2 => m = xs.length - i ∧ i ≤ xs.length ∧ Sσ σ ∧ Same H H2 ∧ acc.length = i ∧ ∀ j v, acc[j]? = some v → ∀ H', But D H2 H' → F j v H', ⟨xs.length, rfl, Nat.zero_le _, h0, Same.new hD, rfl, fun j v e => by simp at e⟩, ?_⟩
  rintro i m acc σ1 H2 ⟨rfl, hi, hσ, sm, hal, hF⟩ hA
  by_cases hlt : i < xs.length
  · have hx : xs[i]? = some xs[i] := by simp [hlt]
    refine .inr ⟨⟨xs, xs[i], sm.seq hS, hx⟩, fun y H3 hy => ?_⟩
    obtain rfl : H3 = H2 := hy.1
    obtain rfl : y = xs[i] := Option.some.inj ((hy.2 xs (sm.seq hS)).symm.trans hx)
    simp only [ap_noIf, if_true]
    refine hs D i _ hx σ1 H3 _ hσ sm hD ⟨_, hA⟩ fun v σ4 H6 hσ4 s6 hF6 => ?_
    have hA6 := s6 _ _ hA
    refine ⟨acc, hA6, by omega, xs.length - (i + 1), by omega, rfl, hlt, hσ4, (sm.trans s6).upd hD, by rw [List.length_append, hal]; rfl, fun j u hj H' hb => ?_⟩
    have hb6 : But D H6 H' := fun b o hne e => hb b o hne ((upd_ne hne).trans e)
    by_cases hjl : j < acc.length
    · rw [List.getElem?_append_left hjl] at hj
      exact hF j u hj H' fun b o hne e => hb6 b o hne (s6 _ _ e)
    · rw [List.getElem?_append_right (by omega)] at hj
      have hj0 : j - acc.length = 0 := by
        have := (List.getElem?_eq_some_iff.mp hj).1
        simp at this
        omega
      rw [hj0] at hj
      cases hj
      obtain rfl : j = i := by omega
      exact hF6 H' hb6
  · obtain rfl : i = xs.length := by omega
    exact .inl ⟨⟨xs, sm.seq hS, Nat.le_refl _⟩, k D H2 acc hD sm hA hal fun j v e => hF j v e H2 fun b o _ e => e⟩
theorem CompP.tupF (Sσ : St → Prop) (F : V → V) (hS : SqT K H a xs) (h0 : Sσ (capSt σ cap)) (hz : xs.length ≤ sizeLine)
    (hs : ∀ x ∈ xs, ∀ (σ : St) (H5 : Hp) (R : St → VK), Sσ σ → Same H H5 → (∀ σ4 H6, Sσ σ4 → Same H5 H6 → R σ4 (F x) H6) → g x σ H5 fun σ4 H4 => te σ4 H4 (R σ4))
    (k : ∀ D H', H D = Option.none → Same H H' → H' D = some (.lst (xs.map F)) → Q (.ref D) H') : CompP cap (Itt K a) g tNoIf te σ H Q := by
  intro D hD
  have z := comp_step (te := te) (tt := tNoIf) (g := g) (σ0 := capSt σ cap) (Q := Q) (Itt K a) Sσ (fun _ => true) F hD h0 hz (fun i x H5 hx sm => ⟨⟨xs, x, sm.seqT hS, hx⟩, fun y H' hy => ⟨Option.some.inj ((hy.2 xs (sm.seqT hS)).symm.trans hx), hy.1⟩⟩) (fun H5 sm => ⟨xs, sm.seqT hS, Nat.le_refl _⟩)
    (fun x hx σ5 H5 R1 R2 hσ sm k1 k2 => by
      simp only [ap_noIf, if_true]
      exact hs x hx σ5 H5 R1 hσ sm (k1 rfl)) (fun H' sm e => k D H' hD sm (by rw [filt_true] at e; exact e))
  exact z
end
end L2
namespace L2
open PySem PySem.Spec PyProof.Rows
structure Mk0 (K : PySem.W.Frag) (C : Addr) : Prop where
  makes : PySem.W.makesIn K C = true
  init : PySem.W.findIn K (.ref C) "__init__" = some (some (.builtin "object.__init__"))
  kp : PySem.W.keepIn K (.ref C) = true
def tNew0 (C : Addr) : TE := fun _ H Q => ∀ x dx, H x = none → H dx = none → dx ≠ x → Q (.ref x) (upd (upd H dx (.own x)) x (.ins C dx []))
theorem ap_new0 {C : Addr} {σ : St} {H : Hp} {Q : VK} : tNew0 C σ H Q = ∀ x dx, H x = none → H dx = none → dx ≠ x → Q (.ref x) (upd (upd H dx (.own x)) x (.ins C dx [])) := rfl
section
variable {K : PySem.W.Frag} {a b : Addr} {xs ys : List V} {g : TG} {te : TE} {σ : St} {H : Hp} {Q : VK} {cap : List (Option Nat)}
end
end L2
namespace PySem
open PySem.Spec PyProof.Rows
section
variable {prog : Program} {w : World} {A : Around} {E : Value → Shared → Prop} {a : Addr} {xs : Array Value} {k : Nat} {s : Shared}
end
end PySem
namespace L2
open PySem PySem.Spec PyProof.Rows
section
variable {P : Program} {w : World} {A : Around} {E : Value → Shared → Prop}
end
section
variable {X : Cx}
def pairK (kf : V → Key) (vf : V → V) (ys : List V) : List (Key × V) := ys.foldl (fun a y => putK a (kf y) (vf y)) []
def rDictPairs (K : PySem.W.Frag) : List V → Hp → VK → Prop := fun xs H Q => ∃ (a : Addr) (ys : List V) (kf : V → Key) (vf : V → V), xs = [.ref a] ∧ SqL K H a ys ∧ ys.length ≤ 1000 ∧ (∀ y ∈ ys, ∃ b, y = .ref b ∧ SqT K H b [kV (kf y), vf y]) ∧
  ∀ p, H p = none → Q (.ref p) (upd H p (.dK (pairK kf vf ys)))
end
end L2
namespace L2
open PySem PySem.Spec PyProof.Rows
def viewO (v a : Addr) : HO := .ext fun h => h.IsValuesView v a
def Itv (a : Addr) (o : Obj) (kvs : List (Key × V)) : It := ⟨fun i H => H a = some (.frz o (.dK kvs)) ∧ i < kvs.length, fun i H x H' => H' = H ∧ (kvs.map (·.2))[i]? = some x, fun i H => H a = some (.frz o (.dK kvs)) ∧ kvs.length ≤ i⟩
section
variable {X : Cx} {tg : Expr}
def iVals (tl : TE) : TI := fun σ H R => tl σ H fun x H1 => ∃ v a kvs, x = .ref v ∧ H1 v = some (viewO v a) ∧ H1 a = some (.dK kvs) ∧ ∀ o, R (Itv a o kvs) (upd H1 a (.frz o (.dK kvs)))
def rVals : V → List V → Hp → VK → Prop := fun x vs H Q => ∃ a kvs, x = .ref a ∧ vs = [] ∧ H a = some (.dK kvs) ∧ ∀ v, H v = none → Q (.ref v) (upd H v (viewO v a))
end
end L2
namespace L2
open PySem PySem.Spec PyProof.Rows
section
variable {X : Cx} {K : PySem.W.Frag} {σ : St} {H : Hp} {Q : VK} {R : It → Hp → Prop} {tl td ty : TE} {g : TG} {tt : TT} {te : TE} {cap : List (Option Nat)} {a : Addr} {o : Obj} {kvs : List (Key × V)}
theorem ap_dictPairs : rDictPairs K [.ref a] H Q = ∃ (ys : List V) (kf : V → Key) (vf : V → V), SqL K H a ys ∧ ys.length ≤ 1000 ∧ (∀ y ∈ ys, ∃ b, y = .ref b ∧ SqT K H b [kV (kf y), vf y]) ∧ ∀ p, H p = none → Q (.ref p) (upd H p (.dK (pairK kf vf ys))) := by simp [rDictPairs]
theorem ap_iVals : iVals tl σ H R = tl σ H fun x H1 => ∃ v a kvs, x = .ref v ∧ H1 v = some (viewO v a) ∧ H1 a = some (.dK kvs) ∧ ∀ o, R (Itv a o kvs) (upd H1 a (.frz o (.dK kvs))) := rfl
theorem ap_rVals : rVals (.ref a) [] H Q = ∃ kvs, H a = some (.dK kvs) ∧ ∀ v, H v = none → Q (.ref v) (upd H v (viewO v a)) := by simp [rVals]
theorem ap_dget1 : tDGet1 td ty σ H Q = td σ H fun x H1 => ∃ a, x = .ref a ∧ IsD H1 a ∧ ty σ H1 fun y H2 => ∃ o, DGet H2 a y o ∧ Q (o.getD .non) H2 := rfl
theorem CompP.vals (Sσ : St → Prop) (p : V → Bool) (F : V → V) (hH : H a = some (.frz o (.dK kvs))) (h0 : Sσ (capSt σ cap)) (hz : kvs.length ≤ sizeLine)
    (hs : ∀ x ∈ kvs.map (·.2), ∀ (σ : St) (H5 : Hp) (R1 : St → VK) (R2 : St → Hp → Prop), Sσ σ → Same H H5 → (p x = true → ∀ σ4 H6, Sσ σ4 → Same H5 H6 → R1 σ4 (F x) H6) → (p x = false → ∀ σ4 H6, Sσ σ4 → Same H5 H6 → R2 σ4 H6) →
      g x σ H5 fun σ4 H4 => tt σ4 H4 fun b H5 => if b = true then te σ4 H5 (R1 σ4) else R2 σ4 H5)
    (k : ∀ D H', H D = Option.none → Same H H' → H' D = some (.lst (((kvs.map (·.2)).filter p).map F)) → Q (.ref D) H') : CompP cap (Itv a o kvs) g tt te σ H Q :=
  fun D hD => comp_step (xs := kvs.map (·.2)) (Itv a o kvs) Sσ p F hD h0 (by rw [List.length_map]; exact hz) (fun i x H5 hx sm => ⟨⟨sm _ _ hH, by simpa using (List.getElem?_eq_some_iff.mp hx).1⟩, fun y H' hy => ⟨Option.some.inj (hy.2.symm.trans hx), hy.1⟩⟩) (fun H5 sm => ⟨sm _ _ hH, by simp⟩) hs fun H' s e => k D H' hD s e
end
end L2
namespace L2
open PySem PySem.W PySem.Spec PyProof.Rows
section
variable {X : Cx} {pins : List (Addr × Obj)} {σ : St} {H : Hp} {s : Shared} {h' : Heap}
theorem Inv.adopt {t' c : Nat} {D : Addr} {zs : List V} {its : List Value} (I : Inv X pins σ H s) (hf : FpOk X pins H D) (k : ∀ b o, b ≠ D → s.heap.get? b = some o → h'.get? b = some o)
    (hD : h'.get? D = some { cls := .type "list", data := .seq its.toArray c }) (hv : Vals zs its) (hz : zs.length ≤ sizeLine) : Inv X pins σ (upd H D (.lst zs)) { s with heap := h', toks := t' } := by
  obtain ⟨hn, hL, hfs, h1, h2, h3⟩ := hf
  have nit : ∀ b u, H b = some u → b ≠ D := fun b u e z => by rw [z, hn] at e; cases e
  refine I.step (g' := s.gens) (d' := s.drawn) (ch := [D]) (fun b hb => ?_) (fun b o _ _ hc e _ => k b o (fun z => hc (by simp [z])) e) (fun b o _ _ hc e _ => ⟨o.slots, k b o (fun z => hc (by simp [z])) e⟩) (fun b o hc e n => (upd_ne fun z => hc (by simp [z])).trans n)
    (fun b o hc e => ⟨o, k b o (fun z => hc (by simp [z])) e⟩) (fun b xs e => (upd_ne (nit b _ e)).trans e) (fun b o u e => (upd_ne (nit b _ e)).trans e) (fun b ps e => ⟨#[], by rw [upd_ne (nit b _ e), e]; simp⟩) (fun m hm => ?_) (fun b u e => ?_) I.bare
  · have e : b = D := by simpa using hb
    subst e
    exact ⟨h1, hL, h2, h3⟩
  · obtain ⟨o, es, ep, ho, r⟩ := hm
    exact ⟨o, es, ep, k _ o (Ne.symm hL) ho, r⟩
  · by_cases z : b = D
    · subst z
      rw [upd_same] at e
      cases e
      exact ⟨hz, its, c, hv, hD⟩
    · rw [upd_ne z] at e
      refine (I.hok b u e).stay (fun c v hc q => k c v ?_ q) (fun c q => ?_) fun c v q => ?_
      · rcases hc with y | y
        · rw [y]; exact nit b u e
        · exact nit c _ y
      · exact (upd_ne (nit c _ q)).trans q
      · exact (upd_ne (nit c _ q)).trans q
end
section
variable {X : Cx} {pins : List (Addr × Obj)} {σ : St} {H : Hp} {s : Shared} {k : Nat} {f : Addr} {fd : FuncData} {ps : List Str} {sp : Sp}
theorem run_key {Q : VK} {v : V} {u : Value} (F : FnOk X.prog X.w X.K X.mg X.base CX0 k f fd ps sp) (hr : Room (k + 2) X.A) (hb : Binds X.K fd ps []) (I : Inv X pins σ H s) (r : RelV v u) (h : sp [v] H Q E0) :
    wpAny (model X.prog X.w) X.A.in1.in1 (call (.ref f) [u]) (EP X pins σ Q) (fun _ _ => False) s := by
  have r2 : Vals [v] [u] := .cons r .nil
  have hl : ([u] ++ ([] : List Value)).length = ps.length := by
    have := F.len _ _ _ _ h
    rw [← this]; rfl
  refine wpAny_call (codeAny_mono (F.run X.A.in1.in1 X.stack s H ⟨[u], []⟩ [u] [v] Q E0 hr.in1.in1 I.env0.in1.in1 (hb s [u] I.kIn hl) r2 h) fun r s' hq => ?_)
  cases r with
  | error e => exact hq.elim
  | ok fl =>
    cases fl with
    | ret u => exact I.after hq
    | next => exact False.elim hq
    | brk => exact False.elim hq
    | cont => exact False.elim hq
theorem Paired.imp {α β : Type} {P P' : α → β → Prop} (h : ∀ a b, P a b → P' a b) : ∀ {xs : List α} {ys : List β}, Paired P xs ys → Paired P' xs ys
  | _, _, .nil => .nil
  | _, _, .cons a t => .cons (h _ _ a) (Paired.imp h t)
def KeyAt (kf : V → List Int) (H : Hp) (y v : V) : Prop := ∃ t, v = .ref t ∧ H t = some (.tup ((kf y).map V.int))
theorem KeyAt.same {kf : V → List Int} {H H' : Hp} {y v : V} (h : KeyAt kf H y v) (e : ∀ t xs, H t = some (.tup xs) → H' t = some (.tup xs)) : KeyAt kf H' y v := let ⟨t, a, b⟩ := h; ⟨t, a, e _ _ b⟩
def KeyFn (sp : Sp) (kf : V → List Int) (H : Hp) (y : V) : Prop := ∀ H1, Same H H1 → ∀ R : VK, (∀ t H2, Same H1 H2 → H2 t = some (.tup ((kf y).map V.int)) → R (.ref t) H2) → sp [y] H1 R E0
theorem key_loop {E : Value → Shared → Prop} {kf : V → List Int} {H0 : Hp} {kS : Addr} {Q' : Shared → Prop} {body : Value → PUnit → Sem (ForInStep PUnit)} (F : FnOk X.prog X.w X.K X.mg X.base CX0 k f fd ps sp) (hr : Room (k + 2) X.A) (hb : Binds X.K fd ps [])
    (hbody : ∀ x s (D' : Shared → Prop), wpAny (model X.prog X.w) X.A.in1.in1 (call (.ref f) [x]) (fun k s' => ∃ its n, s'.heap.get? kS = some { cls := .type "list", data := .seq its n } ∧ its.size < 64 ∧ D' { s' with heap := s'.heap.update kS (Obj.mapSeq (·.push k)) }) (fun _ _ => False) s →
      wpAny (model X.prog X.w) X.A.in1.in1 (body x ⟨⟩) (fun r s' => r = .yield ⟨⟩ ∧ D' s') E s) (hS0 : H0 kS = none) :
    ∀ (ys : List V) (us : List Value) (ys0 kvs : List V) (H1 : Hp) (s1 : Shared), Vals ys us → ys0.length + ys.length < 64 → Inv X pins σ H1 s1 → H1 kS = some (.lst kvs) → Same H0 H1 → (∀ y ∈ ys, KeyFn sp kf H0 y) → Paired (KeyAt kf H1) ys0 kvs →
      (∀ kvs2 H2 s2, Inv X pins σ H2 s2 → H2 kS = some (.lst kvs2) → Same H0 H2 → Paired (KeyAt kf H2) (ys0 ++ ys) kvs2 → Q' s2) → wpAny (model X.prog X.w) X.A.in1.in1 (forIn us PUnit.unit body) (fun _ s2 => Q' s2) E s1
  | _, _, ys0, kvs, H1, s1, .nil, hl, I, hH, sm, hk, hp, fin => by
    rw [List.forIn_nil]
    rw [List.append_nil] at fin
    exact wpAny_pure (fin kvs H1 s1 I hH sm hp)
  | y :: ys, u :: us, ys0, kvs, H1, s1, .cons ru rus, hl, I, hH, sm, hk, hp, fin => by
    rw [List.forIn_cons]
    rw [List.length_cons] at hl
    have hkl : ys0.length = kvs.length := Paired.length hp
    have h1 := run_key F hr hb I ru (hk y List.mem_cons_self H1 sm (fun v H2 => ∃ t, v = .ref t ∧ Same H1 H2 ∧ H2 t = some (.tup ((kf y).map V.int))) fun t H2 s2 ht => ⟨t, rfl, s2, ht⟩)
    refine wpAny_bind (wpAny_mono (hbody u s1 (fun s2 => ∃ kvs' H3, Inv X pins σ H3 s2 ∧ H3 kS = some (.lst kvs') ∧ Same H0 H3 ∧ Paired (KeyAt kf H3) (ys0 ++ [y]) kvs') (wpAny_mono h1 (fun kv s2 hq => ?_) fun _ _ x => x)) (fun r s2 hq => ?_) fun _ _ x => x)
    · obtain ⟨v, H2, I2, rv, t, rfl, s12, ht⟩ := hq
      have hH2 := s12 _ _ hH
      obtain ⟨z, its, n, r, hl2, e⟩ := I2.lstM hH2
      refine ⟨its.toArray, n, e, by rw [List.size_toArray]; omega, kvs ++ [.ref t], _, I2.lset (t' := s2.toks) (its' := its ++ [kv]) hH2 e (by simp) (r.append (.cons rv .nil)) (by rw [List.length_append, List.length_singleton, sizeLine_eq]; omega), upd_same, ?_, ?_⟩
      · exact (sm.trans s12).upd hS0
      · have up : ∀ b xs, H2 b = some (.tup xs) → (upd H2 kS (.lst (kvs ++ [V.ref t]))) b = some (.tup xs) := fun b xs q => (upd_ne fun z => by rw [z, hH2] at q; cases q).trans q
        exact Paired.snoc (Paired.imp (fun a b q => q.same fun t xs h => up _ _ (s12 _ _ h)) hp) ⟨t, rfl, up _ _ ht⟩
    · obtain ⟨rfl, kvs', H3, I3, hH3, sm3, hp3⟩ := hq
      refine key_loop F hr hb hbody hS0 ys us (ys0 ++ [y]) kvs' H3 s2 rus (by rw [List.length_append, List.length_singleton]; omega) I3 hH3 sm3 (fun z hz => hk z (List.mem_cons_of_mem _ hz)) hp3 fun kvs2 H4 s4 I4 hH4 sm4 hp4 => fin kvs2 H4 s4 I4 hH4 sm4 ?_
      rwa [List.append_assoc] at hp4
end
section
variable {P : Program} {w : World} {A : Around} {E : Value → Shared → Prop} {s : Shared}
theorem end_keyed {G : Array Nat → Prop} {ks us : List Value} {a kS : Addr} {e1 nk : Nat} {R : PySem.Fin → Shared → Prop} (fs : Nat → List Int) (hkl : ks.length = us.length) (hlen : us.length < 64) (hk : s.heap.get? kS = some (seqObj "list" ks.toArray nk)) (ho : s.heap.get? a = some (seqObj "list" #[] e1)) (hak : a ≠ kS)
    (hT : ∀ i, i < us.length → fs i ≠ [] ∧ ∃ b o xs m, ks.getD i Value.none = .ref b ∧ s.heap.get? b = some o ∧ o.cls = .type "tuple" ∧ o.data = .seq xs m ∧ Vals ((fs i).map V.int) xs.toList)
    (hG : 0 < us.length → Kok (fun i j => lexB (fs i) (fs j) (decide ((fs i).length < (fs j).length))) us.length G (kas_sort us.length)) (hG0 : us.length < 2 → G (List.range us.length).toArray) (hGP : ∀ p, G p → Prm us.length p)
    (fin : ∀ p : Array Nat, G p → R (.done (.ret .none)) { s with heap := (s.heap.update kS (Obj.mapSeq fun _ => #[])).update a (Obj.mapSeq fun _ => List.toArray (p.toList.map fun i => us.getD i Value.none)) }) :
    wpAny (model P w) A (ksk_end a false us.toArray e1 (.ref kS) ks.toArray) R E s := by
  have hus : us.toArray.size = us.length := by simp
  have tail : ∀ st' (p : Array Nat), arrOf st' = p.map (kas_item (ks.toArray.zip us.toArray)) → failedOf st' = none → G p → wpAny (model P w) A (ksk_tail a false e1 (.ref kS) st') R E s := fun st' p har hf hp => by
    have hpl : (p.toList.map fun i => us.getD i Value.none).length = us.length := by rw [List.length_map, (hGP p hp).length_eq]; simp
    have ho2 : (s.heap.update kS (Obj.mapSeq fun _ => #[])).get? a = some (seqObj "list" #[] e1) := (Heap.get?_update_ne _ _ _ _ hak).trans ho
    unfold ksk_tail
    try dsimp only
    rw [kat_snds hkl har]
    refine wpAny_bind (listUpdate_at hk rfl ?_ (by rw [List.size_toArray, sizeLine_eq]; omega) (Nat.zero_le _))
    refine wpAny_bind (wpAny_letGo ?_)
    refine wpAny_bind (seqEpoch_at ho2 rfl ?_)
    refine wpAny_bind (listUpdate_at ho2 rfl ?_ (Nat.zero_le _) (by simp only [Bool.false_eq_true, if_false]; rw [List.size_toArray, hpl, sizeLine_eq]; omega))
    rw [hf]
    simp only [bne_self_eq_false, Bool.false_eq_true, if_false]
    exact wpAny_pure (fin p hp)
  unfold ksk_end
  try dsimp only
  rw [if_neg (by decide)]
  by_cases h2 : us.toArray.size < 2
  · rw [if_pos h2, if_pos h2]
    refine wpAny_bind (wpAny_pure ?_); rw [StateT.run_pure]; refine wpAny_bind (wpAny_pure ?_); dsimp only
    refine tail _ (List.range us.length).toArray ?_ rfl (hG0 (by rw [← hus]; exact h2))
    have e := kas_range (ks.toArray.zip us.toArray)
    rw [show (ks.toArray.zip us.toArray).size = us.length by simp [hkl]] at e
    exact e.symm
  · rw [if_neg h2, if_neg h2]
    have hn : 0 < us.length := by omega
    obtain ⟨ff, k1, k2, k3⟩ := tups_of (h := s.heap) (us := ks) (by
      intro v hv
      obtain ⟨i, hi, e⟩ := List.getElem_of_mem hv
      obtain ⟨g0, b, o, xs, m, g1, g3, g4, g5, g6⟩ := hT i (by omega)
      have e2 : ks.getD i Value.none = v := by rw [← e]; simp [hi]
      cases hq : fs i with
      | nil => exact (g0 hq).elim
      | cons z zs =>
        rw [hq, List.map_cons] at g6
        cases hx : xs.toList with
        | nil => rw [hx] at g6; cases g6
        | cons u ur =>
          rw [hx] at g6
          cases g6 with
          | cons r1 r2 =>
          obtain ⟨t, rfl⟩ := r1
          refine ⟨b, o, xs, m, z, t, e2.symm.trans g1, g3, g4, g5, ?_⟩
          rw [← Array.getElem?_toList, hx]; rfl)
    refine wpAny_bind (kat_kind k1 (by omega) (fun v hv => ?_) (T := .type "int") rfl ?_)
    · obtain ⟨i, t, rfl⟩ := k3 v hv
      exact Looks.of_pure rfl
    refine wpAny_bind (wpAny_mono (kat_run (ks := ks) (vs := us) (Q := fun st' s' => ∃ p : Array Nat, arrOf st' = p.map (kas_item (ks.toArray.zip us.toArray)) ∧ failedOf st' = none ∧ G p ∧ s' = s)
      (G := fun p s' => G p ∧ s' = s) hkl (by omega) hlen (fun p st' s' a1 a2 a3 a4 => ⟨p, a2, a3, a4.1, a4.2⟩)
      (Kok.wp (lt := fun i j => lexB (fs i) (fs j) (decide ((fs i).length < (fs j).length))) (fun i j C hi hj hC => ?_) (hG hn) fun p hp => ⟨hp, rfl⟩)) ?_ fun _ _ e => e)
    · obtain ⟨_, b, o, xs, m, g1, g3, g4, g5, g6⟩ := hT i hi
      obtain ⟨_, b', o', xs', m', g1', g3', g4', g5', g6'⟩ := hT j hj
      show wpAny _ _ (keyLt' _ (ks.getD i Value.none) (ks.getD j Value.none)) _ _ _
      rw [g1, g1']
      refine kat_lt g3 g5 g3' g5' (lex_ints g6 g6' 0 ?_)
      have z1 : (fs i).length = xs.size := by simpa using g6.length
      have z2 : (fs j).length = xs'.size := by simpa using g6'.length
      rw [← z1, ← z2]
      exact hC
    · rintro ⟨⟨⟩, st'⟩ s' ⟨p, har, hf, hp, rfl⟩
      dsimp only
      exact tail st' p har hf hp
end
theorem ksk_s1' (a v : Value) : argsOk "list.sort" ⟨[a], [(Str.ofString "key", v)]⟩ := by unfold argsOk; kernel_rfl
section
variable {X : Cx} {pins : List (Addr × Obj)} {σ : St} {H : Hp} {s : Shared} {k : Nat} {f : Addr} {fd : FuncData} {ps : List Str} {sp : Sp}
def rSortK (K : PySem.W.Frag) (sp : Sp) : V → Hp → VK → Prop := fun x H Q => ∃ (a : Addr) (ys : List V) (kf : V → List Int), x = .ref a ∧ SqL K H a ys ∧ ys.length < 64 ∧ (∀ y ∈ ys, kf y ≠ [] ∧ KeyFn sp kf H y) ∧
  ∀ p zs H', Same H H' → H p = none → H' p = some (.lst zs) → zs.Perm ys → (∀ m, (∀ y ∈ ys, (kf y).length = m) → (ys.map kf).Nodup → zs.Pairwise fun y z => lexB (kf y) (kf z) false = true) → Q (.ref p) H'
theorem paired_getD {α β : Type} {Pr : α → β → Prop} {d1 : α} {d2 : β} : ∀ {xs : List α} {ys : List β} {i : Nat}, Paired Pr xs ys → i < xs.length → Pr (xs.getD i d1) (ys.getD i d2)
  | _, _, _, .nil, h => by simp at h
  | _, _, 0, .cons r _, _ => r
  | _, _, i + 1, .cons _ t, h => by
    simp only [List.getD_cons_succ]
    exact paired_getD t (by simpa using h)
theorem sorted_key {Q : VK} {x : V} {u : Value} (F : FnOk X.prog X.w X.K X.mg X.base CX0 k f fd ps sp) (hr : Room (k + 2) X.A) (hb : Binds X.K fd ps []) (I : Inv X pins σ H s) (rx : RelV x u) (h : rSortK X.K sp x H Q) :
    wpAny (model X.prog X.w) X.A (call (.builtin "sorted") [u] [(Str.ofString "key", .ref f)]) (EP X pins σ Q) X.xe s := by
  obtain ⟨a, ys, kf, rfl, hq, hlen, hK, q⟩ := h
  cases rx
  obtain ⟨its, rv, pl, hz⟩ := I.list hq
  have hil : ys.length = its.length := rv.length
  have hl := pl.isList
  refine call_function_entry_kw kind_sorted plain_sorted entry_sorted (ksk_s1 _ _) ?_
  unfold Builtin.«sorted»; refine wpAny_bind (m := checkCount "sorted" 1 1 _) (wpAny_pure ?_); refine wpAny_bind (collect_list hl ?_ (by omega)); refine wpAny_bind (wpAny_newList ?_ (by omega))
  have hsz : ((s.heap.push (seqObj "list" #[] 0)).update s.heap.objs.size (Obj.mapSeq (· ++ its.toArray))).objs.size = s.heap.objs.size + 1 := by rw [Heap.size_update, size_push']
  have hob : (((s.heap.push (seqObj "list" #[] 0)).update s.heap.objs.size (Obj.mapSeq (· ++ its.toArray))).push (seqObj "list" its.toArray 0)).get? (s.heap.objs.size + 1) = some (seqObj "list" its.toArray 0) := by rw [← hsz]; exact Heap.get?_push_size _ rfl
  have keep : ∀ b o, s.heap.get? b = some o → (((s.heap.push (seqObj "list" #[] 0)).update s.heap.objs.size (Obj.mapSeq (· ++ its.toArray))).push (seqObj "list" its.toArray 0)).get? b = some o := fun b o e =>
    Heap.get?_push_of_some _ ((Heap.get?_update_ne _ _ _ _ (Nat.ne_of_lt (Heap.lt_size e))).trans (Heap.get?_push_of_some _ e))
  have hsz2 : (((s.heap.push (seqObj "list" #[] 0)).update s.heap.objs.size (Obj.mapSeq (· ++ its.toArray))).push (seqObj "list" its.toArray 0)).objs.size = s.heap.objs.size + 2 := by rw [size_push', hsz]
  show wpAny _ _ _ _ _ { s with heap := ((s.heap.push (seqObj "list" #[] 0)).update s.heap.objs.size (Obj.mapSeq (· ++ its.toArray))).push (seqObj "list" its.toArray 0) }
  rw [hsz]
  generalize ((s.heap.push (seqObj "list" #[] 0)).update s.heap.objs.size (Obj.mapSeq (· ++ its.toArray))).push (seqObj "list" its.toArray 0) = h2 at hob keep hsz2
  obtain ⟨D, hDe⟩ : ∃ D : Nat, s.heap.objs.size + 1 = D := ⟨_, rfl⟩
  rw [hDe] at hob ⊢
  refine wpAny_bind (wpAny_holding (wpAny_call_entry_kw slot_list_sort ⟨_, hob, rfl⟩ entry_list_sort ?body (ksk_s1' _ _)))
  case body =>
    show wpAny (model X.prog X.w) X.A.in1.in1 (Builtin.«list.sort» ⟨[.ref D], [(Str.ofString "key", .ref f)]⟩) _ _ _
    rw [ksk_t1]
    unfold ksk_tree
    refine wpAny_bind (listItems_at hob rfl ?_)
    refine wpAny_bind (listUpdate_at hob rfl ?_ (by rw [List.size_toArray, sizeLine_eq]; omega) (Nat.zero_le _))
    obtain ⟨e1, hob1⟩ : ∃ e1, (h2.update D (Obj.mapSeq fun _ => #[])).get? D = some (seqObj "list" #[] e1) := ⟨_, get?_update_seq hob (fun _ => #[])⟩
    refine wpAny_bind (seqEpoch_at hob1 rfl ?_); refine wpAny_bind (wpAny_newTuple ?_ (by show its.length ≤ _; rw [sizeLine_eq]; omega)); refine wpAny_bind (wpAny_newList ?_ (Nat.zero_le _)); refine wpAny_holding ?_
    have hkS : ((h2.update D (Obj.mapSeq fun _ => #[])).push (seqObj "tuple" its.toArray 0)).objs.size = s.heap.objs.size + 3 := by rw [size_push', Heap.size_update, hsz2]
    have keep4 : ∀ b o, s.heap.get? b = some o → (((h2.update D (Obj.mapSeq fun _ => #[])).push (seqObj "tuple" its.toArray 0)).push (seqObj "list" #[] 0)).get? b = some o := fun b o e => by
      have h9 : b < s.heap.objs.size := Heap.lt_size e
      have hb : b ≠ D := Nat.ne_of_lt (Nat.lt_trans h9 (by omega))
      exact Heap.get?_push_of_some _ (Heap.get?_push_of_some _ ((Heap.get?_update_ne _ _ _ _ hb).trans (keep b o e)))
    have hD4 : (((h2.update D (Obj.mapSeq fun _ => #[])).push (seqObj "tuple" its.toArray 0)).push (seqObj "list" #[] 0)).get? D = some (seqObj "list" #[] e1) := Heap.get?_push_of_some _ (Heap.get?_push_of_some _ hob1)
    have hk4 : (((h2.update D (Obj.mapSeq fun _ => #[])).push (seqObj "tuple" its.toArray 0)).push (seqObj "list" #[] 0)).get? (s.heap.objs.size + 3) = some (seqObj "list" #[] 0) := by rw [← hkS]; exact Heap.get?_push_size _ rfl
    show wpAny _ _ _ _ _ { s with heap := ((h2.update D (Obj.mapSeq fun _ => #[])).push (seqObj "tuple" its.toArray 0)).push (seqObj "list" #[] 0) }
    dsimp only
    rw [hkS]
    generalize ((h2.update D (Obj.mapSeq fun _ => #[])).push (seqObj "tuple" its.toArray 0)).push (seqObj "list" #[] 0) = h4 at keep4 hD4 hk4
    obtain ⟨kS, hkSe⟩ : ∃ kS : Nat, s.heap.objs.size + 3 = kS := ⟨_, rfl⟩
    rw [hkSe] at hk4 ⊢
    have hDk : D ≠ kS := Nat.ne_of_lt (by omega)
    have hDn : H D = none := I.hok.fresh (by omega)
    have hkn : H kS = none := I.hok.fresh (by omega)
    have I4 : Inv X pins σ (upd H kS (.lst [])) { s with heap := h4, toks := s.toks } := I.laid (t' := s.toks) keep4 (by omega) ⟨Nat.zero_le _, [], 0, .nil, hk4⟩
    have hFp : FpOk X pins (upd H kS (.lst [])) D := I.fpOk (by omega) ((upd_ne hDk).trans hDn)
    have I5 : Inv X (pins ++ [(D, seqObj "list" #[] e1)]) σ (upd H kS (.lst [])) { s with heap := h4, toks := s.toks } := I4.pins_of fun p hp => by
      rcases List.mem_append.mp hp with hp | hp
      · exact I4.pin p (List.mem_append_right _ hp)
      · obtain rfl := List.mem_singleton.mp hp
        exact ⟨hD4, hFp.1, hFp.2.1, hFp.2.2.1, fun v z => by cases z⟩
    unfold ksk_rest
    refine wpAny_bind (wpAny_rule ?_)
    first | rw [List.forIn_toArray] | rw [← Array.forIn_toList]
    refine wpAny_bind (key_loop (kf := kf) (H0 := H) (kS := kS) F hr hb (fun x s' D' hx => ?_) hkn ys its [] [] _ _ rv (by rw [List.length_nil]; omega) I5 upd_same (Same.new hkn) (fun y hy => (hK y hy).2) .nil fun kvs H2 s2 I2 hH2 sm2 hp2 => ?_)
    · refine wpAny_bind (wpAny_attempt (wpAny_mono hx (fun kv s'' hk => ?_) fun _ _ hF => hF.elim))
      obtain ⟨its', n', e', hs', hD'⟩ := hk
      try dsimp only
      refine wpAny_bind (listUpdate_at e' rfl ?_ (by rw [sizeLine_eq]; omega) (Nat.le_trans (Nat.le_of_eq (Array.size_push ..)) (by rw [sizeLine_eq]; omega)))
      exact wpAny_pure ⟨rfl, hD'⟩
    · obtain ⟨z, ks, n, rk, hkl0, e⟩ := I2.lstM hH2
      have hkl : ys.length = kvs.length := Paired.length hp2
      try dsimp only
      refine wpAny_bind (listItems_at e rfl ?_)
      have hpD := I2.pin (D, seqObj "list" #[] e1) (List.mem_append_right _ (List.mem_append_right _ (List.mem_singleton.mpr rfl)))
      refine end_keyed (G := fun p => Prm its.length p ∧ SortOk ys kf p) (fun i => kf (ys.getD i .non)) (by omega) (by omega) e hpD.1 hDk (fun i hi => ?_) (fun hn => hil ▸ sort_ok (by omega)) (fun h2 => ⟨List.Perm.refl _, fun m _ _ a b hab hb => absurd hab (by omega)⟩) (fun p hp => hp.1) fun p hp3 => ⟨_, rfl, wpAny_pure ⟨_, rfl, ?_⟩⟩
      · have hm : ys.getD i .non ∈ ys := by
          have : i < ys.length := by omega
          simp [this]
        obtain ⟨t, e2, e3⟩ := paired_getD (d1 := V.non) (d2 := V.non) hp2 (i := i) (by rw [List.nil_append]; omega)
        rw [List.nil_append] at e3
        obtain ⟨tv, rt, it, hz'⟩ := I2.tuple (SqT.of e3)
        obtain ⟨o, ho, hc, m, hd⟩ := it
        refine ⟨(hK _ hm).1, t, o, tv.toArray, m, ?_, ho, hc, hd, rt⟩
        have := vals_getD rk (i := i) (by omega)
        rw [e2] at this
        exact this
      · obtain ⟨hp, hord⟩ := hp3
        have hin : ∀ i ∈ p.toList, i < ys.length := fun i hi => by
          have := List.mem_range.mp (hp.mem_iff.mp hi)
          omega
        have hpl : p.toList.length = its.length := by rw [hp.length_eq]; simp
        have hzs : (p.toList.map fun i => ys.getD i V.non).Perm ys := by
          have := hp.map fun i => ys.getD i V.non
          rw [← hil, getD_rangeV] at this
          exact this
        have I3 := (I2.lset (t' := s2.toks) (its' := []) (f := fun _ => #[]) hH2 e rfl .nil (Nat.zero_le _)).unpinned
        have hFp3 : FpOk X pins (upd H2 kS (.lst [])) D := ⟨(upd_ne hDk).trans hpD.2.1, hFp.2⟩
        have hD3 : (s2.heap.update kS (Obj.mapSeq fun _ => #[])).get? D = some (seqObj "list" #[] e1) := (Heap.get?_update_ne _ _ _ _ hDk).trans hpD.1
        obtain ⟨c, hc⟩ : ∃ c, ((s2.heap.update kS (Obj.mapSeq fun _ => #[])).update D (Obj.mapSeq fun _ => List.toArray (p.toList.map fun i => its.getD i Value.none))).get? D = some (seqObj "list" (List.toArray (p.toList.map fun i => its.getD i Value.none)) c) := ⟨_, get?_update_seq hD3 _⟩
        refine ⟨.ref D, _, I3.adopt (t' := s2.toks) (zs := p.toList.map fun i => ys.getD i V.non) hFp3 (fun b o hb e => (Heap.get?_update_ne _ _ _ _ hb).trans e) hc (vals_pick rv hin) (by rw [List.length_map, hpl, sizeLine_eq]; omega), rfl, q _ _ _ ?_ hDn upd_same hzs fun m h1 h2 => ?_⟩
        · exact ((sm2.upd hkn).upd hDn)
        · refine List.pairwise_iff_getElem.mpr fun i j hi hj hij => ?_
          rw [List.length_map, hpl, ← hil] at hj
          have h3 := hord m h1 h2 i j hij hj
          have hs : p.size = ys.length := by rw [← Array.length_toList, hpl, hil]
          have e1 : p.getD i 0 = p.toList[i]'(by rw [Array.length_toList]; omega) := by simp [Array.getD, show i < p.size by omega]
          have e2 : p.getD j 0 = p.toList[j]'(by rw [Array.length_toList]; omega) := by simp [Array.getD, show j < p.size by omega]
          rw [e1, e2] at h3
          rw [List.getElem_map, List.getElem_map]
          exact h3
def tSortK (K : PySem.W.Frag) (sp : Sp) (t : TA) : TE := fun σ H Q => t σ H fun vs H1 => ∃ x, vs = [x] ∧ rSortK K sp x H1 Q
theorem ap_tSortK {K : PySem.W.Frag} {sp : Sp} {t : TA} {σ : St} {H : Hp} {Q : VK} : tSortK K sp t σ H Q = t σ H fun vs H1 => ∃ x, vs = [x] ∧ rSortK K sp x H1 Q := rfl
theorem ap_rSortK {K : PySem.W.Frag} {sp : Sp} {a : Addr} {H : Hp} {Q : VK} : rSortK K sp (.ref a) H Q = ∃ (ys : List V) (kf : V → List Int), SqL K H a ys ∧ ys.length < 64 ∧ (∀ y ∈ ys, kf y ≠ [] ∧ KeyFn sp kf H y) ∧
    ∀ p zs H', Same H H' → H p = none → H' p = some (.lst zs) → zs.Perm ys → (∀ m, (∀ y ∈ ys, (kf y).length = m) → (ys.map kf).Nodup → zs.Pairwise fun y z => lexB (kf y) (kf z) false = true) → Q (.ref p) H' := by simp [rSortK]
end
section
variable {X : Cx}
end
end L2
namespace L2
open PySem PySem.W PySem.Spec PyProof.Rows
section
variable {X : Cx}
def rEqR (K : PySem.W.Frag) : R2 := fun x y H Q => ∃ (a b : Addr) (xs ys : List V), x = .ref a ∧ y = .ref b ∧ SqL K H a xs ∧ SqL K H b ys ∧ ((xs.length ≠ ys.length ∧ Q (.bl false) H) ∨ (xs = ys ∧ (∀ v ∈ xs, ∃ c, v = .ref c) ∧ Q (.bl true) H))
def rNeR (K : PySem.W.Frag) : R2 := fun x y H Q => ∃ (a b : Addr) (xs ys : List V), x = .ref a ∧ y = .ref b ∧ SqL K H a xs ∧ SqL K H b ys ∧ ((xs.length ≠ ys.length ∧ Q (.bl true) H) ∨ (xs = ys ∧ (∀ v ∈ xs, ∃ c, v = .ref c) ∧ Q (.bl false) H))
theorem refs_same {A : Around} {s : Shared} : ∀ {xs : List V} {us us2 : List Value}, (∀ v ∈ xs, ∃ c, v = .ref c) → Vals xs us → Vals xs us2 → us = us2
  | _, _, _, _, .nil, .nil => rfl
  | _, _, _, h, .cons r1 t1, .cons r2 t2 => by
    obtain ⟨c, rfl⟩ := h _ List.mem_cons_self
    cases r1
    cases r2
    rw [refs_same (A := A) (s := s) (fun v hv => h v (List.mem_cons_of_mem _ hv)) t1 t2]
theorem op_eqR {k : Nat} (hr : Room k X.A) : OpR X (compareOp .Eq) (rEqR X.K) := by
  intro pins s σ H x y v u Q I rx ry h
  obtain ⟨a, b, xs, ys, rfl, rfl, h1, h2, h⟩ := h
  have hr' := hr.units
  have hu' : X.A.units < cLine := by omega
  cases rx
  cases ry
  obtain ⟨its, rv, p, _⟩ := I.list h1
  obtain ⟨its2, rv2, p2, _⟩ := I.list h2
  have l1 := rv.length
  have l2 := rv2.length
  rcases h with ⟨hn, q⟩ | ⟨rfl, hc, q⟩
  · exact SeqAt.RcAt.lists_lengths p.isList p2.isList (by simp only [List.size_toArray, bne_iff_ne]; omega) hu' X.prog X.w X.xe _ ⟨.bl _, H, I, rfl, q⟩
  · have e := refs_same (A := X.A) (s := s) hc rv rv2
    subst e
    have := SeqAt.RcAt.lists (A := X.A) (e := fun _ => true) p.isList p2.isList rfl hu' (fun j _ _ => SeqAt.EqAt.same _)
    rw [show ((List.range its.toArray.size).all fun _ => true) = true by simp] at this
    exact this X.prog X.w X.xe _ ⟨.bl _, H, I, rfl, q⟩
theorem op_eqRK {K : PySem.W.Frag} {k : Nat} (hr : Room k X.A) (hK : X.K = K := by rfl) : OpR X (compareOp .Eq) (rEqR K) := hK ▸ op_eqR hr
theorem mn_rEqR {K : PySem.W.Frag} : MonoR (rEqR K) := fun _ _ _ _ _ k ⟨a, b, c, d, e, f, g, h, q⟩ => ⟨a, b, c, d, e, f, g, h, q.elim (fun ⟨z, q⟩ => .inl ⟨z, k _ _ q⟩) fun ⟨z, z', q⟩ => .inr ⟨z, z', k _ _ q⟩⟩
theorem mn_rNeR {K : PySem.W.Frag} : MonoR (rNeR K) := fun _ _ _ _ _ k ⟨a, b, c, d, e, f, g, h, q⟩ => ⟨a, b, c, d, e, f, g, h, q.elim (fun ⟨z, q⟩ => .inl ⟨z, k _ _ q⟩) fun ⟨z, z', q⟩ => .inr ⟨z, z', k _ _ q⟩⟩
def rSetOf (K : PySem.W.Frag) : List V → Hp → VK → Prop := fun xs H Q => ∃ (a : Addr) (ns : List Int), xs = [.ref a] ∧ SqL K H a (ns.map V.int) ∧ ns.length ≤ 1000 ∧ ∀ l S n, H l = none → n ≤ ns.length → (ns.Nodup → n = ns.length) → Q (.ref l) (upd H l (.set S n))
theorem met_len : ∀ (ns acc : List Int), (ns.foldl step_dedup acc).length ≤ acc.length + ns.length
  | [], acc => Nat.le_refl _
  | n :: ns, acc => by
    rw [List.foldl_cons]
    refine Nat.le_trans (met_len ns _) ?_
    rw [List.length_cons]
    unfold step_dedup
    split
    · omega
    · rw [List.length_append, List.length_singleton]; omega
theorem met_map (ns : List Int) : (List.range ns.length).map (fun i => ns.getD i 0) = ns := by
  refine List.ext_getElem (by simp) fun i h1 h2 => ?_
  simp at h1 ⊢
  simp [h1]
def rLenS : List V → Hp → VK → Prop := fun xs H Q => ∃ (a : Addr) (S : Int → Bool) (n : Nat), xs = [.ref a] ∧ H a = some (.set S n) ∧ Q (.int n) H
theorem ap_setOf {K : PySem.W.Frag} {a : Addr} {H : Hp} {Q : VK} : rSetOf K [.ref a] H Q = ∃ ns : List Int, SqL K H a (ns.map V.int) ∧ ns.length ≤ 1000 ∧ ∀ l S n, H l = none → n ≤ ns.length → (ns.Nodup → n = ns.length) → Q (.ref l) (upd H l (.set S n)) := by simp [rSetOf]
theorem ap_lenSet {a : Addr} {H : Hp} {Q : VK} : rLenS [.ref a] H Q = ∃ (S : Int → Bool) (n : Nat), H a = some (.set S n) ∧ Q (.int n) H := by simp [rLenS]
theorem ap_eqR {K : PySem.W.Frag} {a b : Addr} {H : Hp} {Q : VK} : rEqR K (.ref a) (.ref b) H Q = ∃ (xs ys : List V), SqL K H a xs ∧ SqL K H b ys ∧ ((xs.length ≠ ys.length ∧ Q (.bl false) H) ∨ (xs = ys ∧ (∀ v ∈ xs, ∃ c, v = .ref c) ∧ Q (.bl true) H)) := by simp [rEqR]
theorem ap_neR {K : PySem.W.Frag} {a b : Addr} {H : Hp} {Q : VK} : rNeR K (.ref a) (.ref b) H Q = ∃ (xs ys : List V), SqL K H a xs ∧ SqL K H b ys ∧ ((xs.length ≠ ys.length ∧ Q (.bl true) H) ∨ (xs = ys ∧ (∀ v ∈ xs, ∃ c, v = .ref c) ∧ Q (.bl false) H)) := by simp [rNeR]
end
def Itr3 (lo c : Int) (n : Nat) : It := ⟨fun i _ => i < n, fun i H x H' => H' = H ∧ x = .int (lo + i * c), fun i _ => n ≤ i⟩
section
variable {X : Cx} {tg : Expr}
def iRng3 (ta : TA) : TI := fun σ H R => ta σ H fun vs H1 => ∃ (i j c : Int) (n : Nat), vs = [.int i, .int j, .int c] ∧ c ≠ 0 ∧ Builtin.divisionGoesByPylong (j - i) c = false ∧ Builtin.Range.small i j c = true ∧ Builtin.Range.rangeSize i j c = n ∧ R (Itr3 i c n) H1
theorem ap_iRng3 {ta : TA} {σ : St} {H : Hp} {R : It → Hp → Prop} : iRng3 ta σ H R = ta σ H fun vs H1 => ∃ (i j c : Int) (n : Nat), vs = [.int i, .int j, .int c] ∧ c ≠ 0 ∧ Builtin.divisionGoesByPylong (j - i) c = false ∧ Builtin.Range.small i j c = true ∧ Builtin.Range.rangeSize i j c = n ∧ R (Itr3 i c n) H1 := rfl
end
section
variable {K : PySem.W.Frag} {wi : TI} {cap : List (Option Nat)} {g : TG} {tt : TT} {te tl td tk : TE}
theorem mn_iList (h : MonoE tl) : MonoI (iList K tl) := fun σ H _ _ f q => h σ H _ _ (fun _ _ ⟨a, e, x, r⟩ => ⟨a, e, x, f _ _ r⟩) q
theorem mn_comp (hi : MonoI wi) : MonoE (tComp cap wi g tt te) := fun σ H Q Q' f h => by
  rw [ap_comp] at h ⊢
  exact hi σ H _ _ (fun J H1 hc D hD => by
    obtain ⟨W, w0, hW⟩ := hc D hD
    exact ⟨W, w0, fun i m acc σ1 H2 hw hD2 => (hW i m acc σ1 H2 hw hD2).imp (fun ⟨a, b⟩ => ⟨a, f _ _ b⟩) id⟩) h
theorem mn_dput (h1 : MonoE td) (h2 : MonoE tk) (h3 : MonoE te) : MonoS (sDPut td tk te) := fun D D' σ H f q => h3 σ H _ _ (fun v H1 q1 => h1 σ H1 _ _ (fun x H2 q2 => h2 σ H2 _ _ (fun y H3 ⟨a, H4, e1, e2, e3⟩ => ⟨a, H4, e1, e2, f.nx _ _ e3⟩) q2) q1) q
end
end L2
namespace L2
open PySem PySem.Spec PyProof.Rows
section
end
section
variable {X : Cx} {CX : CXT} {k : Nat} {f C : Addr} {fd : FuncData} {ps : List Str} {sp : Sp} {dvs : List V} {ds : List Value} {x : Str} {p pos : Pos} {e : Expr} {es : List Expr} {t : TA}
end
section
variable {X : Cx}
def tFR (x : Str) (t : TE) : TE := fun σ H Q => t σ H fun v H1 => ∃ z, v = .str z ∧ (reprText z).length ≤ 100000 ∧ Q (.str (x ++ reprText z)) H1
theorem ap_fr {x : Str} {t : TE} {σ : St} {H : Hp} {Q : VK} : tFR x t σ H Q = t σ H fun v H1 => ∃ z, v = .str z ∧ (reprText z).length ≤ 100000 ∧ Q (.str (x ++ reprText z)) H1 := rfl
def rSlS : V → Option Int → Option Int → Hp → VK → Prop := fun x _ _ H Q => ∃ z : Str, x = .str z ∧ z.length ≤ sizeLine ∧ ∀ y : Str, y.length ≤ z.length → (∀ c ∈ y.cps.toList, c ∈ z.cps.toList) → Q (.str y) H
theorem ap_slS {z : Str} {lo hi : Option Int} {H : Hp} {Q : VK} : rSlS (.str z) lo hi H Q = (z.length ≤ sizeLine ∧ ∀ y : Str, y.length ≤ z.length → (∀ c ∈ y.cps.toList, c ∈ z.cps.toList) → Q (.str y) H) := by simp [rSlS]
end
end L2
namespace L2
open PySem PySem.Spec PyProof.Rows
section
variable {X : Cx}
def tSlRev (K : PySem.W.Frag) (te ts : TE) : TE := fun σ H Q => te σ H fun x H1 => ts σ H1 fun y H2 => ∃ a xs, x = .ref a ∧ y = .int (-1) ∧ SqL K H2 a xs ∧ ∀ p, H2 p = none → Q (.ref p) (upd H2 p (.lst xs.reverse))
theorem ap_slRev {K : PySem.W.Frag} {te ts : TE} {σ : St} {H : Hp} {Q : VK} : tSlRev K te ts σ H Q = te σ H fun x H1 => ts σ H1 fun y H2 => ∃ a xs, x = .ref a ∧ y = .int (-1) ∧ SqL K H2 a xs ∧ ∀ p, H2 p = none → Q (.ref p) (upd H2 p (.lst xs.reverse)) := rfl
end
section
variable {K : PySem.W.Frag} {a : Addr} {xs : List V} {g : TG} {tt : TT} {te : TE} {σ : St} {H : Hp} {Q : VK} {cap : List (Option Nat)}
end
end L2
namespace L2
open PySem PySem.W PySem.Spec PySem.Calls PyProof.Rows
def LamO (f : Addr) (o : Obj) : HO := .ext fun h => h.get? f = some o
def RecO (c : Addr) (q : Str) : HO := .ext fun h => h.CodeRec (.ref c) q
def SameX (Pt : Addr) (H H' : Hp) : Prop := ∀ b o, b ≠ Pt → H b = some o → H' b = some o
theorem SameX.of {Pt : Addr} {H H' : Hp} (h : Same H H') : SameX Pt H H' := fun b o _ e => h b o e
theorem SameX.trans {Pt : Addr} {H H1 H2 : Hp} (h : SameX Pt H H1) (k : SameX Pt H1 H2) : SameX Pt H H2 := fun b o n e => k b o n (h b o n e)
def lamH (H : Hp) (Pt : Addr) (ps : Array Value) (c : Addr) (q : Str) (f : Addr) (o : Obj) : Hp := upd (upd (upd H Pt (.tbl ps)) c (RecO c q)) f (LamO f o)
section
variable {H : Hp} {Pt c f : Addr} {ps : Array Value} {q : Str} {o : Obj}
theorem lamH_f : lamH H Pt ps c q f o f = some (LamO f o) := upd_same
theorem lamH_c (h : c ≠ f) : lamH H Pt ps c q f o c = some (RecO c q) := (upd_ne h).trans upd_same
theorem lamH_ne {b : Addr} (h1 : b ≠ Pt) (h2 : b ≠ c) (h3 : b ≠ f) : lamH H Pt ps c q f o b = H b := (upd_ne h3).trans ((upd_ne h2).trans (upd_ne h1))
theorem lamH_old (hc : H c = none) (hf : H f = none) : SameX Pt H (lamH H Pt ps c q f o) := fun _ _ n e => (lamH_ne n (ne_of_none e hc) (ne_of_none e hf)).trans e
end
section
variable {X : Cx} {pins : List (Addr × Obj)} {σ : St} {H : Hp} {s : Shared}
theorem Inv.lam {h' : Heap} {tk : Nat} {Pt c f : Addr} {ps more : Array Value} {q : Str} {o : Obj} (I : Inv X pins σ H s) (hP : H Pt = some (.tbl ps)) (hx : ∀ b u, b ≠ Pt → s.heap.get? b = some u → h'.get? b = some u)
    (hp : h'.get? Pt = some { cls := .none, data := .fields (ps ++ more) }) (hc : s.heap.objs.size ≤ c) (hf : s.heap.objs.size ≤ f) (hcf : c ≠ f) (hrec : h'.CodeRec (.ref c) q) (hfo : h'.get? f = some o) :
    Inv X pins σ (lamH H Pt (ps ++ more) c q f o) { s with heap := h', toks := tk } := by
  have hPl : Pt < s.heap.objs.size := I.hok.lt hP
  have hPc : Pt ≠ c := Nat.ne_of_lt (Nat.lt_of_lt_of_le hPl hc)
  have hPf : Pt ≠ f := Nat.ne_of_lt (Nat.lt_of_lt_of_le hPl hf)
  have hcn := I.hok.fresh hc
  have hfn := I.hok.fresh hf
  have eP : lamH H Pt (ps ++ more) c q f o Pt = some (.tbl (ps ++ more)) := (upd_ne hPf).trans ((upd_ne hPc).trans upd_same)
  have old : SameX Pt H (lamH H Pt (ps ++ more) c q f o) := lamH_old hcn hfn
  have nP : ∀ {b : Addr}, H b = none → b ≠ Pt := fun n z => by rw [z, hP] at n; cases n
  refine I.un (h' := h') (t' := tk) ⟨fun b u e n _ _ => hx b u (nP n) e, fun b u e n _ _ => ⟨u.slots, hx b u (nP n) e⟩, fun b u e n _ => ?_, fun b u e _ => ?_, fun b xs e => old b _ (fun z => by rw [z, hP] at e; cases e) e, fun b u v e => old b _ (fun z => by rw [z, hP] at e; cases e) e, fun b ps' e => ?_⟩ fun b u e => ?_
  · have hb : b < s.heap.objs.size := Heap.lt_size e
    rw [lamH_ne (nP n) (Nat.ne_of_lt (Nat.lt_of_lt_of_le hb hc)) (Nat.ne_of_lt (Nat.lt_of_lt_of_le hb hf))]
    exact n
  · by_cases z : b = Pt
    · exact ⟨_, z ▸ hp⟩
    · exact ⟨u, hx b u z e⟩
  · by_cases z : b = Pt
    · subst z
      rw [hP] at e
      cases e
      exact ⟨more, eP⟩
    · exact ⟨#[], by rw [old b _ z e]; simp⟩
  · by_cases z : b = Pt
    · subst z
      rw [eP] at e
      obtain rfl := Option.some.inj e
      exact hp
    · by_cases zc : b = c
      · subst zc
        rw [lamH_c hcf] at e
        obtain rfl := Option.some.inj e
        obtain ⟨c2, oc, vs, t, e1, e2, e3, e4⟩ := id hrec
        cases e1
        refine ⟨hrec, ⟨oc, e2⟩, fun h1 h2 a k => ?_⟩
        obtain ⟨c3, o3, v3, t3, g1, g2, g3, g4⟩ := a
        cases g1
        exact ⟨_, o3, v3, t3, rfl, k _ g2, g3, g4⟩
      · by_cases zf : b = f
        · subst zf
          rw [lamH_f] at e
          obtain rfl := Option.some.inj e
          exact ⟨hfo, ⟨o, hfo⟩, fun h1 h2 a k => k _ a⟩
        · rw [lamH_ne z zc zf] at e
          refine (I.hok b u e).stay (fun d v hd r => hx d v ?_ r) (fun d r => old d _ (fun y => by rw [y, hP] at r; cases r) r) fun d v r => old d _ (fun y => by rw [y, hP] at r; cases r) r
          rcases hd with y | y
          · rw [y]; exact z
          · intro y2; rw [y2, hP] at y; cases y
end
section
variable {P : Program} {w : World} {K : PySem.W.Frag} {mg : Str → Option Value} {base : Heap}
def spLam (f c : Addr) (q : Str) (o : Obj) (x : Str) (tb : TE) : Sp := fun vs H Q _ => ∃ v, vs = [v] ∧ H f = some (LamO f o) ∧ H c = some (RecO c q) ∧ tb (start [x] [v]) H Q
theorem lam_ok {k : Nat} {f c : Addr} {q : Str} {params : Arguments} {body : Expr} {scope : Scope} {pm ctv : Value} {x : Str} {tb : TE} (S : FnScope [x] [x] scope)
    (hbody : ∀ (A : Around) (outer : List Env) (s : Shared) (H : Hp) (E : XK), Room k (A.deeper (envOfC q scope s.heap.objs.size f (.ref c))) → PE (cxOf CX0 P w K mg base [x] q scope f (.ref c) A outer s H E).nox body tb) :
    FnOk P w K mg base CX0 (k + 1) f (kla_fn "<lambda>" q params body scope [] pm (.ref c) ctv) [x] (spLam f c q (kla_obj "<lambda>" q params body scope [] pm c ctv) x tb) := by
  refine ⟨fun vs H Q E h => by obtain ⟨v, rfl, _⟩ := h; rfl, fun A outer s H args us vs Q E hr e0 hb r hsp => ?_⟩
  obtain ⟨v, rfl, hf, hc, ht⟩ := hsp
  have lim : s.heap.NoLimit := e0.mod.nolimit.keeps fun b o e => (e0.bs b o e).1
  have hof : s.heap.get? f = some (kla_obj "<lambda>" q params body scope [] pm c ctv) := (e0.hok f _ hf).1
  have hoc : s.heap.CodeRec (.ref c) q := (e0.hok c _ hc).1
  have hkind : ∀ y ∈ [x].zip us, scope.names.lookup y.1 = some .local ∨ (scope.names.lookup y.1 = some .cell ∧ ((cellsFrom (s.heap.objs.size + 1) scope.names []).lookup y.1).isSome = true) := fun ⟨n, v⟩ hy => by
    rcases S.par n (List.of_mem_zip hy).1 with q | q
    · exact .inl q
    · exact .inr ⟨q, PySem.W.cellsFrom_some _ _ _ (.inl q)⟩
  refine kla_callFunE hr.depth hof rfl S.co S.gen rfl hoc (hb _ _ _ _ ?_)
  refine wpAny_newFunctionEnv_cells S.kind hkind fun env he s1 y => ?_
  subst he
  refine ⟨lim.keeps y.toInCall.keep, kla_codeExpr ?_⟩
  have I : Inv (cxOf CX0 P w K mg base [x] q scope f (.ref c) A outer s H E) [] (start [x] [v]) H s1 := inv_start S hr.hd e0 rfl r y
  refine wpAny_mono ((PE.nox (hbody A outer s H E (hr.deeper _))) [] s1 (start [x] [v]) H Q I ht) (fun u s' hs => ?_) fun e s' hs => hs
  obtain ⟨v', H', J, rv, hq⟩ := hs
  exact ⟨v', H', J.os, J.bare, J.base, J.hok, rv, hq⟩
theorem Fun.okC {x qual : Str} {st : Stmt} {f : Addr} {fd : FuncData} {N ps : List Str} {k : Nat} {sp : Sp} (F : Fun K x qual st f fd) (S : FnScope N ps (defScope st)) (len : ∀ vs H Q E, sp vs H Q E → vs.length = ps.length)
    (hbody : ∀ (A : Around) (outer : List Env) (s : Shared) (H : Hp) (vs : List V) (Q : VK) (E : XK), Room k (A.deeper (envOfC qual (defScope st) s.heap.objs.size f fd.code)) → sp vs H Q E →
      ∃ t, PSs (cxOf CX0 P w K mg base N qual (defScope st) f fd.code A outer s H E).nox (defBody st) t ∧ t { nx := fun _ H' => Q .non H', rt := Q } (start N vs) H) : FnOk P w K mg base CX0 (k + 1) f fd ps sp := by
  obtain ⟨oc, od, kV, doc, pm, an, cdv, ct, osl, rfl, lk, hcd⟩ := F.ex
  refine fn_of lk hcd S len fun A outer s H vs Q E hr hsp => ?_
  obtain ⟨t, h, q⟩ := hbody A outer s H vs Q E hr hsp
  exact ⟨t, h.nox, q⟩
end
section
variable {X : Cx}
def tLam (Pt : Addr) (q : Str) (params : Arguments) (body : Expr) (scope : Scope) (pos : Pos) : TE := fun _ H Q => H Pt = some (.tbl #[]) ∧ ∀ f c pm ctv, H f = none → H c = none → c ≠ f →
  Q (.ref f) (lamH H Pt #[rawInt pos.line, rawInt pos.col, .ref c] c q f (kla_obj "<lambda>" q params body scope [] pm c ctv))
theorem pe_lam {Pt c0 : Addr} {q : Str} {params : Arguments} {body : Expr} {scope : Scope} {pos : Pos} (hcode : X.env.code = .ref c0) (hC : codeHdIn X.K c0 Pt = true) (hB : X.base.BuiltinsAt X.mg Pt)
    (hcl : closureFor scope X.env = pure []) (hdef : defaultsOf params X.env = ([], [])) (hq : X.env.qual ++ "<lambda>" = q) : PE X (.Lambda params body scope pos) (tLam Pt q params body scope pos) := by
  intro pins s σ H Q I h
  obtain ⟨hP, k⟩ := h
  subst hq
  have hPt : s.heap.get? Pt = some (tabObj #[]) := I.hok Pt _ hP
  have hgs : s.heap.Ns mainGlobals X.mg := I.ok.mod.glob.keeps I.bk
  have hgP : mainGlobals ≠ Pt := fun z => by
    obtain ⟨o, es, ep, e, hd, _⟩ := hgs
    rw [z, hPt] at e; cases e; cases hd
  obtain ⟨bm, ob, b1, b2, b3, b4, b5, b6⟩ := hB
  refine kla_eval hdef (kla_makeFunction (mg := X.mg) (ps := #[]) hcl I.ok.glob hgs hcode (codeHd_of_K I.kIn hC) hPt trivial rfl hgP ⟨bm, ob, b1, b2, b3, b4, I.bk _ _ b5, b6⟩ fun c' ctv h' tk hx hge hlt hrec htb => ?_)
  have hne : c' ≠ h'.objs.size := Nat.ne_of_lt hlt
  have hsz : s.heap.objs.size ≤ h'.objs.size := Nat.le_trans hge (Nat.le_of_lt hlt)
  refine ⟨.ref h'.objs.size, _, Inv.lam (tk := tk) (ps := #[]) (more := #[rawInt pos.line, rawInt pos.col, .ref c']) (c := c') (q := X.env.qual ++ "<lambda>") (f := h'.objs.size) I hP (fun b u n e => Heap.get?_push_of_some _ (hx b u n e)) (Heap.get?_push_of_some _ htb) hge hsz hne ?_ (Heap.get?_push_size _ rfl), rfl, ?_⟩
  · obtain ⟨c2, oc, vs, t, e1, e2, e3, e4⟩ := hrec
    exact ⟨c2, oc, vs, t, e1, Heap.get?_push_of_some _ e2, e3, e4⟩
  · exact k _ _ _ _ (I.hok.fresh hsz) (I.hok.fresh hge) hne
def tSortL (K : PySem.W.Frag) (Pt : Addr) (x : Str) (tb : TE) (t : TA) : TE := fun σ H Q => t σ H fun vs H1 => ∃ (a : Addr) (ys : List V) (kf : V → List Int), vs = [.ref a] ∧ SqL K H1 a ys ∧ ys.length < 64 ∧ H1 Pt = some (.tbl #[]) ∧
  (∀ y ∈ ys, kf y ≠ [] ∧ ∀ H2, SameX Pt H1 H2 → ∀ R : VK, (∀ t H3, Same H2 H3 → H3 t = some (.tup ((kf y).map V.int)) → R (.ref t) H3) → tb (start [x] [y]) H2 R) ∧
  ∀ p zs H', SameX Pt H1 H' → H1 p = none → H' p = some (.lst zs) → zs.Perm ys → (∀ m, (∀ y ∈ ys, (kf y).length = m) → (ys.map kf).Nodup → zs.Pairwise fun y z => lexB (kf y) (kf z) false = true) → Q (.ref p) H'
theorem pe_sortLam {k : Nat} {Pt c0 : Addr} {e : Expr} {t : TA} {tb : TE} {x q : Str} {params : Arguments} {body : Expr} {scope : Scope} {p lpos kpos pos : Pos} (hr : Room (k + 3) X.A)
    (hcode : X.env.code = .ref c0) (hC : codeHdIn X.K c0 Pt = true) (hB : X.base.BuiltinsAt X.mg Pt)
    (hgs : Gl X "sorted") (hms : X.mg "sorted" = none) (hvs : bootBuiltins "sorted" = some (.builtin "sorted")) (ha : PA X [e] t)
    (S : FnScope [x] [x] scope) (hq : X.env.qual ++ "<lambda>" = q)
    (hbody : ∀ (f c : Addr) (A : Around) (outer : List Env) (s : Shared) (H : Hp) (E : XK), Room k (A.deeper (envOfC q scope s.heap.objs.size f (.ref c))) → PE (cxOf CX0 X.prog X.w X.K X.mg X.base [x] q scope f (.ref c) A outer s H E).nox body tb)
    (hcl : closureFor scope X.env = pure [] := by rfl) (hdef : defaultsOf params X.env = ([], []) := by rfl)
    (hb : ∀ (pm : Value) (c : Addr) (ctv u : Value), bindArgs (kla_fn "<lambda>" q params body scope [] pm (.ref c) ctv) ⟨[u], []⟩ = pure [(x, u)] := by intros; rfl)
    (he : backTo pos (starEach [e] X.env) = (false, eval e X.env) :: backTo pos (starEach [] X.env) := by rfl) (hpl : (backTo pos (starEach [e] X.env)).any (·.1) = false := by rfl) :
    PE X (.Call (.Name "sorted" p) [e] [⟨some "key", .Lambda params body scope lpos, kpos⟩] pos) (tSortL X.K Pt x tb t) := by
  intro pins s σ H Q I h
  refine wpAny_Call_Name_kw (ld_blt I hgs hms hvs ?_)
  refine callWith_kw (thn (ha pos pins s σ H _ I h) fun us s1 ⟨vs, H1, I1, r, a, ys, kf, ex, hS, hlen, hP, hK, q⟩ => ?_) he hpl
  subst ex
  obtain ⟨u, rfl, rx⟩ := vals1 r
  have hk : PK X [⟨some "key", .Lambda params body scope lpos, kpos⟩] (tCons (tLam Pt _ params body scope lpos) tNil) := pk_cons (pe_lam hcode hC hB hcl hdef hq) pk_nil
  refine thn (hk pos pins s1 σ H1 (fun zs H2 => ∃ f c pm ctv, zs = [.ref f] ∧ H1 f = none ∧ H1 c = none ∧ c ≠ f ∧ H2 = lamH H1 Pt #[rawInt lpos.line, rawInt lpos.col, .ref c] c _ f (kla_obj "<lambda>" _ params body scope [] pm c ctv)) I1
    ⟨hP, fun f c pm ctv h1 h2 h3 => ⟨f, c, pm, ctv, rfl, h1, h2, h3, rfl⟩⟩) fun ws s2 ⟨zs, H2, I2, rz, f, c, pm, ctv, e1, h1, h2, h3, e2⟩ => ?_
  subst e1
  obtain ⟨w1, rfl, rw1⟩ := vals1 rz
  cases rw1
  have F := lam_ok (P := X.prog) (w := X.w) (K := X.K) (mg := X.mg) (base := X.base) (params := params) (pm := pm) (ctv := ctv) (f := f) (c := c) S (hbody f c)
  have sx : SameX Pt H1 H2 := e2 ▸ lamH_old h2 h1
  have ef := e2 ▸ lamH_f (H := H1) (Pt := Pt) (ps := #[rawInt lpos.line, rawInt lpos.col, .ref c]) (c := c) (f := f)
  have ec := e2 ▸ lamH_c (H := H1) (Pt := Pt) (ps := #[rawInt lpos.line, rawInt lpos.col, .ref c]) h3
  have hnP : a ≠ Pt ∨ H1 a = none := by
    rcases Classical.em (a = Pt) with z | z
    · right
      rcases hS with (y | ⟨o, y⟩) | y
      · rw [z, hP] at y; cases y
      · rw [z, hP] at y; cases y
      · obtain ⟨o, its, n, hk, _⟩ := y
        exact (I1.bs a o (I1.ok.mod.kin _ _ hk)).2
    · exact .inl z
  have hS2 : SqL X.K H2 a ys := by
    rcases hS with (y | ⟨o, y⟩) | y
    · exact .inl (.inl (sx _ _ (fun z => by rw [z, hP] at y; cases y) y))
    · exact .inl (.inr ⟨o, sx _ _ (fun z => by rw [z, hP] at y; cases y) y⟩)
    · exact .inr y
  refine sorted_key (k := k + 1) F hr (.all fun us hl => ?_) I2 rx ⟨a, ys, kf, rfl, hS2, hlen, fun y hy => ⟨(hK y hy).1, fun H3 s3 R hR => ⟨y, rfl, s3 _ _ ef, s3 _ _ ec, (hK y hy).2 H3 (sx.trans (.of s3)) R hR⟩⟩, fun p zs H' s' hp hz => q p zs H' (sx.trans (.of s')) ?_ hz⟩
  · match us, hl with
    | [u], _ => exact hb pm c ctv u
  · cases z : H1 p with
    | none => rfl
    | some o =>
      by_cases zp : p = Pt
      · have : H2 Pt ≠ none := by
          rw [e2]
          unfold lamH
          unfold upd
          split
          · simp
          · split
            · simp
            · simp
        rw [zp] at hp
        exact absurd hp this
      · rw [sx p o zp z] at hp
        cases hp
theorem pe_sortLamK {K : PySem.W.Frag} {Pt : Addr} {x : Str} {tb : TE} {t : TA} {e : Expr} (hK : X.K = K) (h : PE X e (tSortL X.K Pt x tb t)) : PE X e (tSortL K Pt x tb t) := hK ▸ h
theorem ap_tSortL {K : PySem.W.Frag} {Pt : Addr} {x : Str} {tb : TE} {t : TA} {σ : St} {H : Hp} {Q : VK} : tSortL K Pt x tb t σ H Q = t σ H fun vs H1 => ∃ (a : Addr) (ys : List V) (kf : V → List Int), vs = [.ref a] ∧ SqL K H1 a ys ∧ ys.length < 64 ∧ H1 Pt = some (.tbl #[]) ∧
  (∀ y ∈ ys, kf y ≠ [] ∧ ∀ H2, SameX Pt H1 H2 → ∀ R : VK, (∀ t H3, Same H2 H3 → H3 t = some (.tup ((kf y).map V.int)) → R (.ref t) H3) → tb (start [x] [y]) H2 R) ∧
  ∀ p zs H', SameX Pt H1 H' → H1 p = none → H' p = some (.lst zs) → zs.Perm ys → (∀ m, (∀ y ∈ ys, (kf y).length = m) → (ys.map kf).Nodup → zs.Pairwise fun y z => lexB (kf y) (kf z) false = true) → Q (.ref p) H' := rfl
end
theorem law_callT {P : Program} {w : World} {K : PySem.W.Frag} {mg mb : Str → Option Value} {CX : CXT} {k : Nat} {fa a c Pt : Addr} {fd : FuncData} {x : Str} {sp : Sp} {s₁ : Shared} {vs : List Value} {ns : List Int}
    (KX : K.In s₁.heap) (hT : s₁.heap.get? Pt = some (tabObj #[])) (hC : codeHdIn K c Pt = true) (hKT : K.lookup Pt = none) (hns : s₁.heap.Ns mainGlobals mg) (hb : s₁.heap.Ns builtinsNs mb) (hbb : ∀ x : Str, x ≠ "__name__" → mb x = bootBuiltins x) (hlim : s₁.heap.NoLimit)
    (hbm : ∃ bm ob, mg "__builtins__" = some (.ref bm) ∧ bm ≠ builtinsNs ∧ s₁.heap.get? bm = some ob ∧ ob.cls = .type "module" ∧ ob.dict = some builtinsNs ∧ ob.data = .plain) (hg : s₁.gens = #[])
    (ha : s₁.heap.get? a = some { cls := .type "list", data := .seq vs.toArray }) (hi : IntsAre vs ns) (hl : ns.length ≤ sizeLine) (hr : Room k callerA)
    (F : ∀ base : Heap, K.In base → base.Ns mainGlobals mg → base.BuiltinsAt mg Pt → FnOk P w K mg base CX k fa fd [x] sp) (hbind : ∀ (s : Shared) (u : Value), BindsTo s fd ⟨[u], []⟩ [(x, u)])
    (hsp : ∀ H : Hp, H Pt = some (.tbl #[]) → SqL K H a (ns.map V.int) → sp [.ref a] H (fun v _ => v = .bl true) fun _ _ _ => False)
    (hCX : ∀ H e s', CX [] H s₁ (fun _ _ _ => False) e s' → False) :
    codeAny (model P w) callerA (.call (.ref fa) ⟨[.ref a], []⟩) (fun r s' => r = .ok (.ret (.bool true)) ∧ OldK s₁.heap s'.heap ∧ s'.os = s₁.os ∧ AllBare s'.gens) s₁ := by
  have rv := vals_ints hi
  have lenV := hi.length
  have hPa : a ≠ Pt := fun z => by rw [z, hT] at ha; cases ha
  have hKP : ∀ o, K.lookup Pt = some o → False := fun o e => by rw [hKT] at e; cases e
  have tab : s₁.heap.TableAt c Pt #[] := (codeHd_of_K KX hC).tab hT
  have core : ∀ H : Hp, H Pt = some (.tbl #[]) → SqL K H a (ns.map V.int) → HOk P w H s₁.heap → (∀ b, b ≠ Pt → H b = none ∨ (b = a ∧ K.lookup a = none ∧ ∃ o xs, H b = some (.frz o (.lst xs)))) →
      codeAny (model P w) callerA (.call (.ref fa) ⟨[.ref a], []⟩) (fun r s' => r = .ok (.ret (.bool true)) ∧ OldK s₁.heap s'.heap ∧ s'.os = s₁.os ∧ AllBare s'.gens) s₁ := by
    intro H hP hS hok hA
    have noA : ∀ {b : Addr} {o : Obj}, s₁.heap.get? b = some o → o ≠ tabObj #[] → (∀ its n, o.data ≠ .seq its n) → H b = none := fun {b o} e h1 h2 => by
      by_cases z : b = Pt
      · subst z
        rw [hT] at e
        exact absurd (Option.some.inj e).symm h1
      · rcases hA b z with y | ⟨y, _⟩
        · exact y
        · subst y
          rw [ha] at e
          cases e
          exact absurd rfl (h2 _ _)
    have nsK : ∀ {b : Addr} {m : Str → Option Value}, s₁.heap.Ns b m → (hidT s₁.heap H).Ns b m := fun {b m} ⟨o, es, ep, e, d, r⟩ => ⟨o, es, ep, hidT_get e (noA e (fun z => by rw [z] at d; cases d) fun its n z => by rw [z] at d; cases d), d, r⟩
    have hKb : K.In (hidT s₁.heap H) := fun b o e => hidT_get (KX b o e) (by
      by_cases z : b = Pt
      · subst z
        exact (hKP o e).elim
      · rcases hA b z with y | ⟨y, hk, _⟩
        · exact y
        · subst y
          rw [hk] at e; cases e)
    have hM : Mod K mg (hidT s₁.heap H) := ⟨hKb, nsK hns, ⟨mb, nsK hb, hbb⟩, let ⟨mc, h1, h2⟩ := hlim; ⟨mc, nsK h1, h2⟩⟩
    have e0 : Env0 P w K mg (hidT s₁.heap H) callerA [] s₁ H := ⟨rfl, hM, fun b o e => of_hidT e, Nat.le_of_eq (hidT_size _ _), trivial, fun b hb => absurd (show b ∈ ([] : List Addr) from hb) (by simp), hok, .of_eq hg⟩
    have hBm : (hidT s₁.heap H).BuiltinsAt mg Pt := by
      obtain ⟨bm, ob, b1, b2, b3, b4, b5, b6⟩ := hbm
      have hn : H bm = none := noA b3 (fun z => by rw [z] at b4; cases b4) fun its n z => by rw [z] at b6; cases b6
      refine ⟨bm, ob, b1, b2, fun z => ?_, fun z => ?_, hidT_get b3 hn, b4, b5, b6⟩
      · obtain ⟨o, es, ep, e, d, _⟩ := hns
        rw [← z, b3] at e
        cases e
        rw [b6] at d
        cases d
      · rw [z, hP] at hn; cases hn
    refine codeAny_mono ((F _ hKb (nsK hns) hBm).run callerA [] s₁ H ⟨[.ref a], []⟩ [.ref a] [.ref a] _ _ hr e0 (hbind s₁ (.ref a)) (.cons rfl .nil) (hsp H hP hS)) fun r s' h => ?_
    cases r with
    | error e => exact (hCX H e s' h).elim
    | ok fl =>
      cases fl with
      | next => exact False.elim h
      | brk => exact False.elim h
      | cont => exact False.elim h
      | ret u =>
        obtain ⟨v, H', os, bare, un, hok', r', q⟩ := h
        have q' : v = .bl true := q
        subst q'
        obtain rfl : u = Value.bool true := r'
        refine ⟨rfl, ⟨fun b o e => ?_, fun b o e => un.there b o e (by simp)⟩, os, bare⟩
        by_cases z : b = Pt
        · subst z
          obtain ⟨more, e1⟩ := un.tbls b _ hP
          have e2 : s'.heap.get? b = some { cls := .none, data := .fields (#[] ++ more) } := hok' b _ e1
          rw [hT] at e
          cases e
          exact .inr (.inl ⟨tab.isCodeTable, rfl, #[], more, rfl, e2⟩)
        · rcases hA b z with y | ⟨_, _, ob, xs, y⟩
          · exact .inl (un.keep b o e y (by intro z; exact absurd (show b ∈ ([] : List Addr) from z) (by simp)) (by simp))
          · have z2 := un.frzs b ob _ y
            obtain ⟨e1, _⟩ := hok b _ y
            obtain ⟨e2, _⟩ := hok' b _ z2
            rw [e] at e1; cases e1
            exact .inl e2
  cases hk : K.lookup a with
  | some o =>
    have e := KX a o hk
    rw [ha] at e
    cases e
    refine core (fun b => if b = Pt then some (.tbl #[]) else none) (if_pos rfl) (.inr ⟨_, vs.toArray, _, hk, rfl, rfl, rfl, by rw [List.size_toArray, lenV]; exact hl, by simpa using rv⟩) (fun b u z => ?_) fun b n => .inl (if_neg n)
    by_cases hb : b = Pt
    · have z' := (if_pos hb).symm.trans z
      cases z'
      subst hb
      exact hT
    · have z' := (if_neg hb).symm.trans z
      cases z'
  | none =>
    refine core (fun b => if b = Pt then some (.tbl #[]) else if b = a then some (.frz { cls := .type "list", data := .seq vs.toArray } (.lst (ns.map V.int))) else none) (if_pos rfl) (.inl (.inr ⟨{ cls := .type "list", data := .seq vs.toArray }, (if_neg hPa).trans (if_pos rfl)⟩)) (fun b u z => ?_) fun b n => ?_
    · by_cases hb : b = Pt
      · have z' := (if_pos hb).symm.trans z
        cases z'
        subst hb
        exact hT
      · have z1 := (if_neg hb).symm.trans z
        by_cases hba : b = a
        · have z' := (if_pos hba).symm.trans z1
          cases z'
          subst hba
          exact ⟨ha, by rw [List.length_map]; exact hl, vs, _, rv, ha⟩
        · have z' := (if_neg hba).symm.trans z1
          cases z'
    · by_cases hba : b = a
      · exact .inr ⟨hba, hk, _, _, (if_neg n).trans (if_pos hba)⟩
      · exact .inl ((if_neg n).trans (if_neg hba))
theorem walk_ofT {l : PySem.W.OpenLaw} {n k : Nat} {q : Program} {loose : List Str} {XP : (Str → Option Value) → Heap → Prop} {YP : World → Heap → Prop} {d : DefRec} {K : Params → PySem.W.Frag} {CX : World → CXT} {sp : World → Sp} {x : Str} {Pt : Addr}
    (hn : l.most = some n) (hn2 : n ≤ sizeLine) (hdf : d.params.defaults = []) (hr : Room k callerA)
    (hY : ∀ (w : World) (h : Heap), YP w h → (K w.params).In h ∧ h.get? Pt = some (tabObj #[])) (hKT : ∀ w : World, (K w.params).lookup Pt = none)
    (F : ∀ (w : World) (mg : Str → Option Value) (fa : Addr) (h : Heap), (K w.params).In h → h.Ns mainGlobals mg → mg d.name = some (.ref fa) →
      ∃ fd : FuncData, (∀ (s : Shared) (u : Value), BindsTo s fd ⟨[u], []⟩ [(x, u)]) ∧ (∃ c, codeHdIn (K w.params) c Pt = true) ∧
        ∀ base : Heap, (K w.params).In base → base.Ns mainGlobals mg → base.BuiltinsAt mg Pt → FnOk l.prog w (K w.params) mg base (CX w) k fa fd [x] (sp w))
    (hsp : ∀ (w : World) (H : Hp) (a : Addr) (ns : List Int), ns.length ≤ n → H Pt = some (.tbl #[]) → SqL (K w.params) H a (ns.map V.int) → sp w [.ref a] H (fun v _ => v = .bl true) fun _ _ _ => False)
    (hCX : ∀ (w : World) (H : Hp) (s : Shared) (e : Value) (s' : Shared), CX w [] H s (fun _ _ _ => False) e s' → False) :
    PySem.W.WalkO q loose XP YP l.row.toRowW d [] (fun f vs => PySem.call f vs) := by
  refine Att.attach_call hn hdf fun w s₀ s₁ mg mb fa o pm cd doc a vs ns G Y ho hd hcd hmg hobj hints hlen hg => ?_
  obtain ⟨KX, hT⟩ := hY w _ Y
  obtain ⟨fd, hb, ⟨c, hC⟩, hF⟩ := F w mg fa _ KX G.T.g hmg
  exact law_callT KX hT hC (hKT w) G.T.g G.T.b G.T.builtins G.T.nolimit G.T.bmain hg hobj hints (Nat.le_trans hlen hn2) hr hF hb (fun H hP hS => hsp w H a ns hlen hP hS) fun H e s' => hCX w H s₁ e s'
end L2
namespace L2
open PySem PySem.W PySem.Spec PySem.Calls PyProof.Rows
section
variable {X : Cx}
def rIndex : V → List V → Hp → VK → Prop := fun x vs H Q => ∃ (l : Addr) (ns : List Int) (i : Int) (j : Nat), x = .ref l ∧ vs = [.int i] ∧ H l = some (.lst (ns.map V.int)) ∧ ns[j]? = some i ∧ (∀ m, m < j → ns[m]? ≠ some i) ∧ Q (.int j) H
theorem mt_index : MtM X "list.index" rIndex := by
  intro pins s σ H x vs v us Q I rx rv h
  obtain ⟨l, ns, i, j, rfl, rfl, hH, hj, hno, q⟩ := h
  cases rx
  obtain ⟨u, rfl, ru⟩ := rv.one
  obtain ⟨t, rfl⟩ := ru
  obtain ⟨z, its, n, r, hl, e⟩ := I.lstM hH
  have ia := intsAre_of r
  rw [List.length_map] at z hl
  have hjl : j < ns.length := (List.getElem?_eq_some_iff.mp hj).1
  have getI : ∀ (m : Nat) (hm : m < its.length), ∃ tk, its[m] = .int (ns[m]'(by omega)) tk := fun m hm => by
    have h1 : (ns.map V.int)[m]? = some (.int (ns[m]'(by omega))) := by rw [List.getElem?_map, List.getElem?_eq_getElem (by omega)]; rfl
    obtain ⟨u, hu, ru⟩ := r.get h1
    obtain ⟨tk, rfl⟩ := ru
    rw [List.getElem?_eq_getElem hm] at hu
    exact ⟨tk, Option.some.inj hu⟩
  let ev : Value → Bool := fun y => match y with | .int a _ => a == i | _ => false
  refine call_meets F.slot_list_index ⟨_, e, rfl⟩ F.entry_list_index (F.args_list_index_2 _ _) (MeetsSeq.list_index l its.toArray n (.int i t) ev (fun y hy => ?_) j (by rw [List.size_toArray]; omega) ?_ ?_ ?_) ⟨e, ?_⟩
  · have hy' : y ∈ its := by simpa using hy
    obtain ⟨m, hm, rfl⟩ := List.getElem_of_mem hy'
    obtain ⟨tk, e1⟩ := getI m hm
    rw [e1]
    exact MeetsSeq.EqGives.int _ _ _ _
  · have : sizeLine < 2 ^ 62 := by rw [sizeLine_eq]; decide
    omega
  · obtain ⟨tk, e1⟩ := getI j (by omega)
    rw [List.getElem_toArray, e1]
    show (ns[j] == i) = true
    rw [List.getElem?_eq_getElem hjl] at hj
    rw [Option.some.inj hj]
    exact beq_self_eq_true _
  · intro m hm hmj
    rw [List.size_toArray] at hm
    obtain ⟨tk, e1⟩ := getI m hm
    rw [List.getElem_toArray, e1]
    show (ns[m]'(by omega) == i) = false
    have := hno m hmj
    rw [List.getElem?_eq_getElem (by omega)] at this
    exact beq_eq_false_iff_ne.mpr fun z => this (by rw [z])
  · exact ⟨.int j, H, I.tok _, ⟨_, rfl⟩, q⟩
end
end L2
namespace L2
open PySem PySem.W PySem.Spec PySem.Calls PyProof.Rows
structure Apart3 (z TI TO i1 i2 i3 l1 l2 l3 : Addr) : Prop where
  zz : TI ≠ z ∧ TO ≠ z ∧ i1 ≠ z ∧ i2 ≠ z ∧ i3 ≠ z ∧ l1 ≠ z ∧ l2 ≠ z ∧ l3 ≠ z
  to : TI ≠ TO ∧ i1 ≠ TO ∧ i2 ≠ TO ∧ i3 ≠ TO ∧ l1 ≠ TO ∧ l2 ≠ TO ∧ l3 ≠ TO
  ii : i1 ≠ i2 ∧ i1 ≠ i3 ∧ i2 ≠ i3
  j1 : TI ≠ i1 ∧ l1 ≠ i1 ∧ l2 ≠ i1 ∧ l3 ≠ i1
  j2 : TI ≠ i2 ∧ l1 ≠ i2 ∧ l2 ≠ i2 ∧ l3 ≠ i2
  j3 : TI ≠ i3 ∧ l1 ≠ i3 ∧ l2 ≠ i3 ∧ l3 ≠ i3
section
variable {prog : Program} {w : World} {A : Around} {E : Value → Shared → Prop} {s : Shared}
end
section
variable {prog : Program} {w : World} {A : Around} {E : Value → Shared → Prop} {s : Shared}
end
section
variable {prog : Program} {w : World} {A : Around} {E : Value → Shared → Prop} {s : Shared}
end
def Itz3 (K : PySem.W.Frag) (a b c : Addr) : It :=
  ⟨fun i H => ∃ xs ys zs x y z, SqL K H a xs ∧ SqL K H b ys ∧ SqL K H c zs ∧ xs[i]? = some x ∧ ys[i]? = some y ∧ zs[i]? = some z,
   fun i H v H' => ∃ p x y z, H p = none ∧ v = .ref p ∧ H' = upd H p (.tup [x, y, z]) ∧ (∀ xs, SqL K H a xs → xs[i]? = some x) ∧ (∀ ys, SqL K H b ys → ys[i]? = some y) ∧ ∀ zs, SqL K H c zs → zs[i]? = some z,
   fun i H => ∃ xs ys zs, SqL K H a xs ∧ SqL K H b ys ∧ SqL K H c zs ∧ xs.length ≤ i⟩
section
variable {X : Cx} {K : PySem.W.Frag} {ta : TA} {elts : List Expr} {x1 : Nat} {tpos : Pos}
def iZip3 (K : PySem.W.Frag) (ta : TA) : TI := fun σ H R => ta σ H fun vs H1 => ∃ a b c, vs = [.ref a, .ref b, .ref c] ∧ (∃ xs, SqL K H1 a xs) ∧ (∃ ys, SqL K H1 b ys) ∧ (∃ zs, SqL K H1 c zs) ∧ R (Itz3 K a b c) H1
variable {σ : St} {H : Hp} {R : It → Hp → Prop} {g : TG} {tb : TS} {D : Ends} {a b c : Addr} {xs ys zs : List V}
theorem ap_iZip3 : iZip3 K ta σ H R = ta σ H fun vs H1 => ∃ a b c, vs = [.ref a, .ref b, .ref c] ∧ (∃ xs, SqL K H1 a xs) ∧ (∃ ys, SqL K H1 b ys) ∧ (∃ zs, SqL K H1 c zs) ∧ R (Itz3 K a b c) H1 := rfl
end
end L2
namespace L2
open PySem PySem.W PySem.Spec PySem.Calls PyProof.Rows
section
variable {prog : Program} {w : World} {A : Around} {s : Shared} {R : Result → Shared → Prop}
end
section
variable {prog : Program} {w : World} {A : Around} {E : Value → Shared → Prop} {s : Shared}
end
section
variable {X : Cx}
def tListRev (K : PySem.W.Frag) (t : TA) : TE := fun σ H Q => t σ H fun vs H1 => ∃ a ys, vs = [.ref a] ∧ SqL K H1 a ys ∧ ∀ l, H1 l = none → Q (.ref l) (upd H1 l (.lst ys.reverse))
theorem ap_tListRev {K : PySem.W.Frag} {t : TA} {σ : St} {H : Hp} {Q : VK} : tListRev K t σ H Q = t σ H fun vs H1 => ∃ a ys, vs = [.ref a] ∧ SqL K H1 a ys ∧ ∀ l, H1 l = none → Q (.ref l) (upd H1 l (.lst ys.reverse)) := rfl
end
end L2
namespace L2
open PySem PySem.W PySem.Spec PySem.Calls PyProof.Rows
section
variable {prog : Program} {w : World} {A : Around} {R : Result → Shared → Prop} {I : Addr} {fp wr : List Addr} {G : Array GenState → Array GenState → Prop} {n : Nat} {P : Nat → Value → Prop} {St : Nat → Shared → Prop}
end
section
variable {prog : Program} {w : World} {A : Around} {E : Value → Shared → Prop} {s : Shared}
end
section
variable {X : Cx}
def tMinD (K : PySem.W.Frag) (t : TA) (td : TE) : TE := fun σ H Q => t σ H fun vs H1 => td σ H1 fun y H2 => ∃ (a : Addr) (ns : List Int) (i : Int), vs = [.ref a] ∧ [y] = [.int i] ∧ SqL K H2 a (ns.map V.int) ∧ ns.Pairwise (· < ·) ∧ Q (.int (ns.headD i)) H2
theorem ap_tMinD {K : PySem.W.Frag} {t : TA} {td : TE} {σ : St} {H : Hp} {Q : VK} : tMinD K t td σ H Q = t σ H fun vs H1 => td σ H1 fun y H2 => ∃ (a : Addr) (ns : List Int) (i : Int), vs = [.ref a] ∧ [y] = [.int i] ∧ SqL K H2 a (ns.map V.int) ∧ ns.Pairwise (· < ·) ∧ Q (.int (ns.headD i)) H2 := rfl
end
end L2
namespace L2
open PySem PySem.W PySem.Spec PySem.Calls PyProof.Rows
open PySem.AutoSeq1 (wpAny_loadPart')
open PySem.MeetsSeq PySem.SeqAt
section
variable {X : Cx}
end
end L2
namespace L2
open PySem PySem.W PySem.Spec PyProof.Rows
section
variable {P : Program} {w : World} {A : Around} {E : Value → Shared → Prop} {s : Shared}
end
theorem ap_break {D : Ends} {σ : St} {H : Hp} : tBreak D σ H = D.bk σ H := rfl
section
variable {X : Cx}
def rSortN (K : PySem.W.Frag) : List V → Hp → VK → Prop := fun xs H Q => ∃ (a : Addr) (ys : List V) (ts : V → List Int) (m : Nat), xs = [.ref a] ∧ SqL K H a ys ∧ ys.length < 64 ∧ (ys.map ts).Nodup ∧
  (∀ y ∈ ys, (ts y).length = m ∧ ∃ b k r, y = .ref b ∧ SqT K H b (.ref k :: r) ∧ SqT K H k ((ts y).map V.int)) ∧
  ∀ p zs, H p = none → zs.Perm ys → (zs.Pairwise fun y z => lexB (ts y) (ts z) false = true) → Q (.ref p) (upd H p (.lst zs))
theorem ap_rSortN {K : PySem.W.Frag} {a : Addr} {H : Hp} {Q : VK} : rSortN K [.ref a] H Q = ∃ (ys : List V) (ts : V → List Int) (m : Nat), SqL K H a ys ∧ ys.length < 64 ∧ (ys.map ts).Nodup ∧
  (∀ y ∈ ys, (ts y).length = m ∧ ∃ b k r, y = .ref b ∧ SqT K H b (.ref k :: r) ∧ SqT K H k ((ts y).map V.int)) ∧
  ∀ p zs, H p = none → zs.Perm ys → (zs.Pairwise fun y z => lexB (ts y) (ts z) false = true) → Q (.ref p) (upd H p (.lst zs)) := by simp [rSortN]
end
end L2
namespace L2
open PySem PySem.W PySem.Spec PySem.Calls PyProof.Rows
section
variable {X : Cx}
end
end L2
namespace L2
open PySem PySem.W PySem.Spec PySem.Calls PyProof.Rows
section
variable {X : Cx}
def rSortI (K : PySem.W.Frag) : List V → Hp → VK → Prop := fun xs H Q => ∃ (a : Addr) (ns : List Int), xs = [.ref a] ∧ SqL K H a (ns.map V.int) ∧ ns.length < 64 ∧
  ∀ p (ms : List Int), H p = none → ms.Perm ns → (ms.Pairwise fun x y => x ≤ y) → Q (.ref p) (upd H p (.lst (ms.map V.int)))
theorem ap_rSortI {K : PySem.W.Frag} {a : Addr} {H : Hp} {Q : VK} : rSortI K [.ref a] H Q = ∃ (ns : List Int), SqL K H a (ns.map V.int) ∧ ns.length < 64 ∧
  ∀ p (ms : List Int), H p = none → ms.Perm ns → (ms.Pairwise fun x y => x ≤ y) → Q (.ref p) (upd H p (.lst (ms.map V.int))) := by simp [rSortI]
end
end L2
namespace L2
open PySem PySem.W PySem.Spec PySem.Calls PyProof.Rows
section
variable {X : Cx}
end
end L2
namespace L2
open PySem PySem.W PySem.Spec PySem.Calls PyProof.Rows
def viewI (v a : Addr) : HO := .ext fun h => h.IsItemsView v a
def Iti (a : Addr) (o : Obj) (kvs : List (Key × V)) : It := ⟨fun i H => H a = some (.frz o (.dK kvs)) ∧ i < kvs.length, fun i H x H' => ∃ p k v, H p = none ∧ x = .ref p ∧ H' = upd H p (.tup [kV k, v]) ∧ kvs[i]? = some (k, v), fun i H => H a = some (.frz o (.dK kvs)) ∧ kvs.length ≤ i⟩
section
variable {X : Cx} {elts : List Expr} {x1 : Nat} {tpos : Pos}
def iItems (tl : TE) : TI := fun σ H R => tl σ H fun x H1 => ∃ v a kvs, x = .ref v ∧ H1 v = some (viewI v a) ∧ H1 a = some (.dK kvs) ∧ ∀ o, R (Iti a o kvs) (upd H1 a (.frz o (.dK kvs)))
def rItems : V → List V → Hp → VK → Prop := fun x vs H Q => ∃ a kvs, x = .ref a ∧ vs = [] ∧ H a = some (.dK kvs) ∧ ∀ v, H v = none → Q (.ref v) (upd H v (viewI v a))
end
section
variable {K : PySem.W.Frag} {σ : St} {H : Hp} {Q : VK} {R : It → Hp → Prop} {tl : TE} {g : TG} {tt : TT} {te : TE} {cap : List (Option Nat)} {a : Addr} {o : Obj} {kvs : List (Key × V)}
theorem ap_iItems : iItems tl σ H R = tl σ H fun x H1 => ∃ v a kvs, x = .ref v ∧ H1 v = some (viewI v a) ∧ H1 a = some (.dK kvs) ∧ ∀ o, R (Iti a o kvs) (upd H1 a (.frz o (.dK kvs))) := rfl
theorem ap_rItems : rItems (.ref a) [] H Q = ∃ kvs, H a = some (.dK kvs) ∧ ∀ v, H v = none → Q (.ref v) (upd H v (viewI v a)) := by simp [rItems]
end
end L2
namespace L2
open PySem PySem.W PySem.Spec PySem.Calls PyProof.Rows
def Alike (ka kb : List (Key × V)) : Prop := ka.length = kb.length ∧ ∀ kv ∈ ka, ∃ i : Int, kv.2 = .int i ∧ valV kb kv.1 = some (.int i)
section
variable {X : Cx}
def rEqM : R2 := fun x y H Q => ∃ (a b : Addr) (ka kb : List (Key × V)), x = .ref a ∧ y = .ref b ∧ Rd H a (.dK ka) ∧ Rd H b (.dK kb) ∧ Alike ka kb ∧ Q (.bl true) H
def rNeM : R2 := fun x y H Q => ∃ (a b : Addr) (ka kb : List (Key × V)), x = .ref a ∧ y = .ref b ∧ Rd H a (.dK ka) ∧ Rd H b (.dK kb) ∧ Alike ka kb ∧ Q (.bl false) H
theorem ap_eqM {a b : Addr} {H : Hp} {Q : VK} : rEqM (.ref a) (.ref b) H Q = ∃ (ka kb : List (Key × V)), Rd H a (.dK ka) ∧ Rd H b (.dK kb) ∧ Alike ka kb ∧ Q (.bl true) H := by simp [rEqM]
theorem ap_neM {a b : Addr} {H : Hp} {Q : VK} : rNeM (.ref a) (.ref b) H Q = ∃ (ka kb : List (Key × V)), Rd H a (.dK ka) ∧ Rd H b (.dK kb) ∧ Alike ka kb ∧ Q (.bl false) H := by simp [rNeM]
end
end L2
namespace L2
open PySem PySem.W PySem.Spec PySem.Calls PyProof.Rows
def Itk (a : Addr) (o : Obj) (kvs : List (Key × V)) : It := ⟨fun i H => H a = some (.frz o (.dK kvs)) ∧ i < kvs.length, fun i H x H' => H' = H ∧ ∃ kv, kvs[i]? = some kv ∧ x = kV kv.1, fun i H => H a = some (.frz o (.dK kvs)) ∧ kvs.length ≤ i⟩
section
variable {X : Cx} {tg : Expr}
def iKeys (tl : TE) : TI := fun σ H R => tl σ H fun x H1 => ∃ a kvs, x = .ref a ∧ H1 a = some (.dK kvs) ∧ ∀ o, R (Itk a o kvs) (upd H1 a (.frz o (.dK kvs)))
end
section
variable {K : PySem.W.Frag} {σ : St} {H : Hp} {R : It → Hp → Prop} {tl : TE} {g : TG} {tb : TS} {D : Ends} {a : Addr} {o : Obj} {kvs : List (Key × V)}
theorem ap_iKeys : iKeys tl σ H R = tl σ H fun x H1 => ∃ a kvs, x = .ref a ∧ H1 a = some (.dK kvs) ∧ ∀ o, R (Itk a o kvs) (upd H1 a (.frz o (.dK kvs))) := rfl
end
end L2
namespace L2
open PySem PySem.W PySem.Spec PySem.Calls PyProof.Rows
section
variable {X : Cx}
end
end L2
namespace L2
open PySem PySem.Spec PyProof.Rows
section
variable {prog : Program} {w : World} {A : Around} {E : Value → Shared → Prop} {h : Heap} {g : Array GenState} {d : Drawn} {t : Nat} {os : OsState} {a : Addr} {o : Obj}
  {nm q : Str} {C N : Addr} {bs bm bmB : List Value} {hdct : Bool} {sn : List Str} {sub : List Value} {ab : Bool} {col : Option Bool} {dd : Option Addr} {k0 k1 k2 k3 k5 : Option Value} {B newId initId : String} {K : PySem.W.Frag}
end
end L2
namespace L2
open PySem PySem.Spec PyProof.Rows
structure XClsI (K : PySem.W.Frag) (C fI : Addr) : Prop where
  ex : ∃ (nm qn : Str) (N : Addr) (bs bm : List Value) (sn : List Str) (sub : List Value) (ab : Bool) (col : Option Bool) (dd : Option Addr) (k0 k1 k2 k3 k5 : Option Value), K.lookup C = some (excClassObj nm qn C N bs bm true sn sub ab col dd k0 k1 k2 k3 k5 "ValueError.__new__") ∧ PySem.W.tailIn K [.type "ValueError", .type "Exception", .type "BaseException", .type "object"] bm = true
  ini : PySem.W.findIn K (.ref C) "__init__" = some (some (.ref fI))
  fn : PySem.W.isFn K (.ref fI) = true
  sa : PySem.W.findIn K (.ref C) "__setattr__" = some (some (.builtin "object.__setattr__"))
  kp : PySem.W.keepIn K (.ref C) = true
theorem XClsI.obj {K : PySem.W.Frag} {C fI : Addr} {h : Heap} (c : XClsI K C fI) (X : K.In h) : ∃ (nm qn : Str) (N : Addr) (bs bm : List Value) (sn : List Str) (sub : List Value) (ab : Bool) (col : Option Bool) (dd : Option Addr) (k0 k1 k2 k3 k5 : Option Value),
    h.get? C = some (excClassObj nm qn C N bs bm true sn sub ab col dd k0 k1 k2 k3 k5 "ValueError.__new__") ∧ OwnTail h [.type "ValueError", .type "Exception", .type "BaseException", .type "object"] bm := by
  obtain ⟨nm, qn, N, bs, bm, sn, sub, ab, col, dd, k0, k1, k2, k3, k5, e1, e2⟩ := c.ex
  exact ⟨nm, qn, N, bs, bm, sn, sub, ab, col, dd, k0, k1, k2, k3, k5, X _ _ e1, PySem.W.tail_of_in X e2⟩
def rawX (C e : Addr) : HO := .ext fun h => ∃ t0, h.get? e = some ⟨.ref C, none, .fields #[t0, .none, .none, .none, .bool false, .none], #[]⟩
def madeX (C e d : Addr) : HO := .ext fun h => ∃ t0, h.get? e = some ⟨.ref C, some d, .fields #[t0, .none, .none, .none, .bool false, .none], #[]⟩
def excF (C e d : Addr) : HO := .ext fun h => ∃ o vs, h.get? e = some o ∧ o.cls = .ref C ∧ o.dict = some d ∧ o.data = .fields vs
def del (H : Hp) (a : Addr) : Hp := fun b => if b = a then none else H b
theorem del_same {H : Hp} {a : Addr} : del H a a = none := by unfold del; rw [if_pos rfl]
theorem del_ne {H : Hp} {a b : Addr} (h : b ≠ a) : del H a b = H b := by unfold del; rw [if_neg h]
section
variable {X : Cx} {CX : CXT} {k : Nat} {f C : Addr} {fd : FuncData} {ps ks : List Str} {sp : Sp} {dvs : List V} {ds : List Value} {E : XK} {x m fn : Str} {p np cpos pos apos : Pos} {e o : Expr} {es : List Expr} {ta tv : TE} {t tk : TA}
theorem Inv.drop {pins : List (Addr × Obj)} {σ : St} {H : Hp} {s : Shared} {a : Addr} {φ : Heap → Prop} (I : Inv X pins σ H s) (hH : H a = some (.ext φ)) : Inv X pins σ (del H a) s := by
  have nt : ∀ b xs, H b = some (.tup xs) → b ≠ a := fun b xs n z => by rw [z, hH] at n; cases n
  have nw : ∀ b y, H b = some (.own y) → b ≠ a := fun b y n z => by rw [z, hH] at n; cases n
  have ntb : ∀ b ps, H b = some (.tbl ps) → b ≠ a := fun b y n z => by rw [z, hH] at n; cases n
  have nf : ∀ b o u, H b = some (.frz o u) → b ≠ a := fun b o u n z => by rw [z, hH] at n; cases n
  have dn : ∀ b, H b = none → del H a b = none := fun b n => by unfold del; split; rfl; exact n
  refine ⟨I.ok, I.os, I.bare, ⟨I.base.keep, I.base.slot, fun b ob q n hx => dn b (I.base.free b ob q n hx), I.base.there, fun b xs q => ?_, fun b ob u q => ?_, fun b ps q => ?_⟩, I.loc, I.cell, dn _ I.free, fun x c e => dn _ (I.freeC x c e), fun p hp => ?_, fun b u e => ?_, I.len⟩
  · have h := I.base.tups b xs q; rw [del_ne (nt b xs h)]; exact h
  · have h := I.base.frzs b ob u q; rw [del_ne (nf b ob u h)]; exact h
  · obtain ⟨m, h⟩ := I.base.tbls b ps q; exact ⟨m, by rw [del_ne (ntb b _ h)]; exact h⟩
  · obtain ⟨p1, p2, p3⟩ := I.pin p hp; exact ⟨p1, dn _ p2, p3⟩
  · have hb : b ≠ a := fun z => by rw [z, del_same] at e; cases e
    rw [del_ne hb] at e
    exact (I.hok b u e).stay (fun _ _ _ q => q) (fun c q => by rw [del_ne (nw c _ q)]; exact q) fun c xs q => by rw [del_ne (nt c xs q)]; exact q
def tMakeX (C : Addr) (sp : Sp) (dvs : List V) (t : TA) : TE := fun σ H Q => t σ H fun vs H1 => vs.length ≤ sizeLine ∧ ∀ e, H1 e = none → sp (.ref e :: (vs ++ dvs)) (upd H1 e (rawX C e)) (fun v H2 => v = .non ∧ Q (.ref e) H2) E0
def tRaiseF (C : Addr) (fn : Str) (E : XK) (t : TA) : TS := fun _ σ H => t σ H fun vs H1 => ∃ n : Int, vs = [.int n] ∧ n.natAbs < 2 ^ 300 ∧ ∀ d, H1 d = none → E (.ref C) (some d) (upd H1 d (.xd [(fn, .int n)]))
structure XIni (K : PySem.W.Frag) (B : Addr) : Prop where
  ga : PySem.W.specialIn K (.ref B) "__getattribute__" = some (some (.builtin "type.__getattribute__"))
  rd : PySem.W.readsIn K B (.type "type") = true
  fi : PySem.W.findCls K (.ref B) (.type "type") "__init__" = some (.val (.builtin "ValueError.__init__"))
def tXIni (K : PySem.W.Frag) (t : TA) : TE := fun σ H Q => t σ H fun vs H1 => ∃ e C fI z, vs = [.ref e, .str z] ∧ H1 e = some (rawX C e) ∧ XClsI K C fI ∧ Q .non H1
def sXFld (K : PySem.W.Frag) (ta tv : TE) (f : Str) : TS := fun D σ H => tv σ H fun y H1 => ta σ H1 fun x H2 => ∃ e C fI, x = .ref e ∧ H2 e = some (rawX C e) ∧ XClsI K C fI ∧ NoAttr K C f ∧ ∀ d, H2 d = none → d ≠ e → D.nx σ (upd (upd H2 e (madeX C e d)) d (.xd [(f, y)]))
def tXFld (K : PySem.W.Frag) (ta : TE) (f : Str) : TE := fun σ H Q => ta σ H fun x H1 => ∃ e C fI d fs n, x = .ref e ∧ (H1 e = some (madeX C e d) ∨ H1 e = some (excF C e d)) ∧ XClsI K C fI ∧ XAsk K C ∧ NoAttr K C f ∧ H1 d = some (.xd fs) ∧ fs.lookup f = some (.int n) ∧ Q (.int n) H1
def tTryF (te : TX) (C : Addr) (i : Nat) (ts : TS) : TS := fun D σ H => te σ H (fun _ H1 => D.nx σ H1) fun cls dd H1 => cls = .ref C ∧ ∃ d, dd = some d ∧ ∀ ea, H1 ea = none →
  ts { nx := fun σ2 H2 => D.nx (σ2.set i none) H2, rt := D.rt, bk := fun σ2 H2 => D.bk (σ2.set i none) H2, ct := fun σ2 H2 => D.ct (σ2.set i none) H2 } (σ.set i (some (.ref ea))) (upd H1 ea (excF C ea d))
def rIsF (K : PySem.W.Frag) : List V → Hp → VK → Prop := fun xs H Q => ∃ ea C c k, xs = [.ref ea, c] ∧ (∃ d, H ea = some (excF C ea d)) ∧ (∃ fI, XClsI K C fI) ∧ XAsk K C ∧ ((∃ D, c = .ref D ∧ PySem.W.kitOne K (.ref C) (.ref D) = some k) ∨ (∃ T, c = .ty T ∧ PySem.W.kitOne K (.ref C) (.type T) = some k)) ∧ Q (.bl k) H
def rIsFs (K : PySem.W.Frag) : List V → Hp → VK → Prop := fun xs H Q => ∃ (ea C p : Addr) (cs : List Addr) (k : Bool), xs = [.ref ea, .ref p] ∧ (∃ d, H ea = some (excF C ea d)) ∧ (∃ fI, XClsI K C fI) ∧ XAsk K C ∧ H p = some (.tup (cs.map V.ref)) ∧ PySem.W.kitAny K (.ref C) (cs.map Value.ref) = some k ∧ Q (.bl k) H
def tFI (t : TE) : TE := fun σ H Q => t σ H fun v H1 => ∃ i : Int, v = .int i ∧ i.natAbs < 2 ^ 300 ∧ ∀ z : Str, z.length ≤ 10000 → Q (.str z) H1
end
section
variable {X : Cx} {K : PySem.W.Frag} {C : Addr} {sp : Sp} {dvs : List V} {E : XK} {x fn : Str} {p pos apos pos' : Pos} {e o value : Expr} {es : List Expr} {ta tv : TE} {t : TA} {σ : St} {H : Hp} {Q : VK} {D : Ends} {te : TX} {i : Nat} {ts : TS} {ea pa : Addr} {c : V}
theorem ap_makeX : tMakeX C sp dvs t σ H Q = t σ H fun vs H1 => vs.length ≤ sizeLine ∧ ∀ e, H1 e = none → sp (.ref e :: (vs ++ dvs)) (upd H1 e (rawX C e)) (fun v H2 => v = .non ∧ Q (.ref e) H2) E0 := rfl
theorem ap_raiseF : tRaiseF C fn E t D σ H = t σ H fun vs H1 => ∃ n : Int, vs = [.int n] ∧ n.natAbs < 2 ^ 300 ∧ ∀ d, H1 d = none → E (.ref C) (some d) (upd H1 d (.xd [(fn, .int n)])) := rfl
theorem ap_xini : tXIni K t σ H Q = t σ H fun vs H1 => ∃ e C fI z, vs = [.ref e, .str z] ∧ H1 e = some (rawX C e) ∧ XClsI K C fI ∧ Q .non H1 := rfl
theorem ap_sxfld : sXFld K ta tv fn D σ H = tv σ H fun y H1 => ta σ H1 fun x H2 => ∃ e C fI, x = .ref e ∧ H2 e = some (rawX C e) ∧ XClsI K C fI ∧ NoAttr K C fn ∧ ∀ d, H2 d = none → d ≠ e → D.nx σ (upd (upd H2 e (madeX C e d)) d (.xd [(fn, y)])) := rfl
theorem ap_xfld : tXFld K ta fn σ H Q = ta σ H fun x H1 => ∃ e C fI d fs n, x = .ref e ∧ (H1 e = some (madeX C e d) ∨ H1 e = some (excF C e d)) ∧ XClsI K C fI ∧ XAsk K C ∧ NoAttr K C fn ∧ H1 d = some (.xd fs) ∧ fs.lookup fn = some (.int n) ∧ Q (.int n) H1 := rfl
theorem ap_tryF : tTryF te C i ts D σ H = te σ H (fun _ H1 => D.nx σ H1) fun cls dd H1 => cls = .ref C ∧ ∃ d, dd = some d ∧ ∀ ea, H1 ea = none →
  ts { nx := fun σ2 H2 => D.nx (σ2.set i none) H2, rt := D.rt, bk := fun σ2 H2 => D.bk (σ2.set i none) H2, ct := fun σ2 H2 => D.ct (σ2.set i none) H2 } (σ.set i (some (.ref ea))) (upd H1 ea (excF C ea d)) := rfl
theorem ap_isF : rIsF K [.ref ea, c] H Q = ∃ C k, (∃ d, H ea = some (excF C ea d)) ∧ (∃ fI, XClsI K C fI) ∧ XAsk K C ∧ ((∃ D, c = .ref D ∧ PySem.W.kitOne K (.ref C) (.ref D) = some k) ∨ (∃ T, c = .ty T ∧ PySem.W.kitOne K (.ref C) (.type T) = some k)) ∧ Q (.bl k) H := propext
  ⟨fun ⟨ea', C, c', k, e, r⟩ => by cases e; exact ⟨C, k, r⟩, fun ⟨C, k, r⟩ => ⟨ea, C, c, k, rfl, r⟩⟩
theorem ap_isFs : rIsFs K [.ref ea, .ref pa] H Q = ∃ (C : Addr) (cs : List Addr) (k : Bool), (∃ d, H ea = some (excF C ea d)) ∧ (∃ fI, XClsI K C fI) ∧ XAsk K C ∧ H pa = some (.tup (cs.map V.ref)) ∧ PySem.W.kitAny K (.ref C) (cs.map Value.ref) = some k ∧ Q (.bl k) H := propext
  ⟨fun ⟨ea', C, p', cs, k, e, r⟩ => by cases e; exact ⟨C, cs, k, r⟩, fun ⟨C, cs, k, r⟩ => ⟨ea, C, pa, cs, k, rfl, r⟩⟩
theorem ap_FI : tFI ta σ H Q = ta σ H fun v H1 => ∃ i : Int, v = .int i ∧ i.natAbs < 2 ^ 300 ∧ ∀ z : Str, z.length ≤ 10000 → Q (.str z) H1 := rfl
end
end L2
namespace L2
open PySem PySem.W PySem.Spec PySem.Calls PyProof.Rows
section
variable {X : Cx}
end
end L2
namespace L2
open PySem PySem.Spec PyProof.Rows
section
variable {X : Cx} {C : Addr} {x : Str} {E : XK}
def tTryB (tb : XK → TS) (C : Addr) (i : Nat) (ts : TS) : TS := fun D σ H => tb (fun cls dd H1 => cls = .ref C ∧ ∃ d, dd = some d ∧ ∀ ea, H1 ea = none →
  ts { nx := fun σ2 H2 => D.nx (σ2.set i none) H2, rt := D.rt, bk := fun σ2 H2 => D.bk (σ2.set i none) H2, ct := fun σ2 H2 => D.ct (σ2.set i none) H2 } ((σ.map fun _ => none).set i (some (.ref ea))) (upd H1 ea (excF C ea d))) D σ H
theorem ap_tryB {tb : XK → TS} {i : Nat} {ts : TS} {D : Ends} {σ : St} {H : Hp} : tTryB tb C i ts D σ H = tb (fun cls dd H1 => cls = .ref C ∧ ∃ d, dd = some d ∧ ∀ ea, H1 ea = none →
  ts { nx := fun σ2 H2 => D.nx (σ2.set i none) H2, rt := D.rt, bk := fun σ2 H2 => D.bk (σ2.set i none) H2, ct := fun σ2 H2 => D.ct (σ2.set i none) H2 } ((σ.map fun _ => none).set i (some (.ref ea))) (upd H1 ea (excF C ea d))) D σ H := rfl
end
end L2
namespace L2
open PySem PySem.W PySem.Spec PySem.Calls PyProof.Rows
section
variable {X : Cx}
def rMinL (K : PySem.W.Frag) : List V → Hp → VK → Prop := fun xs H Q => ∃ (a : Addr) (ns : List Int), xs = [.ref a] ∧ SqL K H a (ns.map V.int) ∧ ns ≠ [] ∧ ∀ m, m ∈ ns → (∀ x ∈ ns, m ≤ x) → Q (.int m) H
theorem ap_rMinL {K : PySem.W.Frag} {a : Addr} {H : Hp} {Q : VK} : rMinL K [.ref a] H Q = ∃ (ns : List Int), SqL K H a (ns.map V.int) ∧ ns ≠ [] ∧ ∀ m, m ∈ ns → (∀ x ∈ ns, m ≤ x) → Q (.int m) H := by simp [rMinL]
end
end L2
namespace L2
open PySem PySem.W PySem.Spec PyProof.Rows
section
theorem bel_go {xs : Array Nat} {j : Nat} (hr : ∀ a b : Nat, a < b → b < xs.size → xs.getD a j < xs.getD b j) :
    ∀ f lo hi : Nat, lo ≤ hi → hi ≤ xs.size → hi - lo ≤ f → (∀ i, i < lo → xs.getD i j < j) → (∀ i, hi ≤ i → i < xs.size → j ≤ xs.getD i j) →
      SetTable.below.go xs j f lo hi ≤ xs.size ∧ (∀ i, i < SetTable.below.go xs j f lo hi → xs.getD i j < j) ∧ ∀ i, SetTable.below.go xs j f lo hi ≤ i → i < xs.size → j ≤ xs.getD i j
  | 0, lo, hi, h1, h2, h3, h4, h5 => by
    have : lo = hi := by omega
    subst this
    exact ⟨h2, h4, h5⟩
  | f + 1, lo, hi, h1, h2, h3, h4, h5 => by
    unfold SetTable.below.go
    split
    · rename_i hlt
      dsimp only
      split
      · rename_i hm
        refine bel_go hr f _ hi (by omega) h2 (by omega) (fun i hi' => ?_) h5
        rcases Nat.lt_or_ge i ((lo + hi) / 2) with g | g
        · exact Nat.lt_trans (hr _ _ g (by omega)) hm
        · rw [show i = (lo + hi) / 2 by omega]; exact hm
      · rename_i hm
        refine bel_go hr f lo _ (by omega) (by omega) (by omega) h4 fun i hi' hs => ?_
        rcases Nat.lt_or_ge ((lo + hi) / 2) i with g | g
        · have := hr _ _ g hs; omega
        · rw [show i = (lo + hi) / 2 by omega]; omega
    · rename_i hlt
      have : lo = hi := by omega
      subst this
      exact ⟨h2, h4, h5⟩
def RiseA (xs : Array Nat) : Prop := xs.toList.Pairwise (· < ·)
theorem RiseA.get {xs : Array Nat} (h : RiseA xs) (d : Nat) : ∀ a b : Nat, a < b → b < xs.size → xs.getD a d < xs.getD b d := fun a b h1 h2 => by
  have := List.pairwise_iff_getElem.mp h a b (by simpa using Nat.lt_trans h1 h2) (by simpa using h2) h1
  simpa [Array.getD, h2, Nat.lt_trans h1 h2] using this
theorem bel_spec {xs : Array Nat} (h : RiseA xs) (j : Nat) : SetTable.below xs j ≤ xs.size ∧ (∀ i, i < SetTable.below xs j → xs.getD i j < j) ∧ ∀ i, SetTable.below xs j ≤ i → i < xs.size → j ≤ xs.getD i j :=
  bel_go (h.get j) xs.size 0 xs.size (Nat.zero_le _) (Nat.le_refl _) (Nat.le_refl _) (fun i hi => absurd hi (Nat.not_lt_zero _)) fun i hi hs => absurd hi (by omega)
theorem bel_mem {xs : Array Nat} (h : RiseA xs) (j : Nat) : xs[SetTable.below xs j]? = some j ↔ j ∈ xs.toList := by
  obtain ⟨b1, b2, b3⟩ := bel_spec h j
  constructor
  · intro e
    rw [← Array.getElem?_toList] at e
    exact List.mem_of_getElem? e
  · intro hm
    obtain ⟨i, hi, e⟩ := List.getElem_of_mem hm
    have hi' : i < xs.size := by simpa using hi
    have e' : xs.getD i j = j := by simp [Array.getD, hi'] at e ⊢; exact e
    have : SetTable.below xs j = i := by
      rcases Nat.lt_trichotomy i (SetTable.below xs j) with g | g | g
      · have := b2 i g; omega
      · exact g.symm
      · have z := b3 _ (Nat.le_refl _) (Nat.lt_trans g hi')
        have := h.get j _ _ g hi'
        omega
    rw [this, Array.getElem?_eq_getElem hi']
    simpa using e
theorem bel_ins {xs : Array Nat} (h : RiseA xs) {j : Nat} (hn : j ∉ xs.toList) : RiseA (SetTable.insertAt xs (SetTable.below xs j) j) := by
  obtain ⟨b1, b2, b3⟩ := bel_spec h j
  unfold RiseA
  rw [SetTable.toList_insertAt]
  have e : xs.toList = xs.toList.take (SetTable.below xs j) ++ xs.toList.drop (SetTable.below xs j) := (List.take_append_drop _ _).symm
  have h' := h
  unfold RiseA at h'
  rw [e] at h'
  obtain ⟨p1, p2, p3⟩ := List.pairwise_append.mp h'
  have f1 : ∀ a ∈ xs.toList.take (SetTable.below xs j), a < j := fun a ha => by
    obtain ⟨i, hi, e⟩ := List.getElem_of_mem ha
    rw [List.length_take] at hi
    have hx : i < xs.size := by have := Array.length_toList (xs := xs); omega
    have := b2 i (by omega)
    rw [List.getElem_take] at e
    simp [Array.getD, hx] at this e
    omega
  have f2 : ∀ a ∈ xs.toList.drop (SetTable.below xs j), j < a := fun a ha => by
    have ha' := List.mem_of_mem_drop ha
    obtain ⟨i, hi, e⟩ := List.getElem_of_mem ha
    rw [List.length_drop] at hi
    have hx : SetTable.below xs j + i < xs.size := by have := Array.length_toList (xs := xs); omega
    have := b3 (SetTable.below xs j + i) (by omega) hx
    rw [List.getElem_drop] at e
    simp [Array.getD, hx] at this e
    have hne : a ≠ j := fun z => hn (z ▸ ha')
    omega
  exact List.pairwise_append.mpr ⟨p1, List.pairwise_cons.mpr ⟨f2, p2⟩, fun a ha b hb => by
    rcases List.mem_cons.mp hb with rfl | hb
    · exact f1 a ha
    · exact p3 a ha b hb⟩
theorem nodup_le {α : Type} [DecidableEq α] : ∀ {l1 l2 : List α}, l1.Nodup → (∀ x ∈ l1, x ∈ l2) → l1.length ≤ l2.length
  | [], _, _, _ => Nat.zero_le _
  | a :: l1, l2, h, hs => by
    have h' := List.nodup_cons.mp h
    have ha := hs a List.mem_cons_self
    have := nodup_le (l2 := l2.erase a) h'.2 fun x hx => by
      refine (List.mem_erase_of_ne fun e => ?_).mpr (hs x (List.mem_cons_of_mem _ hx))
      exact h'.1 (e ▸ hx)
    rw [List.length_erase_of_mem ha] at this
    have : 0 < l2.length := List.length_pos_of_mem ha
    simp only [List.length_cons]
    omega
def lps (mask : Nat) : Nat → Nat × Nat → Nat × Nat
  | 0, p => p
  | m + 1, p => lps mask m (SetTable.leap mask p.1 p.2)
def it5 (M : Nat) : Nat → Nat → Nat
  | 0, i => i
  | m + 1, i => it5 M m ((i * 5 + 1) % M)
def mk5 (M : Nat) : Nat → Nat → Nat → Nat
  | 0, _, acc => acc
  | m + 1, i, acc => mk5 M m ((i * 5 + 1) % M) (acc ||| 2 ^ i)
theorem mk5_bit (M e : Nat) : ∀ m i acc, (mk5 M m i acc).testBit e = true → acc.testBit e = true ∨ ∃ k, k < m ∧ it5 M k i = e
  | 0, i, acc, h => .inl h
  | m + 1, i, acc, h => by
    rcases mk5_bit M e m _ _ h with g | ⟨k, hk, g⟩
    · rw [Nat.testBit_or, Bool.or_eq_true] at g
      rcases g with g | g
      · exact .inl g
      · exact .inr ⟨0, by omega, by rw [Nat.testBit_two_pow] at g; simpa [it5] using g⟩
    · exact .inr ⟨k + 1, by omega, g⟩
theorem all5_7 : (List.range 8).all (fun i => mk5 8 8 i 0 == 2 ^ 8 - 1) = true := by decide +kernel
theorem all5_31 : (List.range 32).all (fun i => mk5 32 32 i 0 == 2 ^ 32 - 1) = true := by decide +kernel
theorem all5_127 : (List.range 128).all (fun i => mk5 128 128 i 0 == 2 ^ 128 - 1) = true := by decide +kernel
def Mk3 (mask : Nat) : Prop := mask = 7 ∨ mask = 31 ∨ mask = 127
theorem cov0 {mask : Nat} (h : Mk3 mask) {i e : Nat} (hi : i ≤ mask) (he : e ≤ mask) : ∃ m, m ≤ mask ∧ it5 (mask + 1) m i = e := by
  have key : mk5 (mask + 1) (mask + 1) i 0 = 2 ^ (mask + 1) - 1 := by
    rcases h with rfl | rfl | rfl
    · exact eq_of_beq (List.all_eq_true.mp all5_7 i (List.mem_range.mpr (by omega)))
    · exact eq_of_beq (List.all_eq_true.mp all5_31 i (List.mem_range.mpr (by omega)))
    · exact eq_of_beq (List.all_eq_true.mp all5_127 i (List.mem_range.mpr (by omega)))
  have hb : (mk5 (mask + 1) (mask + 1) i 0).testBit e = true := by
    rw [key, Nat.testBit_two_pow_sub_one]
    exact decide_eq_true (by omega)
  rcases mk5_bit _ _ _ _ _ hb with g | ⟨k, hk, g⟩
  · simp at g
  · exact ⟨k, by omega, g⟩
theorem lps_le {mask : Nat} : ∀ m (p : Nat × Nat), p.1 ≤ mask → (lps mask m p).1 ≤ mask
  | 0, p, h => h
  | m + 1, p, h => lps_le m _ (Nat.le_of_lt_succ (Nat.mod_lt _ (Nat.succ_pos _)))
theorem lps_two {mask : Nat} : ∀ m (p : Nat × Nat), (lps mask m p).2 = p.2 / 32 ^ m
  | 0, p => by simp [lps]
  | m + 1, p => by
    show (lps mask m _).2 = _
    rw [lps_two m]
    show p.2 / 32 / 32 ^ m = _
    rw [Nat.div_div_eq_div_mul, Nat.pow_succ, Nat.mul_comm]
theorem lps_add {mask : Nat} : ∀ a b (p : Nat × Nat), lps mask (a + b) p = lps mask b (lps mask a p)
  | 0, b, p => by rw [Nat.zero_add]; rfl
  | a + 1, b, p => by
    rw [show a + 1 + b = (a + b) + 1 by omega]
    exact lps_add a b _
theorem lps_zero {mask : Nat} : ∀ m i, (lps mask m (i, 0)).1 = it5 (mask + 1) m i
  | 0, i => rfl
  | m + 1, i => by
    show (lps mask m ((i * 5 + 1 + 0 / 32) % (mask + 1), 0 / 32)).1 = _
    rw [Nat.zero_div, Nat.add_zero, lps_zero m]
    rfl
theorem cov {mask : Nat} (h : Mk3 mask) {p : Nat × Nat} (h1 : p.1 ≤ mask) (h2 : p.2 < 2 ^ 64) {e : Nat} (he : e ≤ mask) : ∃ m, m ≤ mask + 13 ∧ (lps mask m p).1 = e := by
  have hz : (lps mask 13 p).2 = 0 := by
    rw [lps_two]
    exact Nat.div_eq_of_lt (Nat.lt_of_lt_of_le h2 (by decide))
  obtain ⟨m, hm, e'⟩ := cov0 h (lps_le 13 p h1) he
  refine ⟨13 + m, by omega, ?_⟩
  rw [lps_add]
  have : lps mask 13 p = ((lps mask 13 p).1, 0) := by rw [← hz]
  rw [this, lps_zero]
  exact e'
end
end L2
namespace L2
open PySem PySem.W PySem.Spec PyProof.Rows
section
structure TabOk (t : SetTable) (n : Nat) : Prop where
  rise : RiseA t.place
  dum : t.dummies = #[]
  plain : t.plain = true
  mask : Mk3 t.mask
  le : ∀ j ∈ t.place.toList, j ≤ t.mask
  size : t.place.size = n
theorem TabOk.slot {t : SetTable} {n : Nat} (h : TabOk t n) (j : Nat) : (t.slot j = .empty ∧ j ∉ t.place.toList) ∨ ∃ i, t.slot j = .live i := by
  unfold SetTable.slot
  dsimp only
  split
  · exact .inr ⟨_, rfl⟩
  · rename_i hne
    have hd : SetTable.has t.dummies j = false := by rw [h.dum]; rfl
    rw [hd]
    exact .inl ⟨rfl, fun hm => hne (by rw [(bel_mem h.rise j).mpr hm]; exact beq_self_eq_true _)⟩
theorem TabOk.empty {t : SetTable} {n : Nat} (h : TabOk t n) {j : Nat} (hj : j ∉ t.place.toList) : t.slot j = .empty := by
  rcases h.slot j with g | ⟨i, g⟩
  · exact g.1
  · exfalso
    unfold SetTable.slot at g
    dsimp only at g
    split at g
    · rename_i e
      exact hj ((bel_mem h.rise j).mp (eq_of_beq e))
    · rw [show SetTable.has t.dummies j = false by rw [h.dum]; rfl] at g
      exact absurd g (by simp)
theorem TabOk.room {t : SetTable} {n : Nat} (h : TabOk t n) (hn : n ≤ t.mask) : ∃ e, e ≤ t.mask ∧ e ∉ t.place.toList := by
  refine Classical.byContradiction fun hc => ?_
  have hall : ∀ e ∈ List.range (t.mask + 1), e ∈ t.place.toList := fun e he => Classical.byContradiction fun hz => hc ⟨e, Nat.le_of_lt_succ (List.mem_range.mp he), hz⟩
  have := nodup_le List.nodup_range hall
  rw [List.length_range, Array.length_toList, h.size] at this
  omega
theorem run_le (mask i : Nat) : SetTable.runEnd mask i - i ≤ 9 ∧ (i ≤ mask → i + (SetTable.runEnd mask i - i) ≤ mask) := by
  unfold SetTable.runEnd
  split <;> omega
theorem TabOk.probe {t : SetTable} {n : Nat} (ht : TabOk t n) (h : Int) :
    ∀ (f r : Nat) (p : SetTable.Probe), p.dummy = none → p.j + p.more ≤ t.mask → p.i ≤ t.mask → 10 * r + p.more + 1 ≤ f →
      (t.slot p.j = .empty ∨ ∃ m, m < r ∧ t.slot (lps t.mask (m + 1) (p.i, p.perturb)).1 = .empty) →
      ∃ j, SetTable.probe.go t (fun _ => h + 1) h f p = some (.empty j none) ∧ j ≤ t.mask ∧ j ∉ t.place.toList
  | 0, r, p, _, _, _, hf, _ => absurd hf (by omega)
  | f + 1, r, p, hd, hj, hi, hf, he => by
    unfold SetTable.probe.go
    rcases ht.slot p.j with ⟨e, hn⟩ | ⟨i, e⟩
    · rw [e]
      exact ⟨p.j, by rw [hd], by omega, hn⟩
    · rw [e] at he ⊢
      have he' : ∃ m, m < r ∧ t.slot (lps t.mask (m + 1) (p.i, p.perturb)).1 = .empty := he.elim (fun z => absurd z (by simp)) id
      have hb : (h + 1 == h) = false := by rw [beq_eq_false_iff_ne]; omega
      dsimp only
      rw [hb]
      simp only [Bool.false_eq_true, if_false]
      unfold SetTable.advance
      split
      · rename_i hm
        exact TabOk.probe ht h f r { p with j := p.j + 1, more := p.more - 1 } hd (by show p.j + 1 + (p.more - 1) ≤ _; omega) hi (by show 10 * r + (p.more - 1) + 1 ≤ f; omega) (.inr he')
      · rename_i hm
        obtain ⟨m, hm', e'⟩ := he'
        have hr := run_le t.mask (SetTable.leap t.mask p.i p.perturb).1
        have hl : (SetTable.leap t.mask p.i p.perturb).1 ≤ t.mask := Nat.le_of_lt_succ (Nat.mod_lt _ (Nat.succ_pos _))
        refine TabOk.probe ht h f (r - 1) ⟨(SetTable.leap t.mask p.i p.perturb).1, SetTable.runEnd t.mask (SetTable.leap t.mask p.i p.perturb).1 - (SetTable.leap t.mask p.i p.perturb).1, (SetTable.leap t.mask p.i p.perturb).1, (SetTable.leap t.mask p.i p.perturb).2, p.dummy⟩ hd (hr.2 hl) hl ?_ ?_
        · have := hr.1
          show 10 * (r - 1) + (SetTable.runEnd t.mask (SetTable.leap t.mask p.i p.perturb).1 - (SetTable.leap t.mask p.i p.perturb).1) + 1 ≤ f
          omega
        · cases m with
          | zero => exact .inl e'
          | succ m => exact .inr ⟨m, by omega, e'⟩
theorem bits_lt (h : Int) : SetTable.bits h < 2 ^ 64 := by
  unfold SetTable.bits
  have := Int.emod_lt_of_pos h (show (0 : Int) < 2 ^ 64 by decide)
  have := Int.emod_nonneg h (show (2 ^ 64 : Int) ≠ 0 by decide)
  omega
theorem TabOk.free {t : SetTable} {n : Nat} (ht : TabOk t n) (hn : n ≤ t.mask) (h : Int) : ∃ j, t.freeSlot h = some (j, false) ∧ j ≤ t.mask ∧ j ∉ t.place.toList := by
  obtain ⟨e, he, hz⟩ := ht.room hn
  have hi : SetTable.bits h % (t.mask + 1) ≤ t.mask := Nat.le_of_lt_succ (Nat.mod_lt _ (Nat.succ_pos _))
  obtain ⟨m, hm, em⟩ := cov ht.mask (p := (SetTable.bits h % (t.mask + 1), SetTable.bits h)) hi (bits_lt h) he
  have hr := run_le t.mask (SetTable.bits h % (t.mask + 1))
  obtain ⟨j, g1, g2, g3⟩ := ht.probe h (10 * SetTable.turns t.mask) (t.mask + 13) (t.probeStart h) rfl (hr.2 hi) hi (by
    show 10 * (t.mask + 13) + (SetTable.runEnd t.mask (SetTable.bits h % (t.mask + 1)) - SetTable.bits h % (t.mask + 1)) + 1 ≤ 10 * (t.mask + 15)
    have := hr.1
    omega) (by
    cases m with
    | zero => exact .inl (ht.empty (by rw [show (t.probeStart h).j = e from em]; exact hz))
    | succ m => exact .inr ⟨m, by omega, ht.empty (by
        show (lps t.mask (m + 1) (SetTable.bits h % (t.mask + 1), SetTable.bits h)).1 ∉ _
        rw [em]; exact hz)⟩)
  refine ⟨j, ?_, g2, g3⟩
  unfold SetTable.freeSlot SetTable.probe
  rw [g1]
  rfl
theorem TabOk.lay {t : SetTable} {es : Array (Int × Value)} (ht : TabOk t es.size) (hn : es.size < t.mask) (h : Int) (x : Value) :
    ∃ es' t', layNew t es h x = (es', t', false, false) ∧ TabOk t' (es.size + 1) ∧ es'.size = es.size + 1 ∧ t'.led = t.led ∧ t'.mask = t.mask := by
  obtain ⟨j, g1, g2, g3⟩ := ht.free (Nat.le_of_lt hn) h
  have hd : SetTable.has t.dummies j = false := by rw [ht.dum]; rfl
  have hsz : (SetTable.insertAt t.place (SetTable.below t.place j) j).size = es.size + 1 := by
    rw [← Array.length_toList, (SetTable.insertAt_perm _ _ _).length_eq, Array.length_toList, Array.size_push, ht.size]
  have hse : (SetTable.insertAt es (SetTable.below t.place j) (h, x)).size = es.size + 1 := by
    rw [← Array.length_toList, (SetTable.insertAt_perm _ _ _).length_eq, Array.length_toList, Array.size_push]
  have hf : SetTable.fits { t with place := SetTable.insertAt t.place (SetTable.below t.place j) j } (es.size + 1) = true := by
    unfold SetTable.fits SetTable.fill
    simp only [Bool.and_eq_true, beq_iff_eq, decide_eq_true_eq]
    exact ⟨hsz, by rw [hsz, ht.dum]; show es.size + 1 + 0 ≤ _; omega⟩
  have hp : t.put j = ({ t with place := SetTable.insertAt t.place (SetTable.below t.place j) j }, SetTable.below t.place j) := by
    unfold SetTable.put
    rw [hd]
    rfl
  refine ⟨SetTable.insertAt es (SetTable.below t.place j) (h, x), { t with place := SetTable.insertAt t.place (SetTable.below t.place j) j }, ?_, ⟨bel_ins ht.rise g3, ht.dum, ht.plain, ht.mask, fun i hi => ?_, hsz⟩, hse, rfl, rfl⟩
  · unfold layNew
    rw [g1]
    dsimp only
    rw [hp]
    dsimp only
    rw [hse, hf]
    unfold SetTable.orStandIn
    rw [hf]
    rfl
  · have := (SetTable.insertAt_perm t.place (SetTable.below t.place j) j).mem_iff.mp hi
    rw [Array.toList_push] at this
    rcases List.mem_append.mp this with g | g
    · exact ht.le i g
    · rw [List.mem_singleton.mp g]; exact g2
theorem own_set : ∀ (l : List (Option Nat)) (j k : Nat), l[j]? = some none → List.Perm ((l.set j (some k)).filterMap id) (k :: l.filterMap id)
  | [], j, k, h => by simp at h
  | a :: l, 0, k, h => by
    simp at h
    subst h
    simp
  | a :: l, j + 1, k, h => by
    rw [List.getElem?_cons_succ] at h
    have ih := own_set l j k h
    rw [List.set_cons_succ]
    cases a with
    | none => simpa using ih
    | some b =>
      have e : ∀ z : List (Option Nat), (some b :: z).filterMap id = b :: z.filterMap id := fun z => by simp
      rw [e, e]
      exact (ih.cons b).trans (List.Perm.swap k b _)
theorem own_full : ∀ (l : List (Option Nat)), (∀ j : Nat, l[j]? ≠ some none) → (l.filterMap id).length = l.length
  | [], _ => rfl
  | a :: l, h => by
    cases a with
    | none => exact absurd rfl (h 0)
    | some b =>
      have e : (some b :: l).filterMap id = b :: l.filterMap id := by simp
      rw [e, List.length_cons, List.length_cons, own_full l fun j hj => h (j + 1) (by rw [List.getElem?_cons_succ]; exact hj)]
theorem own_free {mask : Nat} {owner : Array (Option Nat)} (hs : owner.size = mask + 1) :
    ∀ (f : Nat) (p : Nat × Nat), p.1 ≤ mask → (∃ m, m < f ∧ owner[(lps mask m p).1]? = some none) →
      ∃ j, SetTable.layClean.free mask owner f p.1 p.2 = some j ∧ owner[j]? = some none
  | 0, p, _, ⟨m, hm, _⟩ => absurd hm (Nat.not_lt_zero _)
  | f + 1, p, hp, ⟨m, hm, e⟩ => by
    unfold SetTable.layClean.free
    cases hf : (List.range (SetTable.runEnd mask p.1 + 1 - p.1)).find? fun k => (owner.getD (p.1 + k) (some 0)).isNone with
    | some k =>
      have h1 := List.find?_some hf
      have h2 := List.mem_range.mp (List.mem_of_find?_eq_some hf)
      have hr := run_le mask p.1
      have hr2 := hr.2 hp
      have hk : p.1 + k < owner.size := by rw [hs]; omega
      refine ⟨p.1 + k, rfl, ?_⟩
      simp [Array.getD, hk] at h1
      rw [Array.getElem?_eq_getElem hk, h1]
    | none =>
      have hno := List.find?_eq_none.mp hf
      have h0 : owner[p.1]? ≠ some none := fun z => by
        have := hno 0 (List.mem_range.mpr (by unfold SetTable.runEnd; split <;> omega))
        obtain ⟨hk, z'⟩ := Array.getElem?_eq_some_iff.mp z
        exact this (by simp [Array.getD, hk, z'])
      cases m with
      | zero => exact absurd e h0
      | succ m => exact own_free hs f (SetTable.leap mask p.1 p.2) (Nat.le_of_lt_succ (Nat.mod_lt _ (Nat.succ_pos _))) ⟨m, by omega, e⟩
theorem own_fold {mask : Nat} (hm : Mk3 mask) : ∀ (hs : List Int) (owner : Array (Option Nat)) (k : Nat), owner.size = mask + 1 → List.Perm (owner.toList.filterMap id) (List.range k) → k + hs.length ≤ mask →
    ∃ ow, hs.foldl (init := some (owner, k)) (fun acc h => do
        let (owner, k) ← acc
        let j ← SetTable.layClean.free mask owner (SetTable.turns mask) (SetTable.bits h % (mask + 1)) (SetTable.bits h)
        pure (owner.setIfInBounds j (some k), k + 1)) = some (ow, k + hs.length) ∧ ow.size = mask + 1 ∧ List.Perm (ow.toList.filterMap id) (List.range (k + hs.length))
  | [], owner, k, h1, h2, h3 => ⟨owner, rfl, h1, h2⟩
  | h :: hs, owner, k, h1, h2, h3 => by
    rw [List.length_cons] at h3
    have hi : SetTable.bits h % (mask + 1) ≤ mask := Nat.le_of_lt_succ (Nat.mod_lt _ (Nat.succ_pos _))
    obtain ⟨e, he, hz⟩ : ∃ e, e ≤ mask ∧ owner[e]? = some none := by
      refine Classical.byContradiction fun hc => ?_
      have := own_full owner.toList fun j hj => by
        rw [Array.getElem?_toList] at hj
        obtain ⟨hk, _⟩ := Array.getElem?_eq_some_iff.mp hj
        exact hc ⟨j, by omega, hj⟩
      rw [h2.length_eq, List.length_range, Array.length_toList, h1] at this
      omega
    obtain ⟨m, hm', em⟩ := cov hm (p := (SetTable.bits h % (mask + 1), SetTable.bits h)) hi (bits_lt h) he
    obtain ⟨j, g1, g2⟩ := own_free h1 (SetTable.turns mask) (SetTable.bits h % (mask + 1), SetTable.bits h) hi ⟨m, by show m < mask + 15; omega, by rw [em]; exact hz⟩
    obtain ⟨hj, _⟩ := Array.getElem?_eq_some_iff.mp g2
    obtain ⟨ow, e1, e2, e3⟩ := own_fold hm hs (owner.setIfInBounds j (some k)) (k + 1) (by rw [Array.size_setIfInBounds]; exact h1) (by
      rw [Array.toList_setIfInBounds]
      refine (own_set _ _ _ (by rw [Array.getElem?_toList]; exact g2)).trans ((h2.cons k).trans ?_)
      rw [List.range_succ]
      exact (List.perm_append_singleton k _).symm) (by omega)
    refine ⟨ow, ?_, e2, ?_⟩
    · rw [List.foldl_cons, List.length_cons, show k + (hs.length + 1) = k + 1 + hs.length by omega, ← e1]
      dsimp only [Bind.bind, Option.bind]
      have g1' : SetTable.layClean.free mask owner (SetTable.turns mask) (SetTable.bits h % (mask + 1)) (SetTable.bits h) = some j := g1
      rw [g1']
      rfl
    · rw [List.length_cons, show k + (hs.length + 1) = k + 1 + hs.length by omega]; exact e3
theorem laid_ok {mask : Nat} (hm : Mk3 mask) (fi mo : Nat) (led : Bool) (hs : Array Int) (hn : hs.size ≤ mask) :
    ∃ t order, SetTable.laid mask fi mo led true hs = some (t, order) ∧ TabOk t hs.size ∧ List.Perm order.toList (List.range hs.size) ∧ t.led = led ∧ t.mask = mask := by
  obtain ⟨ow, e1, e2, e3⟩ := own_fold hm hs.toList (Array.replicate (mask + 1) none) 0 (by simp) (by
    rw [Array.toList_replicate, show List.range 0 = [] from rfl]
    have : ∀ n : Nat, (List.replicate n (none : Option Nat)).filterMap id = [] := fun n => by induction n with
      | zero => rfl
      | succ n ih => rw [List.replicate_succ, List.filterMap_cons_none rfl, ih]
    rw [this]) (by simpa using hn)
  rw [Nat.zero_add, Array.length_toList] at e3
  have hlc : SetTable.layClean mask hs = some ow := by
    unfold SetTable.layClean
    rw [← Array.foldl_toList]
    rw [e1]
    rfl
  have hord : ((List.range (mask + 1)).filterMap fun j => (ow.getD j none).map (j, ·)).map (·.2) = ow.toList.filterMap id := by
    rw [List.map_filterMap]
    have hl : ow.toList = (List.range (mask + 1)).map fun j => ow.getD j none := by
      refine List.ext_getElem (by simp [e2]) fun i h1 h2 => ?_
      have : i < ow.size := by simpa using h1
      simp [Array.getD, this]
    rw [hl, List.filterMap_map]
    refine congrArg (fun f => List.filterMap f _) (funext fun j => ?_)
    show ((ow.getD j none).map (j, ·)).map (·.2) = id (ow.getD j none)
    generalize ow.getD j none = z
    cases z <;> rfl
  have hlen : ((List.range (mask + 1)).filterMap fun j => (ow.getD j none).map (j, ·)).length = hs.size := by
    rw [← List.length_map (f := (·.2)), hord, e3.length_eq, List.length_range]
  refine ⟨_, _, by unfold SetTable.laid; rw [hlc]; rfl, ⟨?_, rfl, rfl, hm, ?_, ?_⟩, ?_, rfl, rfl⟩
  · unfold RiseA
    show List.Pairwise (· < ·) (List.map (·.1) ((List.range (mask + 1)).filterMap fun j => (ow.getD j none).map (j, ·)))
    rw [List.pairwise_map, List.pairwise_filterMap]
    refine List.Pairwise.imp ?_ List.pairwise_lt_range
    intro a b hab c hc d hd
    simp at hc hd
    obtain ⟨_, _, rfl⟩ := hc
    obtain ⟨_, _, rfl⟩ := hd
    exact hab
  · intro j hj
    have hj' : j ∈ ((List.range (mask + 1)).filterMap fun j => (ow.getD j none).map (j, ·)).map (·.1) := hj
    obtain ⟨q, hq, rfl⟩ := List.mem_map.mp hj'
    obtain ⟨a, ha, hb⟩ := List.mem_filterMap.mp hq
    simp at hb
    obtain ⟨_, _, rfl⟩ := hb
    exact Nat.le_of_lt_succ (List.mem_range.mp ha)
  · show (List.toArray (List.map (·.1) ((List.range (mask + 1)).filterMap fun j => (ow.getD j none).map (j, ·)))).size = _
    rw [List.size_toArray, List.length_map, hlen]
  · show List.Perm (List.map (·.2) ((List.range (mask + 1)).filterMap fun j => (ow.getD j none).map (j, ·))) _
    rw [hord]
    exact e3
theorem TabOk.relay {t : SetTable} {es : Array (Int × Value)} (ht : TabOk t es.size) (hn : es.size * 5 < t.mask * 3 + 5) (hm : es.size ≤ 60) (hful : t.tooFull = true) :
    ∃ es' t', relayAll t es (SetTable.grown es.size) = (es', t', false) ∧ TabOk t' es.size ∧ es'.size = es.size ∧ t'.led = t.led ∧ es.size * 5 < t'.mask * 3 := by
  have hf5 : es.size * 5 ≥ t.mask * 3 := by
    have := hful
    unfold SetTable.tooFull SetTable.fill at this
    rw [ht.size, ht.dum] at this
    simpa using this
  have hg : SetTable.grown es.size = es.size * 4 := by unfold SetTable.grown; rw [if_neg (by omega)]
  obtain ⟨M, hM, h1, h2, h3⟩ : ∃ M, SetTable.sizeAbove (SetTable.grown es.size) - 1 = M ∧ Mk3 M ∧ es.size ≤ M ∧ es.size * 5 < M * 3 := by
    rw [hg]
    rcases ht.mask with e | e | e <;> rw [e] at hn hf5
    · have : es.size = 5 := by omega
      rw [this]
      exact ⟨31, by decide, .inr (.inl rfl), by omega, by omega⟩
    · have : es.size = 19 := by omega
      rw [this]
      exact ⟨127, by decide, .inr (.inr rfl), by omega, by omega⟩
    · omega
  have hsz : (es.map (·.1)).size = es.size := Array.size_map ..
  obtain ⟨t', order, e1, e2, e3, e4, e5⟩ := laid_ok h1 t.finger (t.movedTo M) t.led (es.map (·.1)) (by rw [hsz]; exact h2)
  rw [hsz] at e2 e3
  have hre : t.relaid (es.map (·.1)) (SetTable.grown es.size) = some (t', order) := by
    unfold SetTable.relaid
    rw [hM, ht.plain]
    exact e1
  have hse : (order.filterMap (es[·]?)).size = es.size := by
    rw [← Array.length_toList, Array.toList_filterMap, (e3.filterMap _).length_eq, filterMap_getElem?_range, Array.length_toList]
  have hc : coversAll order es.size = true := List.isPerm_iff.mpr e3
  have hf : t'.fits (order.filterMap (es[·]?)).size = true := by
    unfold SetTable.fits SetTable.fill
    rw [hse, e2.size, e2.dum, e5]
    simp only [beq_self_eq_true, Bool.true_and, decide_eq_true_eq]
    exact h2
  refine ⟨order.filterMap (es[·]?), t', ?_, e2, hse, e4, by rw [e5]; exact h3⟩
  unfold relayAll
  rw [hre]
  dsimp only
  rw [hc, hf]
  rfl
end
end L2
namespace L2
open PySem PySem.W PySem.Spec PyProof.Rows
section
variable {prog : Program} {w : World} {A : Around} {E : Value → Shared → Prop} {s : Shared}
def TabIs (prog : Program) (w : World) (es : Array (Int × Value)) (t : SetTable) (ns : List Int) : Prop :=
  ElemsOf (intKind prog w) es.toList ∧ TabOk t es.size ∧ es.size * 5 < t.mask * 3 ∧ t.led = !w.params.followText "set-order" ∧ ∃ ms, IntsAre (es.toList.map (·.2)) ms ∧ ms.Perm ns
def SetT (prog : Program) (w : World) (h : Heap) (a : Addr) (ns : List Int) : Prop :=
  ∃ o es ep t, h.get? a = some o ∧ o.ExactSet ∧ o.data = .set es ep t ∧ TabIs prog w es t ns
theorem TabOk.fit {t : SetTable} {n : Nat} (h : TabOk t n) (hn : n ≤ t.mask) : t.fits n = true := by
  unfold SetTable.fits SetTable.fill
  rw [h.size, h.dum]
  simp only [beq_self_eq_true, Bool.true_and, decide_eq_true_eq]
  exact hn
theorem ints_mem {k : Int} : ∀ {l : List (Int × Value)} {ms : List Int}, IntsAre (l.map (·.2)) ms → (k ∈ ms ↔ ∃ e ∈ l, (intKind prog w).is k e.2 = true)
  | [], _, .nil => by simp
  | e :: l, _, h => by
    generalize hz : (e :: l).map (·.2) = z at h
    cases h with
    | nil => simp at hz
    | cons n t hr =>
      rw [List.map_cons, List.cons.injEq] at hz
      obtain ⟨h1, h2⟩ := hz
      rw [← h2] at hr
      have ih := ints_mem (k := k) hr
      rw [List.mem_cons, ih]
      constructor
      · rintro (rfl | ⟨e', he, hp⟩)
        · exact ⟨e, List.mem_cons_self, by rw [h1]; exact intKind_is _ _ _ _⟩
        · exact ⟨e', List.mem_cons_of_mem _ he, hp⟩
      · rintro ⟨e', he, hp⟩
        rcases List.mem_cons.mp he with rfl | he
        · rw [h1] at hp
          exact .inl ((intKind prog w).inj _ _ _ hp (intKind_is _ _ _ _))
        · exact .inr ⟨e', he, hp⟩
theorem ints_perm : ∀ {us us' : List Value}, List.Perm us us' → ∀ {ms : List Int}, IntsAre us ms → ∃ ms', IntsAre us' ms' ∧ ms'.Perm ms := by
  intro us us' p
  induction p with
  | nil => intro ms h; cases h; exact ⟨[], .nil, .nil⟩
  | cons x _ ih =>
    intro ms h
    cases h with
    | cons n t hr =>
      obtain ⟨ms', h1, h2⟩ := ih hr
      exact ⟨_, .cons n t h1, h2.cons n⟩
  | swap x y l =>
    intro ms h
    cases h with
    | cons n t hr =>
      cases hr with
      | cons n' t' hr' => exact ⟨_, .cons _ _ (.cons _ _ hr'), .swap _ _ _⟩
  | trans _ _ i1 i2 =>
    intro ms h
    obtain ⟨m1, h1, p1⟩ := i1 h
    obtain ⟨m2, h2, p2⟩ := i2 h1
    exact ⟨m2, h2, p2.trans p1⟩
theorem ints_snoc : ∀ {us : List Value} {ms : List Int} (k : Int) (t : Tok), IntsAre us ms → IntsAre (us ++ [.int k t]) (ms ++ [k])
  | _, _, k, t, .nil => .cons k t .nil
  | _, _, k, t, .cons n t' hr => .cons n t' (ints_snoc k t hr)
theorem add_tab {es : Array (Int × Value)} {t : SetTable} {ns : List Int} {k : Int} {tk : Tok} (h : TabIs prog w es t ns) (hk : k ∉ ns) {es' : Array (Int × Value)} {t' : SetTable}
    (hp : List.Perm es'.toList (es.push ((intKind prog w).hash k, .int k tk)).toList) (ht : TabOk t' es'.size) (hl : t'.led = t.led) (hf : es'.size * 5 < t'.mask * 3) : TabIs prog w es' t' (ns ++ [k]) := by
  obtain ⟨h1, h2, h3, h4, ms, h5, h6⟩ := h
  rw [Array.toList_push] at hp
  obtain ⟨ms', g1, g2⟩ := ints_perm ((hp.map (·.2)).symm) (by rw [List.map_append]; exact ints_snoc k tk h5)
  exact ⟨(h1.push (intKind_is _ _ _ _) rfl).perm hp, ht, hf, by rw [hl]; exact h4, ms', g1, g2.trans (h6.append_right _)⟩
theorem put_at {a : Addr} {o : Obj} {es : Array (Int × Value)} {ep : Nat} {t : SetTable} (ho : s.heap.get? a = some o) (hd : o.data = .set es ep t) (es' : Array (Int × Value)) (t' : SetTable) :
    (s.heap.update a (Obj.putSet es' t')).get? a = some { o with data := .set es' (ep + 1) t' } := by
  have := Heap.get?_update_self (Obj.putSet es' t') ho (by rw [putSet_of es' t' hd]; rfl)
  rw [putSet_of es' t' hd] at this
  exact this
theorem add_int {a : Addr} {ns : List Int} {k : Int} {tk : Tok} {Q : Bool → Shared → Prop} (hS : SetT prog w s.heap a ns) (hn : ns.length < 60)
    (h : ∀ b h', Heap.SameBut a s.heap h' → SetT prog w h' a (step_dedup ns k) → Q b { s with heap := h' }) :
    wpAny (model prog w) A (setAddHashed a (.int k tk) ((intKind prog w).hash k)) Q E s := by
  obtain ⟨o, es, ep, t, ho, hex, hd, hT⟩ := hS
  obtain ⟨hel, hok, hfew, hled, ms, hms, hpm⟩ := id hT
  have hz : es.size = ns.length := by
    rw [← hpm.length_eq, ← IntsAre.length hms, List.length_map, Array.length_toList]
  have hb : es.size < scanBound := by show es.size < 4096; omega
  unfold setAddHashed setAddHashedIn
  refine wpAny_holding (wpAny_bind (wpAny_setState_of ho hd (hok.fit (by omega)) ?_))
  dsimp only
  rw [byScan_of rfl hb hel]
  simp only [↓reduceIte]
  unfold setAddByScan
  refine wpAny_bind (wpAny_bind (wpAny_rule (wpAny_bind (wpAny_setScan_of (intKind_is _ _ _ _) ho hd (hok.fit (by omega)) hel ?_))))
  have hmem : k ∈ ns ↔ ∃ e ∈ es.toList, (intKind prog w).is k e.2 = true := hpm.mem_iff.symm.trans (ints_mem hms)
  cases hr : List.findIdx? (fun e => (intKind prog w).is k e.2) es.toList with
  | some j =>
    obtain ⟨hj, hpj, _⟩ := List.findIdx?_eq_some_iff_getElem.mp hr
    have hk : k ∈ ns := hmem.mpr ⟨es.toList[j], List.getElem_mem hj, hpj⟩
    have e : step_dedup ns k = ns := by unfold step_dedup; exact if_pos (List.any_eq_true.mpr ⟨k, hk, by simp⟩)
    exact wpAny_pure (wpAny_pure (h _ s.heap (Heap.SameBut.refl a s.heap) ⟨o, es, ep, t, ho, hex, hd, by rw [e]; exact hT⟩))
  | none =>
    have hk : k ∉ ns := fun hk => by
      obtain ⟨e, he, hp⟩ := hmem.mp hk
      exact absurd hp (by rw [List.findIdx?_eq_none_iff.mp hr e he]; exact Bool.false_ne_true)
    have e : step_dedup ns k = ns ++ [k] := by
      unfold step_dedup
      refine if_neg fun hz => ?_
      obtain ⟨x, hx, ex⟩ := List.any_eq_true.mp hz
      have : x = k := by simpa using ex
      exact hk (this ▸ hx)
    rw [e] at h
    have hperm := layNew_perm t es ((intKind prog w).hash k) (.int k tk)
    obtain ⟨es1, t1, eL, ht1, hs1, hl1, hm1⟩ := hok.lay (by omega) ((intKind prog w).hash k) (.int k tk)
    dsimp only
    rw [eL] at hperm ⊢
    dsimp only at hperm ⊢
    rw [← hs1] at ht1
    refine wpAny_bind (wpAny_pure (a := ()) ?_)
    rw [ht1.plain]
    simp only [↓reduceIte]
    refine wpAny_bind ?_
    rw [hashByValue_scannable 8 rfl]
    refine wpAny_pure ?_
    simp only [plainKind, ↓reduceIte, Bool.not_false, Bool.true_and]
    refine wpAny_bind (wpAny_storeSet_of ho hd ?_ (fits_of_scanBound (by show es1.size < 4096; omega)))
    have ho1 := put_at ho hd es1 t1
    have sb1 := Heap.SameBut.update s.heap a (Obj.putSet es1 t1)
    split
    · rename_i hful
      have hp2 := relayAll_perm t1 es1 (SetTable.grown es1.size)
      obtain ⟨es2, t2, eR, ht2, hs2, hl2, hf2⟩ := ht1.relay (by rw [hm1]; omega) (by omega) hful
      rw [eR] at hp2 ⊢
      dsimp only at hp2 ⊢
      rw [← hs2] at ht2 hf2
      refine wpAny_bind (wpAny_pure (a := ()) ?_)
      refine wpAny_bind (wpAny_storeSet_of ho1 rfl ?_ (fits_of_scanBound (by show es2.size < 4096; omega)))
      have ho2 := put_at (s := { s with heap := s.heap.update a (Obj.putSet es1 t1) }) ho1 rfl es2 t2
      exact wpAny_pure (wpAny_pure (h _ _ (sb1.trans (Heap.SameBut.update _ a _)) ⟨_, es2, _, t2, ho2, hex, rfl, add_tab hT hk (hp2.trans hperm) ht2 (hl2.trans hl1) hf2⟩))
    · rename_i hful
      have hf1 : es1.size * 5 < t1.mask * 3 := by
        unfold SetTable.tooFull SetTable.fill at hful
        rw [ht1.size, ht1.dum] at hful
        simpa using hful
      exact wpAny_pure (wpAny_pure (h _ _ sb1 ⟨_, es1, _, t1, ho1, hex, rfl, add_tab hT hk hperm ht1 hl1 hf1⟩))
end
end L2
namespace L2
open PySem PySem.W PySem.Spec PyProof.Rows
section
variable {prog : Program} {w : World} {A : Around} {E : Value → Shared → Prop} {s : Shared}
abbrev setO (w : World) : Obj := { cls := .type "set", dict := none, data := .set #[] 0 (.fresh 0 0 (!w.params.followText "set-order")) }
theorem SetT.moved {h h' : Heap} {a : Addr} {ns : List Int} (x : SetT prog w h a ns) (e : ∀ o, h.get? a = some o → h'.get? a = some o) : SetT prog w h' a ns :=
  let ⟨o, es, ep, t, ho, r⟩ := x; ⟨o, es, ep, t, e _ ho, r⟩
theorem setO_tab {h : Heap} {a : Addr} (ho : h.get? a = some (setO w)) : SetT prog w h a [] := by
  refine ⟨_, #[], 0, _, ho, ⟨rfl, rfl, rfl⟩, rfl, ⟨fun e he => absurd he (by simp), ⟨List.Pairwise.nil, rfl, rfl, .inl rfl, fun j hj => absurd hj (by simp [SetTable.fresh]), rfl⟩, (by show 0 * 5 < 7 * 3; decide), rfl, [], .nil, .nil⟩⟩
variable {R : Result → Shared → Prop} {I : Addr} {fp wr : List Addr} {G : Array GenState → Array GenState → Prop} {n : Nat} {P : Nat → Value → Prop} {St : Nat → Shared → Prop}
theorem upd_loop (W : WalksS prog w A.in1 I fp wr G n P St) (S : Addr) (hf : S ∉ fp) (val : Nat → Int) (hval : ∀ i v, P i v → ∃ t, v = .int (val i) t) (hn : n < 60) :
    ∀ (k i : Nat) (s : Shared), n = i + k → St i s → SetT prog w s.heap S (firstMet val i) →
      (∀ s', Moved (S :: wr) G s s' → SetT prog w s'.heap S (firstMet val n) → R (.ok (.ret .none)) s') →
      codeAny (model prog w) A (.builtin "set.update.loop" ⟨[.ref S, .ref I], []⟩) R s := by
  have hw : S ∉ wr := fun z => hf (W.sub _ z)
  have hs : ∀ b ∈ wr, b ∈ S :: wr := fun b z => List.mem_cons_of_mem _ z
  intro k
  induction k with
  | zero =>
    intro i s hk st hS hR
    rw [Nat.add_zero] at hk
    rw [← hk] at st hS
    refine codeAny_builtin F.entry_set_update_loop ?_
    rw [Around.under_plainId F.plain_set_update_loop _]
    refine wpAny_bind (m := pyNext (.ref I)) (W.done s _ _ st fun s' z => ?_)
    exact wpAny_pure (hR s' (z.mono hs) (hS.moved fun o => z.heap S o hw))
  | succ k ih =>
    intro i s hk st hS hR
    refine codeAny_builtin F.entry_set_update_loop ?_
    rw [Around.under_plainId F.plain_set_update_loop _]
    refine wpAny_bind (m := pyNext (.ref I)) (W.item i s _ _ (by omega) st fun v s' hP st' z => ?_)
    obtain ⟨t, rfl⟩ := hval i v hP
    refine wpAny_bind (m := holding [Value.int (val i) t] (setAdd S (.int (val i) t))) (wpAny_holding ?_)
    unfold setAdd
    refine wpAny_holding (wpAny_bind ((intKind prog w).pyHash (k := val i) (intKind_is _ _ _ _) ?_))
    have hl := firstMet_length_le val i
    refine add_int (s := { s' with toks := s'.toks + 1 }) (hS.moved fun o => z.heap S o hw) (by omega) fun b h' sb hS2 => ?_
    rw [← firstMet_succ] at hS2
    refine wpAny_pure ⟨plainId_quiet F.plain_set_update_loop _, ih (i + 1) _ (by omega) (W.frame _ s' _ _ st' (Nat.le_succ _) fun c hc o e => ?_) hS2 fun s2 z2 hS3 => ?_⟩
    · rw [sb.2 c (fun z : c = S => hf (z ▸ hc))]; exact e
    · refine hR s2 (Moved.trans W.gtrans ((z.mono hs).then_heap (Nat.le_succ _) fun c o hc e => ?_) z2) hS3
      rw [sb.2 c (fun z : c = S => hc (z ▸ List.mem_cons_self))]; exact e
theorem set_new1 (a : Value) {Q : Value → Shared → Prop} (h : Q (.ref s.heap.objs.size) { s with heap := s.heap.push (setO w) }) :
    codeAny (model prog w) A (.call (.builtin "set.__new__") ⟨[.type "set", a], []⟩) (wants Q E) s := by
  refine codeAny_of_tree (wpAny_bind (m := checkBuiltinCall "set.__new__" ⟨[.type "set", a], []⟩) (wpAny_of_eq (PySem.F.newCall_set_1 a) (wpAny_pure ⟨plainId_quiet PySem.F.plain_set_new _, codeAny_builtin PySem.F.entry_set_new ?_⟩)))
  rw [Around.under_plainId PySem.F.plain_set_new _]
  unfold Builtin.«set.__new__» Builtin.Frozenset.newClass
  have hsub := sub_set_self
  obtain ⟨hp, g, d, tk, os⟩ := s
  dsimp only
  wp_walk
  refine wpAny_askSetting (wpAny_pure ?_)
  simp only [newObj]
  refine wpAny_bind (wpAny_alloc (wpAny_pure (wpAny_pure ?_)))
  exact h
set_option maxHeartbeats 3200000 in
theorem call_setT {l : Addr} {items : Array Value} {ns : List Int} {Q : Value → Shared → Prop} (hh : A.handled = none) (hl : s.heap.IsList l items) (hi : IntsAre items.toList ns) (hb : items.size < 60)
    (h : ∀ (h' : Heap) (tk : Nat), SetT prog w h' s.heap.objs.size (firstMet (fun i => ns.getD i 0) items.size) → (∀ b o, s.heap.get? b = some o → h'.get? b = some o) → Q (.ref s.heap.objs.size) { s with heap := h', toks := tk }) :
    wpAny (model prog w) A (call (.type "set") [.ref l]) Q E s := by
  obtain ⟨c, tl, hmro⟩ := PySem.F.called_set.mro
  have hmade := PySem.F.called_set.made
  have hsub := PySem.F.called_set.sub
  refine wpAny_call (codeAny_of_tree ?_)
  show wpAny _ _ (callAny (.type "set") _) _ _ _
  refine wpAny_pure ⟨Code.quiet_builtin _ (by decide +kernel), codeAny_builtin PySem.F.entry_type_call ?_⟩
  rw [Around.under_plain (weight_type_call_type "set" [.ref l] []) rfl]
  have f1 := PySem.F.called_set.notType
  have f2 := PySem.F.called_set.canCreate
  have f3 := PySem.F.typeCall_set_1 (.ref l)
  repeat (any_goals (first | assumption | wp_step))
  refine codeAny_mono (set_new1 (.ref l) (E := E) (Q := fun obj s1 => obj = .ref s.heap.objs.size ∧ s1 = { s with heap := s.heap.push (setO w) }) ⟨rfl, rfl⟩) fun r s1 hr => ?_
  cases r with
  | error e => exact hr
  | ok fl => ?_
  cases fl
  case ret obj =>
    obtain ⟨rfl, rfl⟩ := hr
    have g0 : (s.heap.push (setO w)).get? s.heap.objs.size = some (setO w) := Heap.get?_push_size _ rfl
    have hT : Shared.TypeIs { s with heap := s.heap.push (setO w) } (.ref s.heap.objs.size) "set" := ⟨_, g0, rfl⟩
    have f4 := PySem.F.called_set.init.lookup
    have f5 := PySem.F.called_set.init.bind (.ref s.heap.objs.size)
    repeat (any_goals (first | assumption | wp_step))
    refine codeAny_mono (codeAny_call_builtin (R := wants (fun r s2 => r = .none ∧ ∃ h' tk, s2 = { s with heap := h', toks := tk } ∧ SetT prog w h' s.heap.objs.size (firstMet (fun i => ns.getD i 0) items.size) ∧ ∀ b o, s.heap.get? b = some o → h'.get? b = some o) E)
      PySem.F.called_set.init.plain PySem.F.entry_set_init (check_set_init_1 hT ?_)) fun r2 s2 hr2 => ?_
    · obtain ⟨ol, hol, hcl, nl, hdl⟩ := id hl
      obtain ⟨q1, q2, q3, q4⟩ := ol
      simp only at hcl hdl
      subst hcl
      subst hdl
      have hol' : (s.heap.push (setO w)).get? l = some { cls := .type "list", dict := q2, data := .seq items nl, slots := q4 } := Heap.get?_push_of_some _ hol
      have f6 := PySem.F.sub_list_set
      have f7 := PySem.F.sub_list_frozenset
      have f8 : (Value.type "list" == Value.type "dict") = false := by decide
      have hl1 : (s.heap.push (setO w)).IsList l items := ⟨_, hol', rfl, nl, rfl⟩
      unfold Builtin.«set.__init__» noKeywords Builtin.Frozenset.updateFrom
      generalize hPI : pyIter = PI
      wp_walk
      subst hPI
      refine wpAny_pyIter_list hl1 (wpAny_bind (wpAny_runValue ?_))
      have hlt : l < s.heap.objs.size := Heap.lt_size hol
      have hz : (s.heap.push (setO w)).objs.size = s.heap.objs.size + 1 := Heap.size_push ..
      have h3 : A.in1.in1.in1.handled = none := by simp [hh]
      refine upd_loop ((Walks.list h3 _ l (by show l ≠ (s.heap.push (setO w)).objs.size; rw [hz]; exact Nat.ne_of_lt (Nat.lt_succ_of_lt hlt)) items).toS) s.heap.objs.size (by show _ ∉ [(s.heap.push (setO w)).objs.size, l]; rw [hz]; simp only [List.mem_cons, List.not_mem_nil, or_false, not_or]; exact ⟨Nat.ne_of_lt (Nat.lt_succ_self _), Nat.ne_of_gt hlt⟩) (fun i => ns.getD i 0)
        (fun i v hv => IntsAre.int_at hi i v (by rw [Array.getElem?_toList]; exact hv)) hb items.size 0 _ (by omega) ⟨⟨_, Heap.get?_push_size _ rfl, rfl, rfl⟩, hl1.push _⟩ (setO_tab (Heap.get?_push_of_some _ g0)) fun s' z hS => ?_
      refine wpAny_pure (wpAny_pure ⟨rfl, s'.heap, s'.toks, (Moved.eq_with z).trans rfl, hS, fun b o e => ?_⟩)
      have := Heap.lt_size e
      exact z.heap b o (by show b ∉ [s.heap.objs.size, (s.heap.push (setO w)).objs.size]; rw [hz]; simp only [List.mem_cons, List.not_mem_nil, or_false, not_or]; exact ⟨Nat.ne_of_lt this, Nat.ne_of_lt (Nat.lt_succ_of_lt this)⟩) (Heap.get?_push_of_some _ (Heap.get?_push_of_some _ e))
    · cases r2 with
      | error e => exact hr2
      | ok fl2 => ?_
      cases fl2
      case ret r =>
        obtain ⟨rfl, h', tk, rfl, hS, hk⟩ := hr2
        repeat (any_goals (first | assumption | wp_step))
        exact h _ _ hS hk
      all_goals exact hr2.elim
  all_goals exact hr.elim
end
end L2
namespace L2
open PySem PySem.W PySem.Spec PyProof.Rows
section
theorem sl_next : Slot "set_iterator" "__next__" "set_iterator.__next__" :=
  .of (owner := "set_iterator") (n := "__next__") (by rw [typeLookup_type, builtinLookup_eq_fast]; kernel_rfl) (by decide +kernel) (by decide +kernel) (by decide +kernel) (by first | exact .inl (by decide +kernel) | exact .inr (by decide +kernel)) (by rw [isSubtype_type]; kernel_rfl)
theorem sl_self : Slot "set_iterator" "__iter__" "set_iterator.__iter__" :=
  .of (owner := "set_iterator") (n := "__iter__") (by rw [typeLookup_type, builtinLookup_eq_fast]; kernel_rfl) (by decide +kernel) (by decide +kernel) (by decide +kernel) (by first | exact .inl (by decide +kernel) | exact .inr (by decide +kernel)) (by rw [isSubtype_type]; kernel_rfl)
theorem en_next : entryFor table "set_iterator.__next__" = some Builtin.«set_iterator.__next__» := entryFor_of_tree (by kernel_rfl)
theorem en_self : entryFor table "set_iterator.__iter__" = some Builtin.«dict_keyiterator.__iter__» := entryFor_alias (id' := "dict_keyiterator.__iter__") (by kernel_rfl) rfl (by decide +kernel) (by kernel_rfl)
theorem en_iter : entryFor table "set.__iter__" = some Builtin.«frozenset.__iter__» := entryFor_alias (id' := "frozenset.__iter__") (by kernel_rfl) rfl (by decide +kernel) (by kernel_rfl)
theorem ow_siter : Manifest.owners.lookup (String.ofList "rotareti_tes".toList.reverse) = some Manifest.sig_set_iterator := by kernel_rfl
theorem ar_next (a : Value) : argsOk "set_iterator.__next__" ⟨[a], []⟩ := by
  unfold argsOk; rw [signature?_of (id := "set_iterator.__next__") (n := "__txen__".toList) (o := "rotareti_tes".toList) (by kernel_rfl) ow_siter]; kernel_rfl
theorem ar_self (a : Value) : argsOk "set_iterator.__iter__" ⟨[a], []⟩ := by
  unfold argsOk; rw [signature?_of (id := "set_iterator.__iter__") (n := "__reti__".toList) (o := "rotareti_tes".toList) (by kernel_rfl) ow_siter]; kernel_rfl
variable {prog : Program} {w : World} {A : Around} {E : Value → Shared → Prop} {s : Shared}
theorem erase_perm {α : Type} : ∀ (l : List α) (i : Nat) (h : i < l.length), List.Perm (l[i] :: l.eraseIdx i) l
  | a :: l, 0, h => by simp
  | a :: l, i + 1, h => by
    have ih := erase_perm l i (by simpa using h)
    rw [List.eraseIdx_cons_succ, List.getElem_cons_succ]
    exact (List.Perm.swap a _ _).trans (ih.cons a)
theorem pick_perm {α : Type} (nx : Nat → Nat) : ∀ (f k : Nat) (left : List α) (out : Array α), f = left.length → List.Perm (pickOrder.go nx f k left out).toList (out.toList ++ left)
  | 0, k, left, out, h => by
    have : left = [] := List.length_eq_zero_iff.mp h.symm
    subst this
    simp [pickOrder.go]
  | f + 1, k, left, out, h => by
    unfold pickOrder.go
    have hlt : nx k % left.length < left.length := Nat.mod_lt _ (by omega)
    rw [List.getElem?_eq_getElem hlt]
    refine (pick_perm nx f (k + 1) _ _ (by rw [List.length_eraseIdx_of_lt hlt]; omega)).trans ?_
    rw [Array.toList_push, List.append_assoc]
    exact List.Perm.append_left _ (erase_perm left _ hlt)
def walkV (w : World) (a : Addr) (ep : Nat) (es : Array (Int × Value)) : List Value :=
  if w.params.followText "set-order" = true then (pickOrder (w.params.setOrder a ep) es).toList.map (·.2) else es.toList.map (·.2)
theorem walkV_perm (a : Addr) (ep : Nat) (es : Array (Int × Value)) : List.Perm (walkV w a ep es) (es.toList.map (·.2)) := by
  unfold walkV
  split
  · refine List.Perm.map _ ?_
    have := pick_perm (w.params.setOrder a ep) es.size 0 es.toList #[] (by simp)
    simpa [pickOrder] using this
  · exact .rfl
def SIt (h : Heap) (it a : Addr) (sl i n ep : Nat) : Prop := ∃ o, h.get? it = some o ∧ o.cls = .type "set_iterator" ∧ o.data = .fields #[.int sl 0, .int i 0, .ref a, .int n 0, .int ep 0]
theorem SIt.ty {it a : Addr} {sl i n ep : Nat} (x : SIt s.heap it a sl i n ep) : s.TypeIs (.ref it) "set_iterator" := let ⟨o, ho, hc, _⟩ := x; ⟨o, ho, hc⟩
theorem tab_next {a : Addr} {o : Obj} {es : Array (Int × Value)} {ep : Nat} {t : SetTable} {ns : List Int} {sl i : Nat} {Q : Option (Value × Nat) → Shared → Prop}
    (ho : s.heap.get? a = some o) (hd : o.data = .set es ep t) (hT : TabIs prog w es t ns) (hsl : w.params.followText "set-order" = false → SetTable.below t.place sl = i)
    (h1 : ∀ v sl', (walkV w a ep es)[i]? = some v → (w.params.followText "set-order" = false → SetTable.below t.place sl' = i + 1) → Q (some (v, sl')) s)
    (h2 : (walkV w a ep es)[i]? = none → Q none s) : wpAny (model prog w) A (setNext a sl i ep) Q E s := by
  obtain ⟨hel, hok, hfew, hled, _⟩ := hT
  have hfit := hok.fit (show es.size ≤ t.mask by omega)
  unfold setNext setsByText
  refine wpAny_bind (wpAny_setState_of ho hd hfit ?_)
  dsimp only
  refine wpAny_bind (wpAny_bind (wpAny_askSetting (wpAny_pure ?_)))
  show wpAny _ _ (if w.params.followText "set-order" = true then _ else _) _ _ _
  cases hb : w.params.followText "set-order" with
  | true =>
    rw [if_pos rfl, if_neg (by simp)]
    unfold setWalk setsByText
    refine wpAny_bind (wpAny_bind (wpAny_setState_of ho hd hfit ?_))
    dsimp only
    refine wpAny_bind (wpAny_bind (wpAny_askSetting (wpAny_pure ?_)))
    show wpAny _ _ (if w.params.followText "set-order" = true then _ else _) _ _ _
    rw [if_pos hb]
    refine wpAny_bind (wpAny_askSetting (wpAny_pure (wpAny_pure ?_)))
    have hw : walkV w a ep es = (pickOrder (w.params.setOrder a ep) es).toList.map (·.2) := if_pos hb
    rw [hw] at h1 h2
    show Q (((pickOrder (w.params.setOrder a ep) es)[i]?).map fun e => (e.2, sl)) s
    cases he : (pickOrder (w.params.setOrder a ep) es)[i]? with
    | none => exact h2 (by simp [he])
    | some e => exact h1 _ _ (by simp [he]) (fun z => by rw [hb] at z; exact absurd z (by simp))
  | false =>
    rw [if_neg (by simp)]
    have hdr : (!t.plain && decide (es.size > 1)) = false := by rw [hok.plain]; rfl
    have hld : t.led = true := by rw [hled, hb]; rfl
    have hw : walkV w a ep es = es.toList.map (·.2) := if_neg (by rw [hb]; simp)
    rw [hw] at h1 h2
    have hi := hsl hb
    show wpAny _ _ (if (!t.plain && decide (es.size > 1)) = true then _ else _) _ _ _
    rw [hdr, if_neg (by simp)]
    refine wpAny_bind ?_
    show wpAny _ _ (if (!t.led && !es.isEmpty) = true then _ else _) _ _ _
    rw [hld, if_neg (by simp)]
    refine wpAny_pure ?_
    rw [hi]
    rcases Nat.lt_or_ge i es.size with hlt | hge
    · have hp : i < t.place.size := by rw [hok.size]; exact hlt
      rw [Array.getElem?_eq_getElem hlt, Array.getElem?_eq_getElem hp]
      refine wpAny_pure (h1 _ _ (by simp [hlt]) fun _ => ?_)
      obtain ⟨b1, b2, b3⟩ := bel_spec hok.rise (t.place[i] + 1)
      have hg : t.place.getD i (t.place[i] + 1) = t.place[i] := by simp [Array.getD, hp]
      rcases Nat.lt_trichotomy (SetTable.below t.place (t.place[i] + 1)) (i + 1) with g | g | g
      · have := b3 i (by omega) hp
        omega
      · exact g
      · have z := b2 (i + 1) g
        have := hok.rise.get (t.place[i] + 1) i (i + 1) (by omega) (by omega)
        omega
    · rw [Array.getElem?_eq_none hge]
      exact wpAny_pure (h2 (by simp [hge]))
end
end L2
namespace L2
open PySem PySem.W PySem.Spec PyProof.Rows
section
variable {prog : Program} {w : World} {A : Around} {E : Value → Shared → Prop} {s : Shared}
theorem sit_put {h : Heap} {it a : Addr} {sl i n ep : Nat} {o : Obj} (ho : h.get? it = some o) (hc : o.cls = .type "set_iterator") (hd : o.data = .fields #[.int sl 0, .int i 0, .ref a, .int n 0, .int ep 0]) (k : Nat) (x : Value) :
    ∃ o', (h.update it (Obj.mapFields (·.setIfInBounds k x))).get? it = some o' ∧ o'.cls = .type "set_iterator" ∧ o'.data = .fields (#[Value.int sl 0, .int i 0, .ref a, .int n 0, .int ep 0].setIfInBounds k x) :=
  ⟨_, Heap.get?_update_self _ ho (Obj.isFreed_of_fields (Obj.data_mapFields hd _)), (Obj.cls_mapFields ..).trans hc, Obj.data_mapFields hd _⟩
theorem next_set {it a : Addr} {o : Obj} {es : Array (Int × Value)} {ep : Nat} {t : SetTable} {ns : List Int} {sl i : Nat} {Q : Option Value → Shared → Prop} (hh : A.handled = none) (hit : SIt s.heap it a sl i es.size ep)
    (ho : s.heap.get? a = some o) (hd : o.data = .set es ep t) (hT : TabIs prog w es t ns) (hsl : w.params.followText "set-order" = false → SetTable.below t.place sl = i)
    (h1 : ∀ v sl' h', (walkV w a ep es)[i]? = some v → (w.params.followText "set-order" = false → SetTable.below t.place sl' = i + 1) → SIt h' it a sl' (i + 1) es.size ep → Heap.SameBut it s.heap h' → Q (some v) { s with heap := h' })
    (h2 : ∀ h', (walkV w a ep es)[i]? = none → Heap.ExtBut it s.heap h' → Q none { s with heap := h' }) : wpAny (model prog w) A (pyNext (.ref it)) Q E s := by
  obtain ⟨oi, hoi, hci, hdi⟩ := id hit
  have hok := hT.2.1
  have hfew := hT.2.2.1
  have hfit := hok.fit (show es.size ≤ t.mask by omega)
  unfold pyNext
  refine wpAny_bind (wpAny_attempt (wpAny_callSpecial?_slot (name := Str.ofString "__next__") hit.ty sl_next (wpAny_call_entry sl_next hit.ty en_next ?_ (ar_next _))))
  unfold Builtin.«set_iterator.__next__»
  refine wpAny_bind (wpAny_pure ?_)
  refine wpAny_bind (wpAny_fieldsOf hoi hdi ?_)
  dsimp only
  refine wpAny_bind (wpAny_setEntries_of ho hd hfit ?_)
  rw [if_neg (by simp)]
  simp only [Int.toNat_natCast]
  refine wpAny_bind (tab_next ho hd hT hsl (fun v sl' e1 e2 => ?_) fun e1 => ?_)
  · dsimp only
    obtain ⟨o1, g1, g2, g3⟩ := sit_put hoi hci hdi 0 (rawInt sl')
    refine wpAny_bind (wpAny_setField hoi hdi (by simp) ?_)
    have g3' : o1.data = .fields #[.int sl' 0, .int i 0, .ref a, .int es.size 0, .int ep 0] := by rw [g3]; rfl
    obtain ⟨o2, k1, k2, k3⟩ := sit_put (h := s.heap.update it (Obj.mapFields (·.setIfInBounds 0 (rawInt sl')))) g1 g2 g3' 1 (rawInt ((i : Int) + 1))
    refine wpAny_bind (wpAny_setField g1 g3' (by simp) ?_)
    refine wpAny_pure ⟨v, rfl, wpAny_pure (h1 v sl' _ e1 e2 ⟨o2, k1, k2, by rw [k3]; simp [rawInt]⟩ ((Heap.SameBut.update ..).trans (Heap.SameBut.update ..)))⟩
  · dsimp only
    refine wpAny_bind (wpAny_setField hoi hdi (by simp) ?_)
    refine wpAny_bind (m := newExc (.type "StopIteration") []) ?_
    simp only [newExc, newTuple]
    refine wpAny_bind (wpAny_newObj_type ?_ (by size_fits))
    refine wpAny_bind (m := firstArgMember _ _) (wpAny_of_eq (a := Value.none) (by first | rfl | (simp only [firstArgMember]; rfl)) ?_)
    refine wpAny_newObj_type ?_ (by size_fits)
    simp only [raiseNew]
    refine wpAny_bind (wpAny_handled ?_)
    rw [show A.in1.handled = none from hh]
    refine wpAny_bind (wpAny_pure (wpAny_throw ?_))
    refine wpAny_bind (wpAny_isInstance (T := "StopIteration") (b := true) ⟨_, Heap.get?_push_size _ rfl, rfl⟩ isSubtype_stop ?_)
    exact wpAny_pure (h2 _ e1 (((Heap.SameBut.update ..).extBut.push _).push _))
theorem iter_set {a : Addr} {o : Obj} {es : Array (Int × Value)} {ep : Nat} {t : SetTable} {ns : List Int} {Q : Value → Shared → Prop} (ho : s.heap.get? a = some o) (hx : o.ExactSet) (hd : o.data = .set es ep t) (hT : TabIs prog w es t ns)
    (h : Q (.ref s.heap.objs.size) { s with heap := s.heap.push { cls := .type "set_iterator", data := .fields #[.int 0 0, .int 0 0, .ref a, .int es.size 0, .int ep 0] } }) : wpAny (model prog w) A (pyIter (.ref a)) Q E s := by
  have hok := hT.2.1
  have hfew := hT.2.2.1
  have hfit := hok.fit (show es.size ≤ t.mask by omega)
  have hty : s.TypeIs (.ref a) "set" := ⟨o, ho, hx.1⟩
  refine wpAny_pyIter_slot hty PySem.F.slot_set_iter (wpAny_call_entry PySem.F.slot_set_iter hty en_iter ?_ (PySem.F.args_set_iter_1 _))
  unfold Builtin.«frozenset.__iter__»
  refine wpAny_bind (m := Builtin.Frozenset.slot0 "__iter__" ⟨[.ref a], []⟩) (wpAny_pure (a := a) ?_)
  refine wpAny_bind ?_
  unfold Builtin.Frozenset.sizeOf
  refine wpAny_bind (wpAny_setEntries_of ho hd hfit (wpAny_pure ?_))
  refine wpAny_bind ?_
  unfold setDrawn setsByText
  refine wpAny_bind (wpAny_setState_of ho hd hfit ?_)
  dsimp only
  refine wpAny_bind (wpAny_bind (wpAny_askSetting (wpAny_pure ?_)))
  refine wpAny_pure ?_
  have hdr : (!t.plain && decide (es.size > 1)) = false := by rw [hok.plain]; rfl
  show wpAny _ _ (if (!w.params.followText "set-order" && (!t.plain && decide (es.size > 1))) = true then _ else _) _ _ _
  rw [hdr, Bool.and_false, if_neg (by simp)]
  refine wpAny_bind (wpAny_pure ?_)
  refine wpAny_bind (wpAny_setEpoch_of ho hd hfit ?_)
  refine wpAny_bind (m := newFields "set_iterator" _) (wpAny_newObj_type (wpAny_pure ⟨_, rfl, "set_iterator", _, ⟨_, Heap.get?_push_size _ rfl, rfl⟩, sl_next.lookup, ?_⟩))
  simpa [rawInt] using h
theorem hint_set {r : Addr} {Q : Bool → Shared → Prop} (hT : s.TypeIs (.ref r) "set") (h : Q false s) : wpAny (model prog w) A (Builtin.List.listLengthHint (.ref r)) Q E s := by
  unfold Builtin.List.listLengthHint
  refine wpAny_bind (wpAny_specialOf hT PySem.F.slot_set_len.lookup ?_)
  generalize hid : ("set.__len__" : String) = id0
  wp_delta
  rw [show splitId id0 = some ("set", "__len__") from by subst hid; decide +kernel]
  subst hid
  refine wpAny_bind (wpAny_isInstance (T := "set") (b := true) hT sub_set_self (wpAny_ite_split (fun z => absurd z (by decide)) fun _ => ?_))
  exact wpAny_ite_split (fun _ => wpAny_bind (wpAny_typeOf hT (wpAny_pure h))) fun z => absurd (by decide +kernel) z
theorem src_set {a : Addr} {o : Obj} {es : Array (Int × Value)} {ep : Nat} {t : SetTable} {ns : List Int} (hx : o.ExactSet) (hd : o.data = .set es ep t) (hT : TabIs prog w es t ns) :
    KdlSrc prog w "set" a a (walkV w a ep es).length (fun i v => (walkV w a ep es)[i]? = some v) (fun h => h.get? a = some o) where
  type := fun _ ho => ⟨o, ho, hx.1⟩
  there := fun _ ho => ⟨Heap.lt_size ho, Heap.lt_size ho⟩
  keep := fun _ _ ho hk => hk a (.inl rfl) o ho
  notList := by decide
  notTuple := by decide
  hint := fun _ _ _ _ ho hq => hint_set ⟨o, ho, hx.1⟩ hq
  iter := fun A s hh ho => by
    have hne : a ≠ s.heap.objs.size := Nat.ne_of_lt (Heap.lt_size ho)
    have hz : (walkV w a ep es).length = es.size := by rw [(walkV_perm a ep es).length_eq, List.length_map, Array.length_toList]
    refine ⟨_, fun i h => (∃ sl, SIt h s.heap.objs.size a sl i es.size ep ∧ (w.params.followText "set-order" = false → SetTable.below t.place sl = i)) ∧ h.get? a = some o, fun E Q hq => iter_set ho hx hd hT hq, ?_, ?_⟩
    · exact {
        sub := fun b hb => by simp at hb; simp [hb]
        frame := fun i h h' st hk => by
          obtain ⟨⟨sl, ⟨oi, e1, e2⟩, e3⟩, e4⟩ := st
          exact ⟨⟨sl, ⟨oi, hk _ (by simp) _ e1, e2⟩, e3⟩, hk _ (by simp) _ e4⟩
        item := fun i s' Q E hi st hQ => by
          obtain ⟨⟨sl, e1, e3⟩, e4⟩ := st
          refine next_set hh e1 e4 hd hT e3 (fun v sl' h' g1 g2 g3 g4 => ?_) fun h' g1 g2 => ?_
          · exact hQ v h' s'.toks g1 ⟨⟨sl', g3, g2⟩, (g4.2 a hne) ▸ e4⟩ fun b o' hb e => by rw [g4.2 b (fun z => hb (by simp [z]))]; exact e
          · rw [List.getElem?_eq_getElem hi] at g1
            exact absurd g1 (by simp)
        done := fun s' Q E st hQ => by
          obtain ⟨⟨sl, e1, e3⟩, e4⟩ := st
          refine next_set hh e1 e4 hd hT e3 (fun v sl' h' g1 g2 g3 g4 => ?_) fun h' g1 g2 => ?_
          · rw [List.getElem?_eq_none (Nat.le_refl _)] at g1
            exact absurd g1 (by simp)
          · exact hQ h' s'.toks fun b o' hb e => g2 b o' (fun z => hb (by simp [z])) e
        self := fun i s' Q E st hQ => by
          obtain ⟨⟨sl, e1, e3⟩, e4⟩ := st
          refine wpAny_pyIter_slot e1.ty sl_self (wpAny_call_entry sl_self e1.ty en_self ?_ (ar_self _))
          exact wpAny_pure ⟨_, rfl, "set_iterator", _, e1.ty, sl_next.lookup, hQ⟩ }
    · refine ⟨⟨0, ⟨_, Heap.get?_push_size _ rfl, rfl, rfl⟩, fun _ => ?_⟩, Heap.get?_push_of_some _ ho⟩
      obtain ⟨b1, b2, b3⟩ := bel_spec hT.2.1.rise 0
      cases hb : SetTable.below t.place 0 with
      | zero => rfl
      | succ k => exact absurd (b2 0 (by omega)) (by omega)
theorem sorted_set {a : Addr} {ns : List Int} {Q : Value → Shared → Prop} (hh : A.handled = none) (hS : SetT prog w s.heap a ns) (hn : ns.length < 64)
    (h : ∀ (h' : Heap) (tk : Nat) (D : Addr) (out : List Value) (ms : List Int) (c : Nat), (∀ b o, s.heap.get? b = some o → h'.get? b = some o) → a < D → h'.get? D = some (seqObj "list" out.toArray c) → IntsAre out ms → ms.Perm ns → ms.Pairwise (· ≤ ·) → Q (.ref D) { s with heap := h', toks := tk }) :
    wpAny (model prog w) A (call (.builtin "sorted") [.ref a]) Q E s := by
  obtain ⟨o, es, ep, t, ho, hx, hd, hT⟩ := hS
  obtain ⟨_, _, _, _, ms, hms, hpm⟩ := id hT
  obtain ⟨ms', hm1, hm2⟩ := ints_perm (walkV_perm (w := w) a ep es).symm hms
  have hz : (walkV w a ep es).length = ns.length := by rw [IntsAre.length hm1, hm2.length_eq, hpm.length_eq]
  refine Calls.call_function_entry kind_sorted plain_sorted entry_sorted (args_sorted1 _) ?_
  unfold Builtin.«sorted»
  refine wpAny_bind (m := checkCount "sorted" 1 1 _) (wpAny_pure ?_)
  refine wpAny_bind (kdu_collect (A := A.in1) (src_set hx hd hT) hh ho (by rw [hz, sizeLine_eq]; omega) fun h' tk acc hk hacc => ?_)
  have ha : acc.toList = walkV w a ep es := by
    refine List.ext_getElem? fun i => ?_
    cases e : acc.toList[i]? with
    | some v => exact (hacc.2 i v (by rw [← Array.getElem?_toList]; exact e)).symm
    | none =>
      rw [List.getElem?_eq_none_iff, Array.length_toList, hacc.1] at e
      exact (List.getElem?_eq_none e).symm
  rw [ha]
  refine wpAny_bind (wpAny_newList ?_ (by rw [hz, sizeLine_eq]; omega))
  have hoL : (h'.push (seqObj "list" (walkV w a ep es).toArray 0)).get? h'.objs.size = some (seqObj "list" (walkV w a ep es).toArray 0) := Heap.get?_push_size _ rfl
  refine wpAny_bind (wpAny_holding (wpAny_call_entry slot_list_sort ⟨_, hoL, rfl⟩ entry_list_sort (list_sort_tree (n := 0) hoL hm1 (by omega) fun out ns' a1 a2 a3 => ⟨_, rfl, ?_⟩) (args_list_sort _)))
  obtain ⟨c, hc⟩ := sortedHeap_at (out := out) hoL
  refine wpAny_pure ⟨_, rfl, h _ tk h'.objs.size out.toList ns' c (fun b o' e => ?_) ?_ (by rw [Array.toArray_toList]; exact hc) a1 (a2.trans (hm2.trans hpm)) a3⟩
  · have hlt := Heap.lt_size (hk b o' e)
    rw [sortedHeap_old (Nat.ne_of_lt hlt) (by rw [size_push']; exact Nat.lt_succ_of_lt hlt)]
    exact Heap.get?_push_of_some _ (hk b o' e)
  · exact Heap.lt_size (hk a o ho)
end
end L2
namespace L2
open PySem PySem.W PySem.Spec PyProof.Rows
section
variable {X : Cx}
theorem dd_mem : ∀ (ns acc : List Int) (x : Int), x ∈ ns.foldl step_dedup acc ↔ x ∈ acc ∨ x ∈ ns
  | [], acc, x => by simp
  | n :: ns, acc, x => by
    rw [List.foldl_cons, dd_mem ns, List.mem_cons]
    have : x ∈ step_dedup acc n ↔ x ∈ acc ∨ x = n := by
      unfold step_dedup
      split
      · rename_i h
        obtain ⟨y, hy, ey⟩ := List.any_eq_true.mp h
        have e : y = n := by simpa using ey
        exact ⟨.inl, fun z => z.elim id fun z => z ▸ e ▸ hy⟩
      · rw [List.mem_append, List.mem_singleton]
    rw [this]
    constructor
    · rintro ((h | h) | h)
      · exact .inl h
      · exact .inr (.inl h)
      · exact .inr (.inr h)
    · rintro (h | h | h)
      · exact .inl (.inl h)
      · exact .inl (.inr h)
      · exact .inr h
theorem dd_nodup : ∀ (ns acc : List Int), acc.Nodup → (ns.foldl step_dedup acc).Nodup
  | [], acc, h => h
  | n :: ns, acc, h => by
    rw [List.foldl_cons]
    refine dd_nodup ns _ ?_
    unfold step_dedup
    split
    · exact h
    · rename_i hz
      refine List.nodup_append.mpr ⟨h, by simp, fun a ha b hb => ?_⟩
      rw [List.mem_singleton] at hb
      subst hb
      intro e
      subst e
      exact hz (List.any_eq_true.mpr ⟨a, ha, by simp⟩)
def rSS (K : PySem.W.Frag) : List V → Hp → VK → Prop := fun xs H Q => ∃ (a : Addr) (ns : List Int), xs = [.ref a] ∧ SqL K H a (ns.map V.int) ∧ ns.length < 60 ∧
  ∀ p (ms : List Int), H p = none → (∀ x, x ∈ ms ↔ x ∈ ns) → (ms.Pairwise fun x y => x < y) → ms.length ≤ ns.length → Q (.ref p) (upd H p (.lst (ms.map V.int)))
theorem pe_sortSet {K : PySem.W.Frag} {e : Expr} {t : TA} {p p2 pos pos2 : Pos} (hc : X.calm = true) (hg1 : Gl X "sorted") (hm1 : X.mg "sorted" = none) (hv1 : bootBuiltins "sorted" = some (.builtin "sorted")) (hg2 : Gl X "set") (hm2 : X.mg "set" = none) (hv2 : bootBuiltins "set" = some (.type "set")) (ha : PA X [e] t)
    (hK : X.K = K := by rfl) (he : starEach [e] X.env = (false, eval e X.env) :: starEach [] X.env := by rfl) (he1 : starEach [.Call (.Name "set" p2) [e] [] pos2] X.env = (false, eval (.Call (.Name "set" p2) [e] [] pos2) X.env) :: starEach [] X.env := by rfl) :
    PE X (.Call (.Name "sorted" p) [.Call (.Name "set" p2) [e] [] pos2] [] pos) (tCB (rSS K) t) := by
  subst hK
  intro pins s σ H Q I h
  refine wpAny_Call_Name_kw (ld_blt I hg1 hm1 hv1 ?_ (by decide) (by decide))
  refine PyProof.Rows.callWith_builtin1 (rest := []) ?_ he1 (by rfl)
  rw [he1]
  show wpAny _ _ (spliced ((false, eval (.Call (.Name "set" p2) [e] [] pos2) X.env) :: backTo pos (starEach [] X.env))) _ _ s
  refine Calls.spliced_cons (wpAny_Call_Name_kw (ld_blt I hg2 hm2 hv2 ?_ (by decide) (by decide)))
  refine PyProof.Rows.callWith_type1 (thn (ha pos2 pins s σ H _ I h) fun us s1 ⟨vs, H1, I1, r1, q1⟩ => ?_) he (by rfl)
  obtain ⟨a, ns, rfl, hq, hl, q⟩ := q1
  obtain ⟨u, rfl, rx⟩ := vals1 r1
  cases rx
  obtain ⟨its, rv, pl, hz⟩ := I1.list hq
  have hi : IntsAre its ns := intsAre_of rv
  have l1 := rv.length
  rw [List.length_map] at l1
  refine call_setT (I1.ok.hd hc) pl.isList hi (by rw [List.size_toArray, ← l1]; exact hl) fun h' tk hS hk => ?_
  rw [show its.toArray.size = ns.length by rw [List.size_toArray, l1]] at hS
  unfold firstMet at hS
  rw [met_map] at hS
  have hle := met_len ns []
  rw [List.length_nil, Nat.zero_add] at hle
  refine Calls.spliced_nil ?_
  refine sorted_set (s := { s1 with heap := h', toks := tk }) (I1.ok.hd hc) hS (by omega) fun h2 tk2 D out ms c k2 hD hg hi2 hp hs => ?_
  have hnd : ms.Nodup := hp.nodup_iff.mpr (dd_nodup ns [] List.nodup_nil)
  have hlen : ms.length ≤ ns.length := by rw [hp.length_eq]; exact hle
  refine ⟨.ref D, _, I1.laid (t' := tk2) (o := .lst (ms.map V.int)) (fun b o e => k2 b o (hk b o e)) (Nat.le_of_lt hD) ?_, rfl, q _ _ (I1.hok.fresh (Nat.le_of_lt hD)) (fun x => ?_) ?_ hlen⟩
  · refine ⟨by rw [List.length_map, sizeLine_eq]; omega, out, c, vals_ints hi2, hg⟩
  · rw [hp.mem_iff, dd_mem]
    simp
  · refine (hs.and hnd).imp fun {x y} z => ?_
    have := z.1
    have := z.2
    omega
theorem ap_rSS {K : PySem.W.Frag} {a : Addr} {H : Hp} {Q : VK} : rSS K [.ref a] H Q = ∃ (ns : List Int), SqL K H a (ns.map V.int) ∧ ns.length < 60 ∧
  ∀ p (ms : List Int), H p = none → (∀ x, x ∈ ms ↔ x ∈ ns) → (ms.Pairwise fun x y => x < y) → ms.length ≤ ns.length → Q (.ref p) (upd H p (.lst (ms.map V.int))) := by simp [rSS]
end
end L2
local macro_rules | `(tactic| walk_at "capok") => `(tactic| first | exact L2.CapOk.nil | (refine L2.CapOk.own ?_; walk_at "capok") | (refine L2.CapOk.take (by with_unfolding_all rfl) (by first | exact Or.inl (by with_unfolding_all rfl) | exact Or.inr (by with_unfolding_all rfl)) (by first | exact Or.inl (by with_unfolding_all rfl) | exact Or.inr (by with_unfolding_all rfl)) (by with_unfolding_all rfl) ?_; walk_at "capok"))
local macro_rules | `(tactic| walk_at "compok") => `(tactic| (refine ⟨?c1, ?c3, ?c0, ?c4, ?c5, ?c6, ?c7⟩; (case c1 => with_unfolding_all rfl); (case c3 => walk_at "capok"); (case c0 => rfl); (case c4 => decide +kernel); (case c5 => decide +kernel); (case c6 => with_unfolding_all rfl); (case c7 => (intro _; rfl))))
local macro_rules | `(tactic| walk_at "rd") => `(tactic| simp only [L2.ap_iStr, L2.ap_fldK, L2.ap_sFld, L2.ap_methD, L2.ap_make, L2.ap_makeK, L2.ap_dget2, L2.ap_dget, L2.ap_dput, L2.ap_dnewK, L2.ap_dpop1, L2.ap_dictOf, L2.ap_inD, L2.ap_leS, L2.ap_rIsC, L2.ap_ixT, L2.ap_ixS, L2.ap_slT, L2.ap_rTupOf, L2.ap_rIn, L2.ap_lenS, L2.ap_rSortT, L2.ap_new0, L2.ap_dictPairs, L2.ap_iVals, L2.ap_rVals, L2.ap_dget1, L2.ap_tSortK, L2.ap_rSortK, L2.ap_setOf, L2.ap_lenSet, L2.ap_iRng3, L2.ap_eqR, L2.ap_neR, L2.ap_fr, L2.ap_slS, L2.ap_slRev, L2.ap_tSortL, L2.ap_iZip3, L2.ap_tListRev, L2.ap_tMinD, L2.ap_rSortN, L2.ap_break, L2.ap_rSortI, L2.ap_iItems, L2.ap_rItems, L2.ap_eqM, L2.ap_neM, L2.ap_iKeys, L2.ap_makeX, L2.ap_raiseF, L2.ap_xini, L2.ap_sxfld, L2.ap_xfld, L2.ap_tryF, L2.ap_isF, L2.ap_isFs, L2.ap_FI, L2.ap_tryB, L2.ap_rMinL, L2.ap_rSS, L2.ap_raise, L2.ap_xCall, L2.ap_isX, L2.ap_isXs, L2.ap_iZip, L2.ap_iEnum, L2.ap_seq, L2.ap_next, L2.ap_asg, L2.ap_name, L2.ap_var, L2.ap_c, L2.ap_op, L2.ap_un, L2.ap_rI, L2.ap_rI0, L2.ap_rU, L2.ap_rEq, L2.ap_rNe, L2.ap_ret, L2.ap_retN, L2.ap_drop, L2.ap_test, L2.ap_tB, L2.ap_and, L2.ap_or, L2.ap_not, L2.ap_andV, L2.ap_orV, L2.ap_notV, L2.ap_ifE, L2.ap_call, L2.ap_nil, L2.ap_cons, L2.ap_cb, L2.ap_lst, L2.ap_tup, L2.ap_chain, L2.ap_sl, L2.ap_noPart, L2.ap_part, L2.ap_gNil, L2.ap_gCons, L2.ap_gLst, L2.ap_gTup, L2.ap_bm, L2.ap_bm0, L2.ap_ixL, L2.ap_slL, L2.ap_rLen, L2.ap_rSum, L2.ap_rAny, L2.ap_rAll, L2.ap_rListOf, L2.ap_rIsT, L2.ap_append, L2.ap_rCat, L2.ap_for, L2.ap_iList, L2.ap_iTup, L2.ap_iRng1, L2.ap_iRng2, L2.ap_comp, L2.ap_noIf, L2.ap_rMax, L2.ap_rMin, L2.scal_int, L2.scal_str, L2.scal_bl, L2.start_eq, List.map_cons, List.map_nil, List.length_cons, List.length_nil, List.cons_append, List.nil_append, List.append_nil, List.replicate_succ, List.replicate_zero, Nat.reduceAdd, Nat.reduceSub, Nat.sub_self, List.set_cons_zero, List.set_cons_succ, List.getElem?_cons_zero, List.getElem?_cons_succ, Option.some.injEq, L2.V.int.injEq, L2.V.bl.injEq, L2.V.str.injEq, L2.V.ref.injEq, L2.V.ty.injEq, List.cons.injEq, exists_eq_left', exists_eq_left, exists_and_left, exists_eq', exists_eq, true_and, and_true, and_assoc, exists_const, Bool.not_true, Bool.not_false, if_true, if_false, Bool.false_eq_true, decide_true, decide_false, reduceCtorEq, Bool.not_eq_true', decide_eq_true_eq, decide_eq_false_iff_not])
local macro_rules | `(tactic| walk_at "rdi") => `(tactic| simp only [L2.ap_iStr, L2.ap_fldK, L2.ap_sFld, L2.ap_methD, L2.ap_make, L2.ap_makeK, L2.ap_dget2, L2.ap_dget, L2.ap_dput, L2.ap_dnewK, L2.ap_dpop1, L2.ap_dictOf, L2.ap_inD, L2.ap_leS, L2.ap_rIsC, L2.ap_ixT, L2.ap_ixS, L2.ap_slT, L2.ap_rTupOf, L2.ap_rIn, L2.ap_lenS, L2.ap_rSortT, L2.ap_new0, L2.ap_dictPairs, L2.ap_iVals, L2.ap_rVals, L2.ap_dget1, L2.ap_tSortK, L2.ap_rSortK, L2.ap_setOf, L2.ap_lenSet, L2.ap_iRng3, L2.ap_eqR, L2.ap_neR, L2.ap_fr, L2.ap_slS, L2.ap_slRev, L2.ap_tSortL, L2.ap_iZip3, L2.ap_tListRev, L2.ap_tMinD, L2.ap_rSortN, L2.ap_break, L2.ap_rSortI, L2.ap_iItems, L2.ap_rItems, L2.ap_eqM, L2.ap_neM, L2.ap_iKeys, L2.ap_makeX, L2.ap_raiseF, L2.ap_xini, L2.ap_sxfld, L2.ap_xfld, L2.ap_tryF, L2.ap_isF, L2.ap_isFs, L2.ap_FI, L2.ap_tryB, L2.ap_rMinL, L2.ap_rSS, L2.ap_raise, L2.ap_xCall, L2.ap_isX, L2.ap_isXs, L2.ap_iZip, L2.ap_iEnum, L2.ap_try, L2.ap_next, L2.ap_asg, L2.ap_name, L2.ap_var, L2.ap_c, L2.ap_op, L2.ap_un, L2.ap_rI, L2.ap_rI0, L2.ap_rU, L2.ap_rEq, L2.ap_rNe, L2.ap_ret, L2.ap_retN, L2.ap_drop, L2.ap_if, L2.ap_test, L2.ap_tB, L2.ap_and, L2.ap_or, L2.ap_not, L2.ap_andV, L2.ap_orV, L2.ap_notV, L2.ap_ifE, L2.ap_call, L2.ap_nil, L2.ap_cons, L2.ap_cb, L2.ap_lst, L2.ap_tup, L2.ap_chain, L2.ap_sl, L2.ap_noPart, L2.ap_part, L2.ap_gNil, L2.ap_gCons, L2.ap_gLst, L2.ap_gTup, L2.ap_bm, L2.ap_bm0, L2.ap_ixL, L2.ap_slL, L2.ap_rLen, L2.ap_rSum, L2.ap_rAny, L2.ap_rAll, L2.ap_rListOf, L2.ap_rIsT, L2.ap_append, L2.ap_rCat, L2.ap_comp, L2.ap_iList, L2.ap_iTup, L2.ap_iRng1, L2.ap_iRng2, L2.ap_noIf, L2.ap_rMax, L2.ap_rMin, L2.scal_int, L2.scal_str, L2.scal_bl, L2.start_eq, List.map_cons, List.map_nil, List.length_cons, List.length_nil, List.cons_append, List.nil_append, List.append_nil, List.replicate_succ, List.replicate_zero, Nat.reduceAdd, Nat.reduceSub, Nat.sub_self, List.set_cons_zero, List.set_cons_succ, List.getElem?_cons_zero, List.getElem?_cons_succ, Option.some.injEq, L2.V.int.injEq, L2.V.bl.injEq, L2.V.str.injEq, L2.V.ref.injEq, L2.V.ty.injEq, List.cons.injEq, exists_eq_left', exists_eq_left, exists_and_left, exists_eq', exists_eq, true_and, and_true, and_assoc, exists_const, Bool.not_true, Bool.not_false, if_true, if_false, Bool.false_eq_true, decide_true, decide_false, reduceCtorEq, Bool.not_eq_true', decide_eq_true_eq, decide_eq_false_iff_not])
local macro_rules | `(tactic| walk_at "rda") => `(tactic| simp only [L2.ap_iStr, L2.ap_fldK, L2.ap_sFld, L2.ap_methD, L2.ap_make, L2.ap_makeK, L2.ap_dget2, L2.ap_dget, L2.ap_dput, L2.ap_dnewK, L2.ap_dpop1, L2.ap_dictOf, L2.ap_inD, L2.ap_leS, L2.ap_rIsC, L2.ap_ixT, L2.ap_ixS, L2.ap_slT, L2.ap_rTupOf, L2.ap_rIn, L2.ap_lenS, L2.ap_rSortT, L2.ap_new0, L2.ap_dictPairs, L2.ap_iVals, L2.ap_rVals, L2.ap_dget1, L2.ap_tSortK, L2.ap_rSortK, L2.ap_setOf, L2.ap_lenSet, L2.ap_iRng3, L2.ap_eqR, L2.ap_neR, L2.ap_fr, L2.ap_slS, L2.ap_slRev, L2.ap_tSortL, L2.ap_iZip3, L2.ap_tListRev, L2.ap_tMinD, L2.ap_rSortN, L2.ap_break, L2.ap_rSortI, L2.ap_iItems, L2.ap_rItems, L2.ap_eqM, L2.ap_neM, L2.ap_iKeys, L2.ap_makeX, L2.ap_raiseF, L2.ap_xini, L2.ap_sxfld, L2.ap_xfld, L2.ap_tryF, L2.ap_isF, L2.ap_isFs, L2.ap_FI, L2.ap_tryB, L2.ap_rMinL, L2.ap_rSS, L2.ap_raise, L2.ap_xCall, L2.ap_isX, L2.ap_isXs, L2.ap_iZip, L2.ap_iEnum, L2.ap_try, L2.ap_seq, L2.ap_next, L2.ap_asg, L2.ap_name, L2.ap_var, L2.ap_c, L2.ap_op, L2.ap_un, L2.ap_rI, L2.ap_rI0, L2.ap_rU, L2.ap_rEq, L2.ap_rNe, L2.ap_ret, L2.ap_retN, L2.ap_drop, L2.ap_if, L2.ap_test, L2.ap_tB, L2.ap_and, L2.ap_or, L2.ap_not, L2.ap_andV, L2.ap_orV, L2.ap_notV, L2.ap_ifE, L2.ap_call, L2.ap_nil, L2.ap_cons, L2.ap_cb, L2.ap_lst, L2.ap_tup, L2.ap_chain, L2.ap_sl, L2.ap_noPart, L2.ap_part, L2.ap_gNil, L2.ap_gCons, L2.ap_gLst, L2.ap_gTup, L2.ap_bm, L2.ap_bm0, L2.ap_ixL, L2.ap_slL, L2.ap_rLen, L2.ap_rSum, L2.ap_rAny, L2.ap_rAll, L2.ap_rListOf, L2.ap_rIsT, L2.ap_append, L2.ap_rCat, L2.ap_for, L2.ap_iList, L2.ap_iTup, L2.ap_iRng1, L2.ap_iRng2, L2.ap_comp, L2.ap_noIf, L2.ap_rMax, L2.ap_rMin, L2.scal_int, L2.scal_str, L2.scal_bl, L2.start_eq, List.map_cons, List.map_nil, List.length_cons, List.length_nil, List.cons_append, List.nil_append, List.append_nil, List.replicate_succ, List.replicate_zero, Nat.reduceAdd, Nat.reduceSub, Nat.sub_self, List.set_cons_zero, List.set_cons_succ, List.getElem?_cons_zero, List.getElem?_cons_succ, Option.some.injEq, L2.V.int.injEq, L2.V.bl.injEq, L2.V.str.injEq, L2.V.ref.injEq, L2.V.ty.injEq, List.cons.injEq, exists_eq_left', exists_eq_left, exists_and_left, exists_eq', exists_eq, true_and, and_true, and_assoc, exists_const, Bool.not_true, Bool.not_false, if_true, if_false, Bool.false_eq_true, decide_true, decide_false, reduceCtorEq, Bool.not_eq_true', decide_eq_true_eq, decide_eq_false_iff_not])
local macro_rules | `(tactic| walk_at "mono") => `(tactic| first | (with_reducible exact L2.mn_var) | (with_reducible exact L2.mn_c) | ((with_reducible refine L2.mn_op ?_ ?_ ?_) <;> walk_at "mono") | ((with_reducible refine L2.mn_un ?_ ?_) <;> walk_at "mono") | (with_reducible exact L2.mn_rI) | (with_reducible exact L2.mn_rI0) | (with_reducible exact L2.mn_rU) | (with_reducible exact L2.mn_rEq) | (with_reducible exact L2.mn_rNe) | (with_reducible exact L2.mn_rEqD) | (with_reducible exact L2.mn_rNeD) | (with_reducible exact L2.mn_ixL) | (with_reducible exact L2.mn_ixT) | (with_reducible exact L2.mn_in) | (with_reducible exact L2.mn_isN) | (with_reducible exact L2.mn_notN) | (with_reducible exact L2.mn_cat) | ((with_reducible refine L2.mn_test ?_) <;> walk_at "mono") | ((with_reducible refine L2.mn_tB ?_) <;> walk_at "mono") | ((with_reducible refine L2.mn_not ?_) <;> walk_at "mono") | ((with_reducible refine L2.mn_and ?_ ?_) <;> walk_at "mono") | ((with_reducible refine L2.mn_or ?_ ?_) <;> walk_at "mono") | (with_reducible exact L2.mn_nil) | ((with_reducible refine L2.mn_cons ?_ ?_) <;> walk_at "mono") | ((with_reducible refine L2.mn_cb ?_ ?_) <;> walk_at "mono") | ((with_reducible refine L2.mn_call ?_ ?_) <;> walk_at "mono") | ((with_reducible refine L2.mn_lst ?_) <;> walk_at "mono") | ((with_reducible refine L2.mn_tup ?_) <;> walk_at "mono") | (with_reducible exact L2.mn_len) | (with_reducible exact L2.mn_sum) | (with_reducible exact L2.mn_any) | (with_reducible exact L2.mn_all) | (with_reducible exact L2.mn_max) | (with_reducible exact L2.mn_min) | (with_reducible exact L2.mn_listOf) | (with_reducible exact L2.mn_isT) | (with_reducible exact L2.mn_isC) | (with_reducible exact L2.mn_noPart) | ((with_reducible refine L2.mn_part ?_) <;> walk_at "mono") | ((with_reducible refine L2.mn_sl ?_ ?_ ?_ ?_) <;> walk_at "mono") | (with_reducible exact L2.mn_slL) | ((with_reducible refine L2.mn_bm ?_ ?_ ?_) <;> walk_at "mono") | ((with_reducible refine L2.mn_bm0 ?_ ?_) <;> walk_at "mono") | (with_reducible exact L2.mn_append) | ((with_reducible refine L2.mn_chain ?_ ?_ ?_ ?_ ?_) <;> walk_at "mono") | ((with_reducible refine L2.mn_andV ?_ ?_) <;> walk_at "mono") | ((with_reducible refine L2.mn_orV ?_ ?_) <;> walk_at "mono") | ((with_reducible refine L2.mn_notV ?_) <;> walk_at "mono") | ((with_reducible refine L2.mn_ifE ?_ ?_ ?_) <;> walk_at "mono") | (with_reducible exact L2.mn_name) | (with_reducible exact L2.mn_gNil) | ((with_reducible refine L2.mn_gCons ?_ ?_) <;> walk_at "mono") | ((with_reducible refine L2.mn_gLst ?_) <;> walk_at "mono") | ((with_reducible refine L2.mn_gTup ?_) <;> walk_at "mono") | (with_reducible exact L2.mn_next) | (with_reducible exact L2.mn_nxE) | (with_reducible exact L2.mn_never) | (with_reducible exact L2.mn_break) | (with_reducible exact L2.mn_cont) | ((with_reducible refine L2.mn_ret ?_) <;> walk_at "mono") | (with_reducible exact L2.mn_retN) | ((with_reducible refine L2.mn_drop ?_) <;> walk_at "mono") | ((with_reducible refine L2.mn_asg ?_ ?_) <;> walk_at "mono") | ((with_reducible refine L2.mn_seq ?_ ?_) <;> walk_at "mono") | ((with_reducible refine L2.mn_if ?_ ?_ ?_) <;> walk_at "mono") | assumption)
local macro_rules | `(tactic| walk_at "mono") => `(tactic| first | (with_reducible exact L2.mn_rEqR) | (with_reducible exact L2.mn_rNeR) | ((with_reducible refine L2.mn_comp ?_) <;> walk_at "mono") | ((with_reducible refine L2.mn_iList ?_) <;> walk_at "mono") | ((with_reducible refine L2.mn_dput ?_ ?_ ?_) <;> walk_at "mono"))
namespace My
open PySem L2 PyProof.Rows
def top (i : Nat) : Stmt := PySem.Challenge.pw_lotledger_k43_split_and_joined.main.body.getD i (.Pass ⟨0, 0, 0, 0⟩)
abbrev s__law_cell_at : Stmt := top 12
abbrev s__law_mixed : Stmt := top 13
abbrev s__law_chunks : Stmt := top 14
abbrev s__law_small : Stmt := top 15
abbrev s__law_row : Stmt := top 16
abbrev s_pieces_split : Stmt := top 10
abbrev s_Lot___init__ : Stmt := inClass (top 5) 0
abbrev s_Lot_with_more : Stmt := inClass (top 5) 3
abbrev s_row_split : Stmt := top 9
abbrev s_Lot_told : Stmt := inClass (top 5) 1
abbrev s__law_whole : Stmt := top 18
abbrev s__law_is_row : Stmt := top 19
abbrev s__law_lots : Stmt := top 17
abbrev s_cost_in : Stmt := top 7
abbrev s_pieces_in : Stmt := top 6
abbrev s__law_step_good : Stmt := top 20
abbrev s_law : Stmt := top 21
structure Adr where
  _law_cell_at : Addr
  _law_mixed : Addr
  _law_chunks : Addr
  _law_small : Addr
  _law_row : Addr
  pieces_split : Addr
  Lot___init__ : Addr
  Lot_with_more : Addr
  row_split : Addr
  Lot_told : Addr
  _law_whole : Addr
  _law_is_row : Addr
  _law_lots : Addr
  cost_in : Addr
  pieces_in : Addr
  _law_step_good : Addr
  law : Addr
  C_Lot : Addr
  C_NoPieces : Addr
  cT : Addr
  PT : Addr
structure Fds where
  _law_cell_at : FuncData
  _law_mixed : FuncData
  _law_chunks : FuncData
  _law_small : FuncData
  _law_row : FuncData
  pieces_split : FuncData
  Lot___init__ : FuncData
  Lot_with_more : FuncData
  row_split : FuncData
  Lot_told : FuncData
  _law_whole : FuncData
  _law_is_row : FuncData
  _law_lots : FuncData
  cost_in : FuncData
  pieces_in : FuncData
  _law_step_good : FuncData
  law : FuncData
structure Txt (K : PySem.W.Frag) (mg : Str → Option Value) (A : Adr) (D : Fds) : Prop where
  m__law_cell_at : mg "_law_cell_at" = some (.ref A._law_cell_at)
  k__law_cell_at : PySem.W.keepIn K (.ref A._law_cell_at) = true
  F__law_cell_at : Fun K "_law_cell_at" "_law_cell_at" s__law_cell_at A._law_cell_at D._law_cell_at
  m__law_mixed : mg "_law_mixed" = some (.ref A._law_mixed)
  k__law_mixed : PySem.W.keepIn K (.ref A._law_mixed) = true
  F__law_mixed : Fun K "_law_mixed" "_law_mixed" s__law_mixed A._law_mixed D._law_mixed
  m__law_chunks : mg "_law_chunks" = some (.ref A._law_chunks)
  k__law_chunks : PySem.W.keepIn K (.ref A._law_chunks) = true
  F__law_chunks : Fun K "_law_chunks" "_law_chunks" s__law_chunks A._law_chunks D._law_chunks
  m__law_small : mg "_law_small" = some (.ref A._law_small)
  k__law_small : PySem.W.keepIn K (.ref A._law_small) = true
  F__law_small : Fun K "_law_small" "_law_small" s__law_small A._law_small D._law_small
  m__law_row : mg "_law_row" = some (.ref A._law_row)
  k__law_row : PySem.W.keepIn K (.ref A._law_row) = true
  F__law_row : Fun K "_law_row" "_law_row" s__law_row A._law_row D._law_row
  m_pieces_split : mg "pieces_split" = some (.ref A.pieces_split)
  k_pieces_split : PySem.W.keepIn K (.ref A.pieces_split) = true
  F_pieces_split : Fun K "pieces_split" "pieces_split" s_pieces_split A.pieces_split D.pieces_split
  F_Lot___init__ : Fun K "__init__" "Lot.__init__" s_Lot___init__ A.Lot___init__ D.Lot___init__
  F_Lot_with_more : Fun K "with_more" "Lot.with_more" s_Lot_with_more A.Lot_with_more D.Lot_with_more
  m_row_split : mg "row_split" = some (.ref A.row_split)
  k_row_split : PySem.W.keepIn K (.ref A.row_split) = true
  F_row_split : Fun K "row_split" "row_split" s_row_split A.row_split D.row_split
  F_Lot_told : Fun K "told" "Lot.told" s_Lot_told A.Lot_told D.Lot_told
  m__law_whole : mg "_law_whole" = some (.ref A._law_whole)
  k__law_whole : PySem.W.keepIn K (.ref A._law_whole) = true
  F__law_whole : Fun K "_law_whole" "_law_whole" s__law_whole A._law_whole D._law_whole
  m__law_is_row : mg "_law_is_row" = some (.ref A._law_is_row)
  k__law_is_row : PySem.W.keepIn K (.ref A._law_is_row) = true
  F__law_is_row : Fun K "_law_is_row" "_law_is_row" s__law_is_row A._law_is_row D._law_is_row
  m__law_lots : mg "_law_lots" = some (.ref A._law_lots)
  k__law_lots : PySem.W.keepIn K (.ref A._law_lots) = true
  F__law_lots : Fun K "_law_lots" "_law_lots" s__law_lots A._law_lots D._law_lots
  m_cost_in : mg "cost_in" = some (.ref A.cost_in)
  k_cost_in : PySem.W.keepIn K (.ref A.cost_in) = true
  F_cost_in : Fun K "cost_in" "cost_in" s_cost_in A.cost_in D.cost_in
  m_pieces_in : mg "pieces_in" = some (.ref A.pieces_in)
  k_pieces_in : PySem.W.keepIn K (.ref A.pieces_in) = true
  F_pieces_in : Fun K "pieces_in" "pieces_in" s_pieces_in A.pieces_in D.pieces_in
  m__law_step_good : mg "_law_step_good" = some (.ref A._law_step_good)
  k__law_step_good : PySem.W.keepIn K (.ref A._law_step_good) = true
  F__law_step_good : Fun K "_law_step_good" "_law_step_good" s__law_step_good A._law_step_good D._law_step_good
  m_law : mg "law" = some (.ref A.law)
  k_law : PySem.W.keepIn K (.ref A.law) = true
  F_law : Fun K "law" "law" s_law A.law D.law
  b_len : mg "len" = none
  b_range : mg "range" = none
  b_max : mg "max" = none
  b_min : mg "min" = none
  b_sorted : mg "sorted" = none
  b_zip : mg "zip" = none
  b_isinstance : mg "isinstance" = none
  b_int : mg "int" = none
  b_bool : mg "bool" = none
  b_list : mg "list" = none
  b_all : mg "all" = none
  b_sum : mg "sum" = none
  b_set : mg "set" = none
  m_Lot : mg "Lot" = some (.ref A.C_Lot)
  m_NoPieces : mg "NoPieces" = some (.ref A.C_NoPieces)
  x_NoPieces : XCls K A.C_NoPieces
  y_NoPieces : XAsk K A.C_NoPieces
  cl_Lot : Cls K A.C_Lot
  ty_Lot : InsTy K A.C_Lot
  n_Lot_number : NoAttr K A.C_Lot "number"
  n_Lot_since : NoAttr K A.C_Lot "since"
  n_Lot_pieces : NoAttr K A.C_Lot "pieces"
  n_Lot_cost : NoAttr K A.C_Lot "cost"
  mk_Lot : Mk K A.C_Lot A.Lot___init__
  me_Lot_with_more : Meth K A.C_Lot "with_more" A.Lot_with_more
  me_Lot_told : Meth K A.C_Lot "told" A.Lot_told
  lamc : D._law_row.code = .ref A.cT
  lamC : PySem.W.codeHdIn K A.cT A.PT = true
  ki_Lot : PySem.W.kitOne K (.ref A.C_Lot) (.ref A.C_Lot) = some true
theorem sc__law_cell_at : FnScope ["_law_script", "_law_k"] ["_law_script", "_law_k"] (defScope s__law_cell_at) := ⟨rfl, rfl, rfl, by decide +kernel, rfl, by decide +kernel, by decide +kernel⟩
theorem sc__law_mixed : FnScope ["_law_cell", "_law_k", "_law_number"] ["_law_cell", "_law_k"] (defScope s__law_mixed) := ⟨rfl, rfl, rfl, by decide +kernel, rfl, by decide +kernel, by decide +kernel⟩
theorem sc__law_chunks : FnScope ["_law_script", "_law_many", "_law_chunks_here", "_law_rest", "_law_by_digits", "_law_k", "_law_cell", "_law_number"] ["_law_script", "_law_many"] (defScope s__law_chunks) := ⟨rfl, rfl, rfl, by decide +kernel, rfl, by decide +kernel, by decide +kernel⟩
theorem sc__law_small : FnScope ["_law_number", "_law_most"] ["_law_number", "_law_most"] (defScope s__law_small) := ⟨rfl, rfl, rfl, by decide +kernel, rfl, by decide +kernel, by decide +kernel⟩
theorem sc__law_row : FnScope ["_law_chunks_here", "_law_rows", "_law_used", "_law_number", "_law_lot", "_law_since", "_law_pieces"] ["_law_chunks_here"] (defScope s__law_row) := ⟨rfl, rfl, rfl, by decide +kernel, rfl, by decide +kernel, by decide +kernel⟩
theorem sc_pieces_split : FnScope ["lots", "many", "of", "counts", "pieces_till_here", "split_till_here", "lot", "split_with_it"] ["lots", "many", "of"] (defScope s_pieces_split) := ⟨rfl, rfl, rfl, by decide +kernel, rfl, by decide +kernel, by decide +kernel⟩
theorem sc_Lot___init__ : FnScope ["self", "number", "since", "pieces", "cost"] ["self", "number", "since", "pieces", "cost"] (defScope s_Lot___init__) := ⟨rfl, rfl, rfl, by decide +kernel, rfl, by decide +kernel, by decide +kernel⟩
theorem sc_Lot_with_more : FnScope ["self", "pieces", "cost"] ["self", "pieces", "cost"] (defScope s_Lot_with_more) := ⟨rfl, rfl, rfl, by decide +kernel, rfl, by decide +kernel, by decide +kernel⟩
theorem sc_row_split : FnScope ["lots", "many", "of", "row", "cost_of_gone", "lot", "pieces", "last"] ["lots", "many", "of"] (defScope s_row_split) := ⟨rfl, rfl, rfl, by decide +kernel, rfl, by decide +kernel, by decide +kernel⟩
theorem sc_Lot_told : FnScope ["self"] ["self"] (defScope s_Lot_told) := ⟨rfl, rfl, rfl, by decide +kernel, rfl, by decide +kernel, by decide +kernel⟩
theorem sc__law_whole : FnScope ["_law_found"] ["_law_found"] (defScope s__law_whole) := ⟨rfl, rfl, rfl, by decide +kernel, rfl, by decide +kernel, by decide +kernel⟩
theorem sc__law_is_row : FnScope ["_law_found", "_law_rows", "_law_lot", "_law_row_here"] ["_law_found", "_law_rows"] (defScope s__law_is_row) := ⟨rfl, rfl, rfl, by decide +kernel, rfl, by decide +kernel, by decide +kernel⟩
theorem sc__law_lots : FnScope ["_law_rows"] ["_law_rows"] (defScope s__law_lots) := ⟨rfl, rfl, rfl, by decide +kernel, rfl, by decide +kernel, by decide +kernel⟩
theorem sc_cost_in : FnScope ["lots"] ["lots"] (defScope s_cost_in) := ⟨rfl, rfl, rfl, by decide +kernel, rfl, by decide +kernel, by decide +kernel⟩
theorem sc_pieces_in : FnScope ["lots"] ["lots"] (defScope s_pieces_in) := ⟨rfl, rfl, rfl, by decide +kernel, rfl, by decide +kernel, by decide +kernel⟩
theorem sc__law_step_good : FnScope ["_law_before", "_law_after", "_law_many", "_law_of", "_law_numbers", "_law_places", "_law_lot", "_law_at"] ["_law_before", "_law_after", "_law_many", "_law_of"] (defScope s__law_step_good) := ⟨rfl, rfl, rfl, by decide +kernel, rfl, by decide +kernel, by decide +kernel⟩
theorem sc_law : FnScope ["_law_script", "_law_chunks_here", "_law_rows", "_law_number", "_law_line", "_law_kept", "_law_k", "_law_many", "_law_of", "_law_before", "_law_after", "_law_lots_here", "_law_told", "_law_lot", "_law_since", "_law_pieces", "_law_cost", "_law_alone"] ["_law_script"] (defScope s_law) := ⟨rfl, rfl, rfl, by decide +kernel, rfl, by decide +kernel, by decide +kernel⟩
section
variable {P : Program} {w : World} {K : PySem.W.Frag} {mg : Str → Option Value} {base : Heap} {A : Adr} {D : Fds}
theorem b__law_cell_at (T : Txt K mg A D) : Binds K D._law_cell_at ["_law_script", "_law_k"] [] := T.F__law_cell_at.binds (ps := ["_law_script", "_law_k"]) fun _ _ _ _ _ _ us hl => match us, hl with | [_, _], _ => rfl
theorem b__law_mixed (T : Txt K mg A D) : Binds K D._law_mixed ["_law_cell", "_law_k"] [] := T.F__law_mixed.binds (ps := ["_law_cell", "_law_k"]) fun _ _ _ _ _ _ us hl => match us, hl with | [_, _], _ => rfl
theorem b__law_chunks (T : Txt K mg A D) : Binds K D._law_chunks ["_law_script", "_law_many"] [] := T.F__law_chunks.binds (ps := ["_law_script", "_law_many"]) fun _ _ _ _ _ _ us hl => match us, hl with | [_, _], _ => rfl
theorem b__law_small (T : Txt K mg A D) : Binds K D._law_small ["_law_number", "_law_most"] [] := T.F__law_small.binds (ps := ["_law_number", "_law_most"]) fun _ _ _ _ _ _ us hl => match us, hl with | [_, _], _ => rfl
theorem b__law_row (T : Txt K mg A D) : Binds K D._law_row ["_law_chunks_here"] [] := T.F__law_row.binds (ps := ["_law_chunks_here"]) fun _ _ _ _ _ _ us hl => match us, hl with | [_], _ => rfl
theorem b_pieces_split (T : Txt K mg A D) : Binds K D.pieces_split ["lots", "many", "of"] [] := T.F_pieces_split.binds (ps := ["lots", "many", "of"]) fun _ _ _ _ _ _ us hl => match us, hl with | [_, _, _], _ => rfl
theorem b_Lot___init__ (T : Txt K mg A D) : Binds K D.Lot___init__ ["self", "number", "since", "pieces", "cost"] [] := T.F_Lot___init__.binds (ps := ["self", "number", "since", "pieces", "cost"]) fun _ _ _ _ _ _ us hl => match us, hl with | [_, _, _, _, _], _ => rfl
theorem b_Lot_with_more (T : Txt K mg A D) : Binds K D.Lot_with_more ["self", "pieces", "cost"] [] := T.F_Lot_with_more.binds (ps := ["self", "pieces", "cost"]) fun _ _ _ _ _ _ us hl => match us, hl with | [_, _, _], _ => rfl
theorem b_row_split (T : Txt K mg A D) : Binds K D.row_split ["lots", "many", "of"] [] := T.F_row_split.binds (ps := ["lots", "many", "of"]) fun _ _ _ _ _ _ us hl => match us, hl with | [_, _, _], _ => rfl
theorem b_Lot_told (T : Txt K mg A D) : Binds K D.Lot_told ["self"] [] := T.F_Lot_told.binds (ps := ["self"]) fun _ _ _ _ _ _ us hl => match us, hl with | [_], _ => rfl
theorem b__law_whole (T : Txt K mg A D) : Binds K D._law_whole ["_law_found"] [] := T.F__law_whole.binds (ps := ["_law_found"]) fun _ _ _ _ _ _ us hl => match us, hl with | [_], _ => rfl
theorem b__law_is_row (T : Txt K mg A D) : Binds K D._law_is_row ["_law_found", "_law_rows"] [] := T.F__law_is_row.binds (ps := ["_law_found", "_law_rows"]) fun _ _ _ _ _ _ us hl => match us, hl with | [_, _], _ => rfl
theorem b__law_lots (T : Txt K mg A D) : Binds K D._law_lots ["_law_rows"] [] := T.F__law_lots.binds (ps := ["_law_rows"]) fun _ _ _ _ _ _ us hl => match us, hl with | [_], _ => rfl
theorem b_cost_in (T : Txt K mg A D) : Binds K D.cost_in ["lots"] [] := T.F_cost_in.binds (ps := ["lots"]) fun _ _ _ _ _ _ us hl => match us, hl with | [_], _ => rfl
theorem b_pieces_in (T : Txt K mg A D) : Binds K D.pieces_in ["lots"] [] := T.F_pieces_in.binds (ps := ["lots"]) fun _ _ _ _ _ _ us hl => match us, hl with | [_], _ => rfl
theorem b__law_step_good (T : Txt K mg A D) : Binds K D._law_step_good ["_law_before", "_law_after", "_law_many", "_law_of"] [] := T.F__law_step_good.binds (ps := ["_law_before", "_law_after", "_law_many", "_law_of"]) fun _ _ _ _ _ _ us hl => match us, hl with | [_, _, _, _], _ => rfl
theorem b_law (T : Txt K mg A D) : Binds K D.law ["_law_script"] [] := T.F_law.binds (ps := ["_law_script"]) fun _ _ _ _ _ _ us hl => match us, hl with | [_], _ => rfl
end
end My
namespace My
open PySem L2 PyProof.Rows
section
variable {P : Program} {w : World} {K : PySem.W.Frag} {mg : Str → Option Value} {base : Heap} {A : Adr} {D : Fds}
theorem abs_mono {x : Int} {m k : Nat} (hx : x.natAbs < 2 ^ m) (h : m ≤ k) : x.natAbs < 2 ^ k := Nat.lt_of_lt_of_le hx (Nat.pow_le_pow_right (by decide) h)
def sp__law_whole : Sp := fun vs H Q _ => ∃ i, vs = [.int i] ∧ Q (.bl true) H
theorem map_get {ns : List Int} {i : Nat} {y : V} (h : (ns.map V.int)[i]? = some y) : ∃ z, y = V.int z ∧ ns[i]? = some z := by
  rw [List.getElem?_map] at h
  cases e : ns[i]? with
  | none => rw [e] at h; cases h
  | some z => rw [e] at h; exact ⟨z, (Option.some.inj h).symm, rfl⟩
theorem tyL {K : PySem.W.Frag} {H : Hp} {p : Addr} {xs : List V} (h : SqL K H p xs) : tyV K "list" (.ref p) H := .inl ⟨rfl, _, h⟩
end
end My
namespace My
open PySem L2 PyProof.Rows
section
variable {P : Program} {w : World} {K : PySem.W.Frag} {mg : Str → Option Value} {base : Heap} {A : Adr} {D : Fds}
theorem ok__law_whole (T : Txt K mg A D) : FnOk P w K mg base CX0 1 A._law_whole D._law_whole ["_law_found"] sp__law_whole := by
  refine T.F__law_whole.ok sc__law_whole (fun vs H Q E h => ?_) (fun cdv A outer s H vs Q E hr h => ?_)
  · obtain ⟨i, rfl, _⟩ := h; rfl
  · obtain ⟨i, rfl, k⟩ := h
    refine ⟨_, (pss_one (ps_ret (pe_and (pe_callB (call_isTK (K := K)) (by rfl) T.b_isinstance (by decide +kernel) (pa_cons (pv 0) (pa_cons (pe_ty "int" (by rfl) T.b_int (by decide +kernel)) pa_nil))) (pe_one (pe_not (pe_callB (call_isTK (K := K)) (by rfl) T.b_isinstance (by decide +kernel) (pa_cons (pv 0) (pa_cons (pe_ty "bool" (by rfl) T.b_bool (by decide +kernel)) pa_nil)))))))), ?_⟩
    walk_at "rd"
    refine ⟨_, .int i, true, by with_unfolding_all rfl, ?_⟩
    walk_at "rd"
    refine ⟨_, .int i, false, by with_unfolding_all rfl, ?_⟩
    walk_at "rd"
    exact k
end
end My
namespace My
open PySem L2 PyProof.Rows
section
variable {P : Program} {w : World} {K : PySem.W.Frag} {mg : Str → Option Value} {base : Heap} {A : Adr} {D : Fds}
structure LotD where
  n : Int
  s : Int
  p : Int
  c : Int
def LotD.fs (d : LotD) : List (Str × V) := [("number", .int d.n), ("since", .int d.s), ("pieces", .int d.p), ("cost", .int d.c)]
def LotD.is (d : LotD) : List Int := [d.n, d.s, d.p, d.c]
def LotD.vs (d : LotD) : List V := [.int d.n, .int d.s, .int d.p, .int d.c]
theorem LotD.vs_is (d : LotD) : d.vs = d.is.map V.int := rfl
def IsLot (A : Adr) (H : Hp) (x : Addr) (d : LotD) : Prop := ∃ dx, H x = some (.ins A.C_Lot dx d.fs)
theorem IsLot.same {H H' : Hp} {x : Addr} {d : LotD} (h : IsLot A H x d) (s : Same H H') : IsLot A H' x d := let ⟨dx, e⟩ := h; ⟨dx, s _ _ e⟩
theorem IsLot.but {H H' : Hp} {D : Addr} {x : Addr} {d : LotD} (h : IsLot A H x d) (hne : x ≠ D) (s : But D H H') : IsLot A H' x d := let ⟨dx, e⟩ := h; ⟨dx, s _ _ hne e⟩
def Bd (i : Int) : Prop := -(2 ^ 500) < i ∧ i < 2 ^ 500
theorem Bd.mul {i j : Int} (h : Bd i) (h' : Bd j) : CMulU i j := by
  have h1 := h.1; have h2 := h.2; have h3 := h'.1; have h4 := h'.2
  refine CMulU.big ?_ ?_
  · have : i.natAbs < 2 ^ 500 := by omega
    exact Nat.lt_of_lt_of_le this (Nat.pow_le_pow_right (by decide) (by decide))
  · have : j.natAbs < 2 ^ 500 := by omega
    exact Nat.lt_of_lt_of_le this (Nat.pow_le_pow_right (by decide) (by decide))
theorem putF_at {f : Str} {v : V} {fs : List (Str × V)} (ns : List Str) (e : fs.map (·.1) = ns) (h : ns.contains f = false) : putF f v fs = fs ++ [(f, v)] := putF_new f v (e ▸ h)
structure New (B H : Hp) (x : Addr) (C dx : Addr) (fs : List (Str × V)) : Prop where
  s : Same B H
  n : B x = Option.none
  h : H x = some (.ins C dx fs)
theorem New.put {B H : Hp} {x C dx : Addr} {fs gs : List (Str × V)} (h : New B H x C dx fs) (e : gs = gs) : New B (upd H x (.ins C dx gs)) x C dx gs := ⟨h.s.upd h.n, h.n, upd_same⟩
theorem new_mk {H : Hp} {x C dx : Addr} (hx : H x = Option.none) (hdx : H dx = Option.none) : New H (upd (upd H dx (.own x)) x (.ins C dx [])) x C dx [] := ⟨(Same.new hdx).upd hx, hx, upd_same⟩
def sp_Lot___init__ (A : Adr) : Sp := fun vs H Q _ => ∃ (x : Addr) (d : LotD) (B : Hp) (dx : Addr), vs = .ref x :: d.vs ∧ New B H x A.C_Lot dx [] ∧ ∀ H', New B H' x A.C_Lot dx d.fs → Q .non H'
theorem ok_Lot___init__ (T : Txt K mg A D) : FnOk P w K mg base CX0 1 A.Lot___init__ D.Lot___init__ ["self", "number", "since", "pieces", "cost"] (sp_Lot___init__ A) := by
  refine T.F_Lot___init__.ok sc_Lot___init__ (fun vs H Q E h => ?_) (fun cdv A' outer s H vs Q E hr h => ?_)
  · obtain ⟨x, d, B, dx, rfl, _⟩ := h; rfl
  · obtain ⟨x, ⟨n, s, p, c⟩, B, dx, rfl, hN, k⟩ := h
    refine ⟨_, (pss_cons (ps_fldK (K := K) (pv 0) (pv 1) rfl)
      (pss_cons (ps_fldK (K := K) (pv 0) (pv 2) rfl)
      (pss_cons (ps_fldK (K := K) (pv 0) (pv 3) rfl)
      (pss_one (ps_fldK (K := K) (pv 0) (pv 4) rfl))))), ?_⟩
    simp only [LotD.vs]
    walk_at "rda"
    refine ⟨_, dx, _, hN.h, T.cl_Lot, T.n_Lot_number, by decide, ?_⟩
    rw [putF_new _ _ (by decide +kernel)]
    have hN := hN.put (gs := [] ++ [(Str.ofString "number", V.int n)]) rfl
    refine ⟨_, dx, _, hN.h, T.cl_Lot, T.n_Lot_since, by simp, ?_⟩
    rw [putF_at (f := Str.ofString "since") ["number"] (by rfl) (by decide +kernel)]
    have hN := hN.put (gs := ([] ++ [(Str.ofString "number", V.int n)]) ++ [(Str.ofString "since", V.int s)]) rfl
    refine ⟨_, dx, _, hN.h, T.cl_Lot, T.n_Lot_pieces, by simp, ?_⟩
    rw [putF_at (f := Str.ofString "pieces") ["number", "since"] (by rfl) (by decide +kernel)]
    have hN := hN.put (gs := (([] ++ [(Str.ofString "number", V.int n)]) ++ [(Str.ofString "since", V.int s)]) ++ [(Str.ofString "pieces", V.int p)]) rfl
    refine ⟨_, dx, _, hN.h, T.cl_Lot, T.n_Lot_cost, by simp, ?_⟩
    rw [putF_at (f := Str.ofString "cost") ["number", "since", "pieces"] (by rfl) (by decide +kernel)]
    exact k _ (hN.put rfl)
def sp_Lot_told (A : Adr) : Sp := fun vs H Q _ => ∃ (x : Addr) (d : LotD), vs = [.ref x] ∧ IsLot A H x d ∧ ∀ t, H t = Option.none → Q (.ref t) (upd H t (.tup d.vs))
theorem ok_Lot_told (T : Txt K mg A D) : FnOk P w K mg base CX0 1 A.Lot_told D.Lot_told ["self"] (sp_Lot_told A) := by
  refine T.F_Lot_told.ok sc_Lot_told (fun vs H Q E h => ?_) (fun cdv A' outer s H vs Q E hr h => ?_)
  · obtain ⟨x, d, rfl, _⟩ := h; rfl
  · obtain ⟨x, ⟨n, s, p, c⟩, rfl, ⟨dx, hx⟩, k⟩ := h
    refine ⟨_, (pss_one (ps_ret (pe_tup (pa_cons (pe_fldK (K := K) (pv 0) rfl) (pa_cons (pe_fldK (K := K) (pv 0) rfl) (pa_cons (pe_fldK (K := K) (pv 0) rfl) (pa_cons (pe_fldK (K := K) (pv 0) rfl) pa_nil))))))), ?_⟩
    walk_at "rda"
    refine ⟨_, dx, _, hx, T.cl_Lot, T.n_Lot_number, _, by rfl, ?_⟩
    refine ⟨_, dx, _, hx, T.cl_Lot, T.n_Lot_since, _, by rfl, ?_⟩
    refine ⟨_, dx, _, hx, T.cl_Lot, T.n_Lot_pieces, _, by rfl, ?_⟩
    refine ⟨_, dx, _, hx, T.cl_Lot, T.n_Lot_cost, _, by rfl, ?_⟩
    exact ⟨by rw [sizeLine_eq]; decide, fun t ht => k t ht⟩
theorem spLot_of {R : Hp → Prop} {E : XK} {H : Hp} {x dx : Addr} (d : LotD) (hx : H x = Option.none) (hdx : H dx = Option.none) (k : ∀ H', Same H H' → IsLot A H' x d → R H') :
    sp_Lot___init__ A (.ref x :: d.vs) (upd (upd H dx (.own x)) x (.ins A.C_Lot dx [])) (fun v H2 => v = .non ∧ R H2) E :=
  ⟨x, d, H, dx, rfl, new_mk hx hdx, fun H' hN => ⟨rfl, k H' hN.s ⟨dx, hN.h⟩⟩⟩
end
end My
namespace My
open PySem L2 PyProof.Rows
section
variable {P : Program} {w : World} {K : PySem.W.Frag} {mg : Str → Option Value} {base : Heap} {A : Adr} {D : Fds}
def sp_Lot_with_more (A : Adr) : Sp := fun vs H Q _ => ∃ (x : Addr) (d : LotD) (p c : Int), vs = [.ref x, .int p, .int c] ∧ IsLot A H x d ∧ ∀ y H', Same H H' → H y = Option.none → IsLot A H' y ⟨d.n, d.s, d.p + p, d.c + c⟩ → Q (.ref y) H'
theorem ok_Lot_with_more (T : Txt K mg A D) : FnOk P w K mg base CX0 3 A.Lot_with_more D.Lot_with_more ["self", "pieces", "cost"] (sp_Lot_with_more A) := by
  refine T.F_Lot_with_more.ok sc_Lot_with_more (fun vs H Q E h => ?_) (fun cdv A' outer s H vs Q E hr h => ?_)
  · obtain ⟨x, d, p, c, rfl, _⟩ := h; rfl
  · obtain ⟨x, ⟨n, s, p, c⟩, p', c', rfl, ⟨dx, hx⟩, k⟩ := h
    refine ⟨_, (pss_one (ps_ret (pe_make T.mk_Lot (ok_Lot___init__ (K := K) T) (hr.mono (by decide)) (by rfl) T.m_Lot (b_Lot___init__ T) .nil pass0 (pa_cons (pe_fldK (K := K) (pv 0) rfl) (pa_cons (pe_fldK (K := K) (pv 0) rfl) (pa_cons (pe_op op_add (pe_fldK (K := K) (pv 0) rfl) (pv 1)) (pa_cons (pe_op op_add (pe_fldK (K := K) (pv 0) rfl) (pv 2)) pa_nil))))))), ?_⟩
    walk_at "rda"
    refine ⟨_, dx, _, hx, T.cl_Lot, T.n_Lot_number, _, by rfl, ?_⟩
    refine ⟨_, dx, _, hx, T.cl_Lot, T.n_Lot_since, _, by rfl, ?_⟩
    refine ⟨_, dx, _, hx, T.cl_Lot, T.n_Lot_pieces, _, by rfl, ?_⟩
    refine ⟨_, rfl, _, dx, _, hx, T.cl_Lot, T.n_Lot_cost, _, by rfl, _, rfl, fun y dy hy hdy _ => ?_⟩
    exact spLot_of ⟨n, s, p + p', c + c'⟩ hy hdy fun H' sm hL => k y H' sm hy hL
end
end My
namespace My
open PySem L2 PyProof.Rows
section
variable {P : Program} {w : World} {K : PySem.W.Frag} {mg : Str → Option Value} {base : Heap} {A : Adr} {D : Fds}
local macro_rules | `(tactic| walk_at "nx") => `(tactic| ((try dsimp only); rw [ap_seq]; walk_at "rdi"))
abbrev RL := List (Addr × LotD)
def refsR (rs : RL) : List V := rs.map fun r => V.ref r.1
def RowAt (H : Hp) (rs : RL) : Prop := ∀ r ∈ rs, H r.1 = some (.tup r.2.vs)
def LotAt (A : Adr) (H : Hp) (rs : RL) : Prop := ∀ r ∈ rs, IsLot A H r.1 r.2
theorem RowAt.same {H H' : Hp} {rs : RL} (h : RowAt H rs) (s : Same H H') : RowAt H' rs := fun r hr => s _ _ (h r hr)
theorem LotAt.same {H H' : Hp} {rs : RL} (h : LotAt A H rs) (s : Same H H') : LotAt A H' rs := fun r hr => (h r hr).same s
structure Good (d : LotD) : Prop where
  n : 0 ≤ d.n ∧ d.n ≤ 1000000
  s : 0 ≤ d.s ∧ d.s ≤ 1000000
  p : 1 ≤ d.p ∧ d.p ≤ 1000000000
  c : 0 ≤ d.c ∧ d.c ≤ 1000000000000000000
theorem refsR_get {rs : RL} {i : Nat} {y : V} (h : (refsR rs)[i]? = some y) : ∃ r, rs[i]? = some r ∧ y = .ref r.1 := by
  unfold refsR at h
  rw [List.getElem?_map] at h
  cases e : rs[i]? with
  | none => rw [e] at h; cases h
  | some r => rw [e] at h; exact ⟨r, rfl, (Option.some.inj h).symm⟩
theorem refsR_len (rs : RL) : (refsR rs).length = rs.length := by unfold refsR; rw [List.length_map]
theorem get_mem {rs : RL} {i : Nat} {r : Addr × LotD} (h : rs[i]? = some r) : r ∈ rs := List.mem_of_getElem? h
theorem refs_of (F : V → Hp → Addr × LotD → Prop) {acc : List V} {H : Hp} : ∀ {ds : List LotD}, acc.length = ds.length → (∀ (i : Nat) v, acc[i]? = some v → ∃ b d, ds[i]? = some d ∧ v = .ref b ∧ F v H (b, d)) →
    ∃ rs : RL, acc = refsR rs ∧ rs.map (·.2) = ds ∧ ∀ r ∈ rs, F (.ref r.1) H r := by
  induction acc with
  | nil =>
    intro ds hl _
    cases ds with
    | nil => exact ⟨[], rfl, rfl, fun r h => by cases h⟩
    | cons _ _ => simp at hl
  | cons v acc ih =>
    intro ds hl h
    cases ds with
    | nil => simp at hl
    | cons d ds =>
      obtain ⟨b, d', e, rfl, hf⟩ := h 0 v rfl
      cases e
      obtain ⟨rs, e1, e2, e3⟩ := ih (ds := ds) (by simpa using hl) fun i v hv => h (i + 1) v hv
      refine ⟨(b, d) :: rs, by rw [e1]; rfl, by rw [List.map_cons, e2], fun r hr => ?_⟩
      rcases List.mem_cons.mp hr with rfl | hr
      · exact hf
      · exact e3 r hr
def sp__law_lots (K : PySem.W.Frag) (A : Adr) : Sp := fun vs H Q _ => ∃ (p : Addr) (rs : RL), vs = [.ref p] ∧ SqL K H p (refsR rs) ∧ RowAt H rs ∧ rs.length ≤ 100 ∧
  ∀ q ls H', Same H H' → H q = Option.none → H' q = some (.lst (refsR ls)) → ls.map (·.2) = rs.map (·.2) → LotAt A H' ls → Q (.ref q) H'
theorem ok__law_lots (T : Txt K mg A D) : FnOk P w K mg base CX0 3 A._law_lots D._law_lots ["_law_rows"] (sp__law_lots K A) := by
  refine T.F__law_lots.ok sc__law_lots (fun vs H Q E h => ?_) (fun cdv A' outer s0 H vs Q E hr h => ?_)
  · obtain ⟨p, rs, rfl, _⟩ := h; rfl
  · obtain ⟨p, rs, rfl, hS, hR, hl, k⟩ := h
    refine ⟨_, (pss_one (ps_ret (pe_comp (cap := [Option.none, Option.none, Option.none, Option.none]) (N' := ["_law_lot", "_law_since", "_law_pieces", "_law_cost"]) rfl (by walk_at "compok") (pi_listK (K := K) (pv 0)) (fun _ _ _ _ => (pg_tupK (K := K) (n := 4) rfl (pgs_cons (pg_name (i := 0) (show (["_law_lot", "_law_since", "_law_pieces", "_law_cost"] : List Str).Nodup from by decide +kernel) rfl (Or.inl rfl) (Or.inr rfl)) (pgs_cons (pg_name (i := 1) (show (["_law_lot", "_law_since", "_law_pieces", "_law_cost"] : List Str).Nodup from by decide +kernel) rfl (Or.inl rfl) (Or.inr rfl)) (pgs_cons (pg_name (i := 2) (show (["_law_lot", "_law_since", "_law_pieces", "_law_cost"] : List Str).Nodup from by decide +kernel) rfl (Or.inl rfl) (Or.inr rfl)) (pgs_cons (pg_name (i := 3) (show (["_law_lot", "_law_since", "_law_pieces", "_law_cost"] : List Str).Nodup from by decide +kernel) rfl (Or.inl rfl) (Or.inr rfl)) pgs_nil)))))) (fun _ _ _ _ => pts_nil) (fun _ _ _ _ => (pe_make T.mk_Lot (ok_Lot___init__ (K := K) T) (hr.mono (by decide)) (by rfl) T.m_Lot (b_Lot___init__ T) .nil pass0 (pa_cons (pv 0) (pa_cons (pv 1) (pa_cons (pv 2) (pa_cons (pv 3) pa_nil))))))))), ?_⟩
    walk_at "rda"
    refine ⟨⟨_, hS⟩, ?_⟩
    refine CompP.listE (fun σ => ∃ a b c d, σ = [a, b, c, d]) (fun i v H' => ∃ b r, rs[i]? = some r ∧ v = .ref b ∧ IsLot A H' b r.2) hS ⟨_, _, _, _, rfl⟩ (by rw [refsR_len, sizeLine_eq]; omega) ?_ ?_
    · rintro Da i x hx σ H5 R ⟨_, _, _, _, rfl⟩ sm hD ⟨acc, hA⟩ kk
      obtain ⟨r, hr', rfl⟩ := refsR_get hx
      have ht := sm _ _ (hR r (get_mem hr'))
      walk_at "rdi"
      refine ⟨_, SqT.of ht, rfl, _, _, rfl, _, _, rfl, _, _, rfl, _, _, rfl, rfl, ?_⟩
      intro x dx hx hdx _
      refine spLot_of r.2 hx hdx fun H6 s6 hL => kk (.ref x) _ H6 ⟨_, _, _, _, rfl⟩ s6 fun H' hb => ⟨x, r, hr', rfl, hL.but (fun e => by rw [e, hA] at hx; cases hx) hb⟩
    · intro Da H' acc hD sm hA hlen hF
      obtain ⟨ls, e1, e2, e3⟩ := refs_of (fun _ H r => IsLot A H r.1 r.2) (H := H') (acc := acc) (ds := rs.map (·.2)) (by rw [hlen, refsR_len, List.length_map]) fun i v hv => by
        obtain ⟨b, r, h1, h2, h3⟩ := hF i v hv
        exact ⟨b, r.2, by rw [List.getElem?_map, h1]; rfl, h2, h3⟩
      exact k Da ls H' sm hD (e1 ▸ hA) e2 e3
end
end My
namespace My
open PySem L2 PyProof.Rows
section
variable {P : Program} {w : World} {K : PySem.W.Frag} {mg : Str → Option Value} {base : Heap} {A : Adr} {D : Fds}
def sp__law_cell_at (K : PySem.W.Frag) : Sp := fun vs H Q _ => ∃ (a : Addr) (ns : List Int) (k : Nat), vs = [.ref a, .int k] ∧ SqL K H a (ns.map V.int) ∧ Q (.int (ns.getD k 0)) H
theorem ok__law_cell_at (T : Txt K mg A D) : FnOk P w K mg base CX0 1 A._law_cell_at D._law_cell_at ["_law_script", "_law_k"] (sp__law_cell_at K) := by
  refine T.F__law_cell_at.ok sc__law_cell_at (fun vs H Q E h => ?_) (fun cdv A outer s H vs Q E hr h => ?_)
  · obtain ⟨a, ns, k', rfl, _⟩ := h; rfl
  · obtain ⟨a, ns, k', rfl, hS, k⟩ := h
    refine ⟨_, (pss_cons (ps_if (pt_cmpR (op_lt) (pv 1) (pe_callB (call_lenK (K := K)) (by rfl) T.b_len (by decide +kernel) (pa_cons (pv 0) pa_nil)) (nomark _)) (pss_one (ps_ret (pe_ix (ix_listK (K := K)) (pv 0) (pv 1) (fun _ _ => rfl)))) pss_nil)
      (pss_one (ps_ret pe_int))), ?_⟩
    walk_at "rda"
    refine ⟨_, .inl hS, ?_⟩
    rw [List.length_map]
    by_cases h : k' < ns.length
    · rw [if_pos (by omega)]
      refine ⟨_, hS, _, atI_nat (j := k') (v := .int (ns.getD k' 0)) ?_, k⟩
      rw [List.getElem?_map, List.getElem?_eq_getElem h, List.getD_eq_getElem?_getD, List.getElem?_eq_getElem h]
      rfl
    · rw [if_neg (by omega)]
      rw [List.getD_eq_getElem?_getD, List.getElem?_eq_none (by omega)] at k
      exact k
end
end My
namespace My
open PySem L2 PyProof.Rows
section
variable {P : Program} {w : World} {K : PySem.W.Frag} {mg : Str → Option Value} {base : Heap} {A : Adr} {D : Fds}
local macro_rules | `(tactic| walk_at "nx") => `(tactic| ((try dsimp only); rw [ap_seq]; walk_at "rdi"))
theorem dep_tup (xs : List Int) : depD (.tup (xs.map DV.int)) = 1 := by
  show depDs (xs.map DV.int) + 1 = 1
  rw [depDs_ints]
theorem rNeD_lot {H : Hp} {Q : VK} {p q : Addr} {d : LotD} (h1 : H p = some (.tup d.vs)) (h2 : H q = some (.tup d.vs)) (hQ : Q (.bl false) H) : rNeD K (.ref p) (.ref q) H Q :=
  ⟨.tup (d.is.map DV.int), .tup (d.is.map DV.int), .tup (SqT.of h1) (repsD_ints K H d.is), .tup (SqT.of h2) (repsD_ints K H d.is), by rw [dep_tup]; decide, by rw [dep_tup]; decide, by rw [deqD_tup, deqDs_ints]; simpa using hQ⟩
def sp__law_is_row (A : Adr) : Sp := fun vs H Q _ => ∃ (q p : Addr) (ls rs : RL), vs = [.ref q, .ref p] ∧ H q = some (.lst (refsR ls)) ∧ H p = some (.lst (refsR rs)) ∧ LotAt A H ls ∧ RowAt H rs ∧ ls.map (·.2) = rs.map (·.2) ∧ ls.length ≤ 100 ∧
  ∀ H', Same H H' → Q (.bl true) H'
theorem ok__law_is_row (T : Txt K mg A D) : FnOk P w K mg base CX0 2 A._law_is_row D._law_is_row ["_law_found", "_law_rows"] (sp__law_is_row A) := by
  refine T.F__law_is_row.ok sc__law_is_row (fun vs H Q E h => ?_) (fun cdv A' outer s0 H vs Q E hr h => ?_)
  · obtain ⟨q, p, ls, rs, rfl, _⟩ := h; rfl
  · obtain ⟨q, p, ls, rs, rfl, hq, hp, hL, hR, he, hl, k⟩ := h
    refine ⟨_, (pss_cons (ps_if (PW.pt (pw_or (pt_not (pt_val (pe_callB (call_isTK (K := K)) (by rfl) T.b_isinstance (by decide +kernel) (pa_cons (pv 0) (pa_cons (pe_ty "list" (by rfl) T.b_list (by decide +kernel)) pa_nil))))) (pw_or1 (pt_cmpR (op_ne) (pe_callB (call_lenK (K := K)) (by rfl) T.b_len (by decide +kernel) (pa_cons (pv 0) pa_nil)) (pe_callB (call_lenK (K := K)) (by rfl) T.b_len (by decide +kernel) (pa_cons (pv 1) pa_nil)) (nomark _))))) (pss_one (ps_ret pe_bl)) pss_nil)
      (pss_cons (ps_for PassesOwn.never rfl (pi_zip (K := K) (by rfl) T.b_zip (pa_cons (pv 0) (pa_cons (pv 1) pa_nil))) (pg_tupK (K := K) (n := 2) rfl (pgs_cons (pg_name (i := 2) sc__law_is_row.nd rfl (Or.inl rfl)) (pgs_cons (pg_name (i := 3) sc__law_is_row.nd rfl (Or.inl rfl)) pgs_nil)))
        (pss_cons (ps_if (PW.pt (pw_or (pt_not (pt_val (pe_callB (call_isCK (K := K)) (by rfl) T.b_isinstance (by decide +kernel) (pa_cons (pv 2) (pa_cons (pe_glob (v := V.ref A.C_Lot) (by rfl) T.m_Lot rfl) pa_nil))))) (pw_or1 (pt_cmpR (op_neDK (K := K) hr) (pe_tup (pa_cons (pe_fldK (K := K) (pv 2) rfl) (pa_cons (pe_fldK (K := K) (pv 2) rfl) (pa_cons (pe_fldK (K := K) (pv 2) rfl) (pa_cons (pe_fldK (K := K) (pv 2) rfl) pa_nil))))) (pv 3) (nomark _))))) (pss_one (ps_ret pe_bl)) pss_nil)
        (pss_one (ps_if (PW.pt (pw_or (pt_not (pt_val (pe_callB (call_allK (K := K) rfl) (by rfl) T.b_all (by decide +kernel) (pa_cons (pe_comp (cap := [Option.none]) (N' := ["_law_number"]) rfl (by walk_at "compok") (pi_tupK (K := K) (pe_methD0 (pv 2) (.cons T.cl_Lot T.me_Lot_told (ok_Lot_told (K := K) T) (hr.mono (by decide)) (b_Lot_told T) .nil) pass0)) (fun _ _ _ _ => (pg_name (i := 0) (show (["_law_number"] : List Str).Nodup from by decide +kernel) rfl (Or.inl rfl) (Or.inr rfl))) (fun _ _ _ _ => pts_nil) (fun _ _ _ _ => (pe_call (ok__law_whole (K := K) T) (hr.mono (by decide)) (by rfl) T.m__law_whole T.k__law_whole (b__law_whole T) .nil pass0 (pa_cons (pv 0) pa_nil)))) pa_nil)))) (pw_or1 (pt_cmpR (op_neDK (K := K) hr) (pe_methD0 (pv 2) (.cons T.cl_Lot T.me_Lot_told (ok_Lot_told (K := K) T) (hr.mono (by decide)) (b_Lot_told T) .nil) pass0) (pv 3) (nomark _))))) (pss_one (ps_ret pe_bl)) pss_nil))))
      (pss_one (ps_ret pe_bl)))), ?_⟩
    have hlen : ls.length = rs.length := by simpa using congrArg List.length he
    simp only [start_eq]
    walk_at "nx"
    refine ⟨_, .lst hq, true, by with_unfolding_all rfl, ?_⟩
    walk_at "rdi"
    refine ⟨_, .inl (SqL.of hq), _, .inl (SqL.of hp), ?_⟩
    rw [refsR_len, refsR_len, hlen]
    rw [if_neg (by simp), ap_seq, ap_for]
    walk_at "rdi"
    refine ⟨⟨_, SqL.of hq⟩, ⟨_, SqL.of hp⟩, ?_⟩
    refine ForP.zip (K := K) (a := q) (b := p) (xs := refsR ls) (ys := refsR rs) (fun i σ H1 => (∃ v2 v3, σ = [some (.ref q), some (.ref p), v2, v3]) ∧ Same H H1) (by rw [refsR_len, refsR_len, hlen])
      ⟨⟨_, _, rfl⟩, Same.refl _⟩ (fun i σ H1 _ ⟨_, s1⟩ => ⟨s1.seq (SqL.of hq), s1.seq (SqL.of hp)⟩) ?_ ?_
    · rintro i x y σ H1 pt hx hy ⟨⟨v2, v3, rfl⟩, s1⟩ hpt
      obtain ⟨l, hl1, rfl⟩ := refsR_get hx
      obtain ⟨r, hr1, rfl⟩ := refsR_get hy
      have ed : l.2 = r.2 := by
        have e1 : (ls.map (·.2))[i]? = some l.2 := by rw [List.getElem?_map, hl1]; rfl
        rw [he, List.getElem?_map, hr1] at e1
        exact (Option.some.inj e1).symm
      obtain ⟨dx, hx0⟩ := hL l (get_mem hl1)
      have hy0 := hR r (get_mem hr1)
      rw [← ed] at hy0
      have s2 := s1.trans (Same.new (o := .tup [V.ref l.1, V.ref r.1]) hpt)
      have hz : (upd H1 pt (.tup [V.ref l.1, V.ref r.1])) pt = some (.tup [V.ref l.1, V.ref r.1]) := upd_same
      generalize upd H1 pt _ = H2 at s2 hz
      walk_at "rdi"
      refine ⟨_, SqT.of hz, rfl, _, _, rfl, _, _, rfl, rfl, ?_⟩
      have hx2 := s2 _ _ hx0
      walk_at "nx"
      refine ⟨_, T.ty_Lot.of hx2, _, T.ki_Lot, ?_⟩
      walk_at "rdi"
      refine ⟨_, dx, _, hx2, T.cl_Lot, T.n_Lot_number, _, by rfl, _, dx, _, hx2, T.cl_Lot, T.n_Lot_since, _, by rfl, _, dx, _, hx2, T.cl_Lot, T.n_Lot_pieces, _, by rfl, _, dx, _, hx2, T.cl_Lot, T.n_Lot_cost, _, by rfl, by rw [sizeLine_eq]; decide, fun t2 ht2 => ?_⟩
      have s3 := s2.trans (Same.new (o := .tup l.2.vs) ht2)
      refine rNeD_lot (d := l.2) (upd_same) ((Same.new ht2) _ _ (s2 _ _ hy0)) ?_
      change Same H (upd H2 t2 (.tup [_, _, _, _])) at s3
      generalize upd H2 t2 _ = H3 at s3
      have hx3 := s3 _ _ hx0
      have hy3 := s3 _ _ hy0
      walk_at "rdi"
      refine ⟨_, dx, _, hx3, _, List.mem_cons_self, by rfl, l.1, l.2, rfl, ⟨dx, hx3⟩, fun t ht => ?_⟩
      have s4 := s3.trans (Same.new (o := .tup l.2.vs) ht)
      have ht4 : (upd H3 t (.tup l.2.vs)) t = some (.tup l.2.vs) := upd_same
      generalize upd H3 t _ = H4 at s4 ht4
      refine ⟨_, rfl, ⟨_, SqT.of ht4⟩, ?_⟩
      refine CompP.tupF (fun σ => ∃ a, σ = [a]) (fun _ => .bl true) (SqT.of ht4) ⟨_, rfl⟩ (by rw [sizeLine_eq]; show 4 ≤ _; decide) ?_ ?_
      · rintro x hx5 σ H5 R ⟨_, rfl⟩ s5 kk
        obtain ⟨i5, _, rfl⟩ := List.mem_map.mp (show x ∈ l.2.is.map V.int from hx5)
        walk_at "rdi"
        exact ⟨i5, rfl, kk _ H5 ⟨_, rfl⟩ (Same.refl _)⟩
      · intro Da H5 hD s5 hA
        have s6 := s4.trans s5
        have hx6 := s6 _ _ hx0
        walk_at "rdi"
        refine ⟨[true, true, true, true], SqL.of hA, ?_⟩
        rw [if_neg (by decide)]
        refine ⟨_, dx, _, hx6, _, List.mem_cons_self, by rfl, l.1, l.2, rfl, ⟨dx, hx6⟩, fun t7 ht7 => ?_⟩
        refine rNeD_lot (d := l.2) upd_same (Same.new ht7 _ _ (s6 _ _ hy0)) ?_
        walk_at "rdi"
        exact s6.trans (Same.new ht7)
    · rintro σ H1 ⟨⟨v2, v3, rfl⟩, s1⟩
      walk_at "rda"
      exact k H1 s1
end
end My
namespace My
open PySem L2 PyProof.Rows
section
variable {P : Program} {w : World} {K : PySem.W.Frag} {mg : Str → Option Value} {base : Heap} {A : Adr} {D : Fds}
local macro_rules | `(tactic| walk_at "nx") => `(tactic| ((try dsimp only); rw [ap_seq]; walk_at "rdi"))
theorem cp_of {e : Int} (h1 : 0 ≤ e) (h2 : e ≤ 1000000) : CPow 10 e := ⟨h1, h2, by decide⟩
theorem cp2_of {e : Int} (h1 : 0 ≤ e) (h2 : e ≤ 1000000) : CPow 2 e := ⟨h1, h2, by decide⟩
def sp__law_mixed : Sp := fun vs H Q _ => ∃ (c : Int) (k : Int), vs = [.int c, .int k] ∧ 0 ≤ k ∧ k ≤ 1000 ∧ ∀ r : Int, 0 ≤ r → r < 2305843009213693921 → Q (.int r) H
theorem ok__law_mixed (T : Txt K mg A D) : FnOk P w K mg base CX0 1 A._law_mixed D._law_mixed ["_law_cell", "_law_k"] sp__law_mixed := by
  refine T.F__law_mixed.ok sc__law_mixed (fun vs H Q E h => ?_) (fun cdv A' outer s H vs Q E hr h => ?_)
  · obtain ⟨c, k, rfl, _⟩ := h; rfl
  · obtain ⟨c, k', rfl, hk0, hk, k⟩ := h
    refine ⟨_, (pss_cons (ps_set (i := 2) sc__law_mixed.nd rfl (Or.inl rfl) (pe_op op_mod (pe_op op_mulU (pe_op op_add (pe_op op_add (pe_op op_mod (pv 0) (pe_op op_pow pe_int pe_int)) (pe_op op_mulU (pe_op op_mulU pe_int (pv 1)) (pv 1))) (pv 1)) pe_int) pe_int))
      (pss_one (ps_ret (pe_op op_mod (pe_op op_add (pe_op op_mulU (pv 2) pe_int) pe_int) pe_int)))), ?_⟩
    walk_at "rd"
    have h1 : 0 ≤ 7919 * k' * k' ∧ 7919 * k' * k' ≤ 7919 * 1000 * 1000 := ⟨Int.mul_nonneg (by omega) (by omega), Int.mul_le_mul (by omega) (by omega) (by omega) (by omega)⟩
    have h2 : 0 ≤ c % 10 ^ Int.toNat 30 ∧ c % 10 ^ Int.toNat 30 < 10 ^ 30 := ⟨Int.emod_nonneg _ (by decide), Int.emod_lt_of_pos _ (by decide)⟩
    generalize 7919 * k' * k' = u at h1
    generalize c % 10 ^ Int.toNat 30 = v at h2
    have h3 : 0 ≤ (v + u + k') * 48271 % 2305843009213693951 ∧ (v + u + k') * 48271 % 2305843009213693951 < 2305843009213693951 := ⟨Int.emod_nonneg _ (by decide), Int.emod_lt_of_pos _ (by decide)⟩
    refine ⟨cp_of (by decide) (by decide), by decide, CMulU.l (by decide) (by decide), CMulU.r (by omega) (by omega), CMulU.r (by decide) (by decide), by decide, (Bd.mul ⟨by omega, by omega⟩ ⟨by decide, by decide⟩), by decide, k _ (Int.emod_nonneg _ (by decide)) (Int.emod_lt_of_pos _ (by decide))⟩
def sp__law_small : Sp := fun vs H Q _ => ∃ n m : Int, vs = [.int n, .int m] ∧ 0 < m ∧ ∀ r H', 0 ≤ r → r < m → Same H H' → Q (.int r) H'
theorem ok__law_small (T : Txt K mg A D) : FnOk P w K mg base CX0 1 A._law_small D._law_small ["_law_number", "_law_most"] sp__law_small := by
  refine T.F__law_small.ok sc__law_small (fun vs H Q E h => ?_) (fun cdv A' outer s H vs Q E hr h => ?_)
  · obtain ⟨n, m, rfl, _⟩ := h; rfl
  · obtain ⟨n, m, rfl, hm, k⟩ := h
    refine ⟨_, (pss_one (ps_ret (pe_ix (ix_listK (K := K)) (pe_lst (pa_cons (pe_op op_mod (pe_op op_fdivB (pv 0) pe_int) (pe_callB (call_minK rfl) (by rfl) T.b_min (by decide +kernel) (pa_cons (pv 1) (pa_cons pe_int pa_nil)))) (pa_cons (pe_op op_mod (pe_op op_fdivB (pv 0) pe_int) (pv 1)) pa_nil))) (pe_op op_mod (pv 0) pe_int) (fun _ _ => rfl)))), ?_⟩
    walk_at "rd"
    have hm8 : 0 < if 8 < m then 8 else m := by split <;> omega
    have c2 : CDivB n 2 := ⟨by decide, by decide⟩
    refine ⟨c2, hm8, c2, hm, by rw [sizeLine_eq]; decide, fun p hp => ⟨by decide, _, SqL.of upd_same, ?_⟩⟩
    rcases (show n % 2 = 0 ∨ n % 2 = 1 by omega) with e | e
    · rw [e]
      refine ⟨_, rfl, k _ _ (Int.emod_nonneg _ (by omega)) ?_ (Same.new hp)⟩
      have := Int.emod_lt_of_pos (n / 2) hm8
      split at this <;> (try split) <;> omega
    · rw [e]
      exact ⟨_, rfl, k _ _ (Int.emod_nonneg _ (by omega)) (Int.emod_lt_of_pos _ hm) (Same.new hp)⟩
def sp__law_chunks (K : PySem.W.Frag) : Sp := fun vs H Q _ => ∃ (a : Addr) (ns : List Int), vs = [.ref a, .int 25] ∧ SqL K H a (ns.map V.int) ∧ ns.length ≤ 63 ∧
  ∀ (p : Addr) (xs : List Int) H', Same H H' → H p = Option.none → H' p = some (.lst (xs.map V.int)) → xs.length = 25 → Q (.ref p) H'
theorem ok__law_chunks (T : Txt K mg A D) : FnOk P w K mg base CX0 2 A._law_chunks D._law_chunks ["_law_script", "_law_many"] (sp__law_chunks K) := by
  refine T.F__law_chunks.ok sc__law_chunks (fun vs H Q E h => ?_) (fun cdv A' outer s0 H vs Q E hr h => ?_)
  · obtain ⟨a, ns, rfl, _⟩ := h; rfl
  · obtain ⟨a, ns, rfl, hS, hl, k⟩ := h
    refine ⟨_, (pss_cons (ps_set (i := 2) sc__law_chunks.nd rfl (Or.inl rfl) (pe_lst pa_nil))
      (pss_cons (ps_set (i := 3) sc__law_chunks.nd rfl (Or.inl rfl) (pe_call (ok__law_cell_at (K := K) T) (hr.mono (by decide)) (by rfl) T.m__law_cell_at T.k__law_cell_at (b__law_cell_at T) .nil pass0 (pa_cons (pv 0) (pa_cons pe_int pa_nil))))
      (pss_cons (ps_set (i := 4) sc__law_chunks.nd rfl (Or.inl rfl) (pe_cmpR (op_eq) (pe_op op_mod (pv 3) pe_int) pe_int (nomark _)))
      (pss_cons (ps_set (i := 3) sc__law_chunks.nd rfl (Or.inl rfl) (pe_op op_fdivB (pv 3) pe_int))
      (pss_cons (ps_for PassesOwn.never rfl (pi_range1 (by rfl) T.b_range (pa_cons (pv 1) pa_nil)) (pg_name (i := 5) sc__law_chunks.nd rfl (Or.inl rfl))
        (pss_one (ps_if (pt_val (pv 4)) (pss_cons (ps_expr (pe_bmK (K := K) PySem.F.plainAttrs_list PySem.F.slot_list_append PySem.F.type_list_append mt_append (pv 2) (pa_cons (pe_op op_mod (pv 3) (pe_op op_pow pe_int pe_int)) pa_nil)))
          (pss_cons (ps_set (i := 3) sc__law_chunks.nd rfl (Or.inl rfl) (pe_op op_fdivB (pv 3) (pe_op op_pow pe_int pe_int)))
          (pss_one (ps_if (pt_cmpR (op_eq) (pv 3) pe_int (nomark _)) (pss_one (ps_set (i := 3) sc__law_chunks.nd rfl (Or.inl rfl) (pe_call (ok__law_cell_at (K := K) T) (hr.mono (by decide)) (by rfl) T.m__law_cell_at T.k__law_cell_at (b__law_cell_at T) .nil pass0 (pa_cons (pv 0) (pa_cons (pe_op op_add pe_int (pe_op op_mod (pv 5) pe_int)) pa_nil))))) pss_nil)))) (pss_cons (ps_set (i := 6) sc__law_chunks.nd rfl (Or.inl rfl) (pe_call (ok__law_cell_at (K := K) T) (hr.mono (by decide)) (by rfl) T.m__law_cell_at T.k__law_cell_at (b__law_cell_at T) .nil pass0 (pa_cons (pv 0) (pa_cons (pe_op op_mod (pv 5) (pe_callB (call_maxK rfl) (by rfl) T.b_max (by decide +kernel) (pa_cons pe_int (pa_cons (pe_callB (call_minK rfl) (by rfl) T.b_min (by decide +kernel) (pa_cons (pe_callB (call_lenK (K := K)) (by rfl) T.b_len (by decide +kernel) (pa_cons (pv 0) pa_nil)) (pa_cons pe_int pa_nil))) pa_nil)))) pa_nil))))
          (pss_cons (ps_set (i := 7) sc__law_chunks.nd rfl (Or.inl rfl) (pe_op op_add (pe_call (ok__law_mixed (K := K) T) (hr.mono (by decide)) (by rfl) T.m__law_mixed T.k__law_mixed (b__law_mixed T) .nil pass0 (pa_cons (pv 6) (pa_cons (pe_op op_mulU pe_int (pv 5)) pa_nil))) (pe_op op_mulU (pe_call (ok__law_mixed (K := K) T) (hr.mono (by decide)) (by rfl) T.m__law_mixed T.k__law_mixed (b__law_mixed T) .nil pass0 (pa_cons (pv 6) (pa_cons (pe_op op_add (pe_op op_mulU pe_int (pv 5)) pe_int) pa_nil))) (pe_op op_pow pe_int pe_int))))
          (pss_one (ps_expr (pe_bmK (K := K) PySem.F.plainAttrs_list PySem.F.slot_list_append PySem.F.type_list_append mt_append (pv 2) (pa_cons (pe_op op_add (pv 7) (pe_op op_mulU (pe_op op_mulU (pe_call (ok__law_mixed (K := K) T) (hr.mono (by decide)) (by rfl) T.m__law_mixed T.k__law_mixed (b__law_mixed T) .nil pass0 (pa_cons (pv 6) (pa_cons (pe_op op_add (pe_op op_mulU pe_int (pv 5)) pe_int) pa_nil))) (pe_op op_pow pe_int pe_int)) (pe_op op_pow pe_int pe_int))) pa_nil)))))))))
      (pss_one (ps_ret (pv 2)))))))), ?_⟩
    simp only [start_eq]
    walk_at "nx"
    refine ⟨by rw [sizeLine_eq]; decide, fun p hp => ?_⟩
    have s1 := Same.new (o := .lst []) hp
    have h1 : (upd H p (.lst [])) p = some (.lst []) := upd_same
    generalize upd H p (.lst []) = H1 at s1 h1
    walk_at "nx"
    refine ⟨a, ns, 0, rfl, s1.seq hS, ?_⟩
    walk_at "nx"
    refine ⟨by decide, ?_⟩
    walk_at "nx"
    refine ⟨⟨by decide, by decide⟩, ?_⟩
    rw [ap_seq, ap_for]
    walk_at "rdi"
    refine ⟨by decide, by decide, ?_⟩
    rw [show Int.toNat 25 = 25 from rfl]
    generalize decide (List.getD ns 0 0 % 2 = 1) = b
    generalize List.getD ns 0 0 / 2 = rest0
    refine ForP.range (lo := 0) (n := 25) (fun i σ H2 => ∃ (xs : List Int) (rest : Int) (v5 v6 v7 : Option V), xs.length = i ∧ σ = [some (.ref a), some (.int 25), some (.ref p), some (.int rest), some (.bl b), v5, v6, v7] ∧ Same H H2 ∧ H2 p = some (.lst (xs.map V.int)))
      ⟨[], _, _, _, _, rfl, rfl, s1, h1⟩ ?_ ?_
    · rintro i σ H2 hi ⟨xs, rest, v5, v6, v7, hxl, rfl, s2, h2⟩
      have hsz : (xs.map V.int).length < sizeLine := by rw [List.length_map, sizeLine_eq]; omega
      walk_at "rdi"
      cases b with
      | true =>
        rw [if_pos rfl]
        walk_at "nx"
        refine ⟨tyL (SqL.of h2), cp_of (by decide) (by decide), by decide, _, h2, hsz, ?_⟩
        obtain ⟨H3, e3⟩ : ∃ H3, upd H2 p (.lst (xs.map V.int ++ [V.int (rest % 10 ^ Int.toNat 44)])) = H3 := ⟨_, rfl⟩
        have s3 : Same H H3 := e3 ▸ s2.upd hp
        have h3 : H3 p = some (.lst ((xs ++ [rest % 10 ^ Int.toNat 44]).map V.int)) := by rw [← e3, upd_same, List.map_append]; rfl
        have l3 : (xs ++ [rest % 10 ^ Int.toNat 44]).length = i + 1 := by rw [List.length_append, hxl]; rfl
        rw [e3]
        walk_at "nx"
        refine ⟨cp_of (by decide) (by decide), ⟨by decide, by decide⟩, ?_⟩
        refine ite2 (fun _ => ⟨by decide, a, ns, (1 + (0 + (i : Int)) % 62).toNat, ?_, s3.seq hS, _, l3, _, rfl, s3, h3⟩) fun _ => ⟨_, l3, s3, h3⟩
        rw [Int.toNat_of_nonneg (by omega)]
      | false =>
        rw [if_neg (by decide)]
        walk_at "nx"
        refine ⟨_, .inl (s2.seq hS), ?_⟩
        rw [List.length_map]
        have hm : 0 < (if (if (63 : Int) < (ns.length : Int) then (63 : Int) else (ns.length : Int)) > 1 then (if (63 : Int) < (ns.length : Int) then (63 : Int) else (ns.length : Int)) else 1) := by split <;> omega
        generalize (if (if (63 : Int) < (ns.length : Int) then (63 : Int) else (ns.length : Int)) > 1 then (if (63 : Int) < (ns.length : Int) then (63 : Int) else (ns.length : Int)) else 1) = m at hm
        refine ⟨hm, a, ns, ((0 + (i : Int)) % m).toNat, ?_, s2.seq hS, ?_⟩
        · rw [Int.toNat_of_nonneg (Int.emod_nonneg _ (by omega))]
        generalize List.getD ns _ 0 = cl
        walk_at "nx"
        have hk : ∀ j : Int, 0 ≤ j → j ≤ 2 → 0 ≤ 3 * (0 + (i : Int)) + j ∧ 3 * (0 + (i : Int)) + j ≤ 1000 := fun j h1 h2 => by omega
        have b61 : ∀ r : Int, 0 ≤ r → r < 2305843009213693921 → CMulU r (2 ^ Int.toNat 61) := fun r h1 h2 => CMulU.r (by decide) (by decide)
        have c3 : CMulU 3 (0 + (i : Int)) := CMulU.l (by decide) (by decide)
        refine ⟨c3, _, _, rfl, by omega, by omega, fun r1 h11 h12 => ⟨c3, _, _, rfl, (hk 1 (by decide) (by decide)).1, (hk 1 (by decide) (by decide)).2, fun r2 h21 h22 => ⟨cp2_of (by decide) (by decide), _, rfl, b61 r2 h21 h22, _, rfl, tyL (SqL.of h2), c3, _, _, rfl, (hk 2 (by decide) (by decide)).1, (hk 2 (by decide) (by decide)).2, fun r3 h31 h32 =>
          ⟨cp2_of (by decide) (by decide), _, rfl, b61 r3 h31 h32, cp2_of (by decide) (by decide), CMulU.r (by decide) (by decide), _, h2, hsz, xs ++ [_], by rw [List.length_append, hxl]; rfl, s2.upd hp, by rw [upd_same, List.map_append]; rfl⟩⟩⟩⟩
    · rintro σ H2 ⟨xs, rest, v5, v6, v7, hxl, rfl, s2, h2⟩
      walk_at "rda"
      exact k p xs H2 s2 hp h2 hxl
end
end My
namespace My
open PySem L2 PyProof.Rows
section
variable {P : Program} {w : World} {K : PySem.W.Frag} {mg : Str → Option Value} {base : Heap} {A : Adr} {D : Fds}
local macro_rules | `(tactic| walk_at "nx") => `(tactic| ((try dsimp only); rw [ap_seq]; walk_at "rdi"))
theorem inV_ints (x : Int) (ns : List Int) : inV (.int x) (ns.map V.int) = decide (x ∈ ns) := by
  induction ns with
  | nil => rfl
  | cons n ns ih =>
    show (eqV (.int n) (.int x) || inV (.int x) (ns.map V.int)) = _
    rw [ih]
    show ((n == x) || decide (x ∈ ns)) = _
    by_cases e : n = x
    · simp [e]
    · have e' : ¬ x = n := fun z => e z.symm
      simp [e, e']
theorem flat_ints (ns : List Int) : (ns.map V.int).all flatV = true := by
  rw [List.all_eq_true]
  intro x hx
  obtain ⟨i, _, rfl⟩ := List.mem_map.mp hx
  rfl
theorem nodup_le : ∀ {l k : List Int}, l.Nodup → (∀ x ∈ l, x ∈ k) → l.length ≤ k.length
  | [], _, _, _ => Nat.zero_le _
  | x :: l, k, h, s => by
    have h' := List.nodup_cons.mp h
    have hx : x ∈ k := s x (.head _)
    have := nodup_le (l := l) (k := k.erase x) h'.2 fun y hy => (List.mem_erase_of_ne (fun e => by subst e; exact h'.1 hy)).mpr (s y (.tail _ hy))
    rw [List.length_erase_of_mem hx] at this
    have hp : 0 < k.length := List.length_pos_of_mem hx
    rw [List.length_cons]
    omega
theorem steps_le {kn : List Int} {n0 : Int} {k : Nat} (h0 : 0 ≤ n0) (h1 : n0 < 1000001) (hk : kn.length ≤ 100) (h : ∀ j : Nat, j < k → (n0 + j) % 1000001 ∈ kn) : k ≤ 200 → k ≤ kn.length := by
  intro hk2
  have hn : ((List.range k).map fun j : Nat => (n0 + j) % 1000001).Nodup := by
    rw [List.nodup_iff_pairwise_ne, List.pairwise_map]
    refine List.Pairwise.imp_of_mem (R := fun a b => a < b) (fun {a b} ha hb hab e => ?_) List.pairwise_lt_range
    have h2 := List.mem_range.mp ha
    have h3 := List.mem_range.mp hb
    omega
  have := nodup_le hn fun x hx => by
    obtain ⟨j, hj, rfl⟩ := List.mem_map.mp hx
    exact h j (List.mem_range.mp hj)
  simpa using this
theorem perm_pull {f : Addr × LotD → V} : ∀ {zs ys : List V}, zs.Perm ys → ∀ {rs : RL}, ys = rs.map f → ∃ rs' : RL, zs = rs'.map f ∧ rs'.Perm rs := by
  intro zs ys h
  induction h with
  | nil => intro rs e; exact ⟨[], rfl, by cases rs with | nil => exact .nil | cons _ _ => cases e⟩
  | cons x _ ih =>
    intro rs e
    cases rs with
    | nil => cases e
    | cons r rs =>
      rw [List.map_cons] at e
      obtain ⟨e1, e2⟩ := List.cons.inj e
      obtain ⟨rs', a1, a2⟩ := ih e2
      exact ⟨r :: rs', by rw [List.map_cons, ← a1, e1], a2.cons r⟩
  | swap x y l =>
    intro rs e
    cases rs with
    | nil => cases e
    | cons r rs => cases rs with
      | nil => cases e
      | cons r2 rs =>
        rw [List.map_cons, List.map_cons] at e
        obtain ⟨e1, e2⟩ := List.cons.inj e
        obtain ⟨e3, e4⟩ := List.cons.inj e2
        exact ⟨r2 :: r :: rs, by rw [List.map_cons, List.map_cons, e1, e3, e4], .swap _ _ _⟩
  | trans _ _ ih1 ih2 =>
    intro rs e
    obtain ⟨r2, a1, a2⟩ := ih2 e
    obtain ⟨r3, b1, b2⟩ := ih1 a1
    exact ⟨r3, b1, b2.trans a2⟩
structure RowsV (B H : Hp) (pr pk : Addr) (rs : RL) : Prop where
  s : Same B H
  r : H pr = some (.lst (refsR rs))
  k : H pk = some (.lst (rs.map fun r => V.int r.2.n))
  t : RowAt H rs
  g : ∀ r ∈ rs, Good r.2
  u : (rs.map (·.2.n)).Nodup
theorem RowsV.same {B H H' : Hp} {pr pk : Addr} {rs : RL} (h : RowsV B H pr pk rs) (s : Same H H') : RowsV B H' pr pk rs := ⟨h.s.trans s, s _ _ h.r, s _ _ h.k, h.t.same s, h.g, h.u⟩
def LotD.key (d : LotD) : List Int := [d.s, d.n]
def Bef (d e : LotD) : Prop := d.s < e.s ∨ (d.s = e.s ∧ d.n < e.n)
theorem key_bef {d e : LotD} (h : lexB d.key e.key false = true) : Bef d e := by
  unfold LotD.key at h
  rw [lexB] at h
  by_cases e1 : d.s = e.s
  · rw [if_pos e1, lexB] at h
    by_cases e2 : d.n = e.n
    · rw [if_pos e2, lexB] at h
      cases h
    · rw [if_neg e2] at h
      exact .inr ⟨e1, of_decide_eq_true h⟩
  · rw [if_neg e1] at h
    exact .inl (of_decide_eq_true h)
def kfOf (H : Hp) : V → List Int
  | .ref b => match H b with
    | some (.tup [.int n, .int s, _, _]) => [s, n]
    | _ => []
  | _ => []
theorem kfOf_at {H : Hp} {b : Addr} {d : LotD} (h : H b = some (.tup d.vs)) : kfOf H (.ref b) = d.key := by
  unfold kfOf
  simp only [h]
  rfl
def sp__law_row (K : PySem.W.Frag) (Pt : Addr) : Sp := fun vs H Q _ => ∃ (c : Addr) (xs : List Int), vs = [.ref c] ∧ SqL K H c (xs.map V.int) ∧ xs.length ≤ 40 ∧ H Pt = some (.tbl #[]) ∧
  ∀ p rs H', SameX Pt H H' → H p = Option.none → H' p = some (.lst (refsR rs)) → RowAt H' rs → (∀ r ∈ rs, Good r.2) → rs.length = xs.length → (rs.map (·.2.n)).Nodup → (rs.map (·.2)).Pairwise Bef → Q (.ref p) H'
theorem ok__law_row (T : Txt K mg A D) (hB : base.BuiltinsAt mg A.PT) : FnOk P w K mg base CX0 4 A._law_row D._law_row ["_law_chunks_here"] (sp__law_row K A.PT) := by
  refine T.F__law_row.okC sc__law_row (fun vs H Q E h => ?_) (fun A' outer s0 H vs Q E hr h => ?_)
  · obtain ⟨c, xs, rfl, _⟩ := h; rfl
  · obtain ⟨c, xs, rfl, hS, hl, hPt, k⟩ := h
    refine ⟨_, (pss_cons (ps_set (i := 1) sc__law_row.nd rfl (Or.inl rfl) (pe_lst pa_nil))
      (pss_cons (ps_set (i := 2) sc__law_row.nd rfl (Or.inl rfl) (pe_lst pa_nil))
      (pss_cons (ps_for PassesOwn.never rfl (pi_listK (K := K) (pv 0)) (pg_name (i := 3) sc__law_row.nd rfl (Or.inl rfl))
        (pss_cons (ps_set (i := 4) sc__law_row.nd rfl (Or.inl rfl) (pe_op op_mod (pv 3) (pe_op op_add (pe_op op_pow pe_int pe_int) pe_int)))
        (pss_cons (ps_set (i := 3) sc__law_row.nd rfl (Or.inl rfl) (pe_op op_fdivB (pv 3) (pe_op op_add (pe_op op_pow pe_int pe_int) pe_int)))
        (pss_cons (ps_while PassesOwn.never (pt_cmpR (op_inK (K := K)) (pv 4) (pv 2) (by with_unfolding_all rfl)) (pss_one (ps_set (i := 4) sc__law_row.nd rfl (Or.inl rfl) (pe_op op_mod (pe_op op_add (pv 4) pe_int) (pe_op op_add (pe_op op_pow pe_int pe_int) pe_int)))))
        (pss_cons (ps_expr (pe_bmK (K := K) PySem.F.plainAttrs_list PySem.F.slot_list_append PySem.F.type_list_append mt_append (pv 2) (pa_cons (pv 4) pa_nil)))
        (pss_cons (ps_set (i := 5) sc__law_row.nd rfl (Or.inl rfl) (pe_call (ok__law_small (K := K) T) (hr.mono (by decide)) (by rfl) T.m__law_small T.k__law_small (b__law_small T) .nil pass0 (pa_cons (pv 3) (pa_cons (pe_op op_add (pe_op op_pow pe_int pe_int) pe_int) pa_nil))))
        (pss_cons (ps_set (i := 3) sc__law_row.nd rfl (Or.inl rfl) (pe_op op_fdivB (pv 3) (pe_op op_add (pe_op op_mulU pe_int (pe_op op_pow pe_int pe_int)) pe_int)))
        (pss_cons (ps_set (i := 6) sc__law_row.nd rfl (Or.inl rfl) (pe_op op_add pe_int (pe_call (ok__law_small (K := K) T) (hr.mono (by decide)) (by rfl) T.m__law_small T.k__law_small (b__law_small T) .nil pass0 (pa_cons (pv 3) (pa_cons (pe_op op_pow pe_int pe_int) pa_nil)))))
        (pss_cons (ps_set (i := 3) sc__law_row.nd rfl (Or.inl rfl) (pe_op op_fdivB (pv 3) (pe_op op_mulU pe_int (pe_op op_pow pe_int pe_int))))
        (pss_one (ps_expr (pe_bmK (K := K) PySem.F.plainAttrs_list PySem.F.slot_list_append PySem.F.type_list_append mt_append (pv 1) (pa_cons (pe_tup (pa_cons (pv 4) (pa_cons (pv 5) (pa_cons (pv 6) (pa_cons (pe_call (ok__law_small (K := K) T) (hr.mono (by decide)) (by rfl) T.m__law_small T.k__law_small (b__law_small T) .nil pass0 (pa_cons (pv 3) (pa_cons (pe_op op_add (pe_op op_pow pe_int pe_int) pe_int) pa_nil))) pa_nil))))) pa_nil)))))))))))))
      (pss_one (ps_ret (pe_sortLamK (K := K) (by rfl) (pe_sortLam (k := 0) (Pt := A.PT) (x := "_law_row_here") (hr.mono (by decide)) T.lamc T.lamC hB (by rfl) T.b_sorted (by decide +kernel) (pa_cons (pv 1) pa_nil) ⟨rfl, rfl, rfl, by decide +kernel, rfl, by decide +kernel, by decide +kernel⟩ rfl (fun _ _ _ _ _ _ _ hr => (pe_tup (pa_cons (pe_ix (ix_tupK (K := K)) (pv 0) pe_int (fun _ _ => rfl)) (pa_cons (pe_ix (ix_tupK (K := K)) (pv 0) pe_int (fun _ _ => rfl)) pa_nil))))))))))), ?_⟩
    simp only [start_eq]
    walk_at "nx"
    refine ⟨by rw [sizeLine_eq]; decide, fun pr hpr => ?_⟩
    have s2 := Same.new (o := .lst []) hpr
    have hr2 : (upd H pr (.lst [])) pr = some (.lst []) := upd_same
    generalize upd H pr _ = H2 at s2 hr2
    walk_at "nx"
    refine ⟨by rw [sizeLine_eq]; decide, fun pk hpk => ?_⟩
    have s3 := s2.trans (Same.new (o := .lst []) hpk)
    have hk3 : (upd H2 pk (.lst [])) pk = some (.lst []) := upd_same
    have hr3 := Same.new (o := .lst []) hpk _ _ hr2
    have hBk := s2.free hpk
    have hne : pr ≠ pk := ne_of_none hr2 hpk
    generalize upd H2 pk _ = H3 at s3 hk3 hr3
    have U0 : RowsV H H3 pr pk [] := ⟨s3, hr3, hk3, fun r h => (List.not_mem_nil h).elim, fun r h => (List.not_mem_nil h).elim, List.nodup_nil⟩
    rw [ap_seq, ap_for]
    walk_at "rdi"
    refine ⟨⟨_, s3.seq hS⟩, ?_⟩
    refine ForP.list (K := K) (a := c) (xs := xs.map V.int) (fun i σ H5 => ∃ (rs : RL) (v3 v4 v5 v6 : Option V), rs.length = i ∧ σ = [some (.ref c), some (.ref pr), some (.ref pk), v3, v4, v5, v6] ∧ RowsV H H5 pr pk rs)
      ⟨[], _, _, _, _, rfl, rfl, U0⟩ (fun i σ H5 _ ⟨_, _, _, _, _, _, _, U⟩ => U.s.seq hS) ?_ ?_
    · rintro i y σ H5 hi ⟨rs, v3, v4, v5, v6, hrl, rfl, U⟩
      obtain ⟨x, rfl, hxi⟩ := map_get hi
      have hil : i < xs.length := (List.getElem?_eq_some_iff.mp hxi).1
      walk_at "rdi"
      walk_at "nx"
      refine ⟨cp_of (by decide) (by decide), by decide, ?_⟩
      have e0 : (10 ^ Int.toNat 6 + 1 : Int) = 1000001 := rfl
      rw [e0]
      have bx : 0 ≤ x % 1000001 ∧ x % 1000001 < 1000001 := by omega
      generalize x % 1000001 = x0 at bx
      walk_at "nx"
      refine ⟨cp_of (by decide) (by decide), ⟨by decide, by decide⟩, ?_⟩
      generalize x / (10 ^ Int.toNat 6 + 1) = x1
      rw [ap_seq]
      refine ⟨fun m σ H' => ∃ kk : Nat, m = rs.length - kk ∧ kk ≤ rs.length ∧ H' = H5 ∧ (∀ j : Nat, j < kk → (x0 + j) % 1000001 ∈ rs.map (·.2.n)) ∧
        σ = [some (.ref c), some (.ref pr), some (.ref pk), some (.int x1), some (.int ((x0 + kk) % 1000001)), v5, v6],
        ⟨_, 0, rfl, Nat.zero_le _, rfl, fun j hj => absurd hj (Nat.not_lt_zero _), ?_⟩, ?_⟩
      · rw [Int.emod_eq_of_lt (by omega) (by omega)]; simp
      rintro m σ H' ⟨kk, rfl, hkk, rfl, hin, rfl⟩
      walk_at "rdi"
      have hk7 : H' pk = some (.lst ((rs.map (·.2.n)).map V.int)) := by rw [List.map_map]; exact U.k
      refine ⟨_, .inl (SqL.of hk7), rfl, flat_ints _, ?_⟩
      rw [inV_ints]
      by_cases hm' : (x0 + kk) % 1000001 ∈ rs.map (·.2.n)
      · rw [if_pos (decide_eq_true hm')]
        have hin' : ∀ j : Nat, j < kk + 1 → (x0 + j) % 1000001 ∈ rs.map (·.2.n) := fun j hj => by
          by_cases e : j < kk
          · exact hin j e
          · obtain rfl : j = kk := by omega
            exact hm'
        have hle := steps_le bx.1 bx.2 (by rw [List.length_map]; omega) hin' (by omega)
        rw [List.length_map] at hle
        refine ⟨_, fun σ' H2 h => h, cp_of (by decide) (by decide), by decide, rs.length - (kk + 1), by omega, kk + 1, rfl, hle, rfl, hin', ?_⟩
        have : ((x0 + kk) % 1000001 + 1) % (10 ^ Int.toNat 6 + 1) = (x0 + ((kk + 1 : Nat) : Int)) % 1000001 := by
          rw [e0]
          omega
        rw [this]
      · rw [if_neg (by simpa using hm')]
        obtain ⟨nb, hnb⟩ : ∃ nb, (x0 + (kk : Int)) % 1000001 = nb := ⟨_, rfl⟩
        have bn : 0 ≤ nb ∧ nb < 1000001 := by omega
        rw [hnb] at hm' ⊢
        walk_at "nx"
        refine ⟨.inl ⟨rfl, _, SqL.of hk7⟩, _, hk7, ?_, ?_⟩
        · rw [List.length_map, List.length_map, sizeLine_eq]; omega
        have hrP : (upd H' pk (.lst ((rs.map (·.2.n)).map V.int ++ [V.int nb]))) pr = some (.lst (refsR rs)) := (upd_ne hne).trans U.r
        have hkP : (upd H' pk (.lst ((rs.map (·.2.n)).map V.int ++ [V.int nb]))) pk = some (.lst ((rs.map (·.2.n)).map V.int ++ [V.int nb])) := upd_same
        have sP : Same H (upd H' pk (.lst ((rs.map (·.2.n)).map V.int ++ [V.int nb]))) := U.s.upd hBk
        have tP : RowAt (upd H' pk (.lst ((rs.map (·.2.n)).map V.int ++ [V.int nb]))) rs := fun r hr => by
          have h1 := U.t r hr
          exact (upd_ne fun e => by rw [e, hk7] at h1; cases h1).trans h1
        generalize upd H' pk (.lst ((rs.map (·.2.n)).map V.int ++ [V.int nb])) = H6 at hrP hkP sP tP
        walk_at "nx"
        refine ⟨cp_of (by decide) (by decide), _, _, rfl, by decide, fun y1 H7 hy10 hy11 s7 => ?_⟩
        rw [e0] at hy11
        walk_at "nx"
        refine ⟨cp_of (by decide) (by decide), CMulU.l (by decide) (by decide), ⟨by decide, by decide⟩, ?_⟩
        generalize x1 / (2 * 10 ^ Int.toNat 6 + 2) = x2
        walk_at "nx"
        refine ⟨cp_of (by decide) (by decide), _, _, rfl, by decide, fun y2 H8 hy20 hy21 s8 => ⟨_, rfl, ?_⟩⟩
        rw [show (10 ^ Int.toNat 9 : Int) = 1000000000 from rfl] at hy21
        walk_at "nx"
        refine ⟨cp_of (by decide) (by decide), CMulU.l (by decide) (by decide), ⟨by decide, by decide⟩, ?_⟩
        generalize x2 / (2 * 10 ^ Int.toNat 9) = x3
        have s68 := s7.trans s8
        have hr8 := s68 _ _ hrP
        have hk8 := s68 _ _ hkP
        have t8 := tP.same s68
        have S8 := sP.trans s68
        refine ⟨.inl ⟨rfl, _, SqL.of hr8⟩, cp_of (by decide) (by decide), _, _, rfl, by decide, fun y3 H9 hy30 hy31 s9 => ⟨by rw [sizeLine_eq]; decide, fun t ht => ?_⟩⟩
        rw [show (10 ^ Int.toNat 18 + 1 : Int) = 1000000000000000001 from rfl] at hy31
        have hr9 := s9 _ _ hr8
        have hk9 := s9 _ _ hk8
        have t9 := t8.same s9
        have S9 := S8.trans s9
        have htr : t ≠ pr := fun e => by rw [e, hr9] at ht; cases ht
        have htk : t ≠ pk := fun e => by rw [e, hk9] at ht; cases ht
        refine ⟨_, Same.new ht _ _ hr9, ?_, rs ++ [(t, ⟨nb, y1, 1 + y2, y3⟩)], ?_, ?_⟩
        · rw [refsR_len, sizeLine_eq]; omega
        · rw [List.length_append, hrl]; rfl
        · refine ⟨(S9.trans (Same.new ht)).upd hpr, ?_, ?_, fun r hr => ?_, fun r hr => ?_, ?_⟩
          · rw [upd_same]; unfold refsR; rw [List.map_append]; rfl
          · rw [upd_ne hne.symm, Same.new ht _ _ hk9, List.map_append, List.map_map]; rfl
          · rcases List.mem_append.mp hr with hr | hr
            · have h1 := t9 r hr
              rw [upd_ne fun e => by rw [e, hr9] at h1; cases h1]
              exact Same.new ht _ _ h1
            · obtain rfl := List.mem_singleton.mp hr
              exact (upd_ne htr).trans upd_same
          · rcases List.mem_append.mp hr with hr | hr
            · exact U.g r hr
            · obtain rfl := List.mem_singleton.mp hr
              exact ⟨⟨bn.1, by show nb ≤ _; omega⟩, ⟨hy10, by show y1 ≤ _; omega⟩, ⟨by show 1 ≤ 1 + y2; omega, by show 1 + y2 ≤ _; omega⟩, ⟨hy30, by show y3 ≤ _; omega⟩⟩
          · rw [List.map_append]
            refine List.nodup_append.mpr ⟨U.u, by simp, fun y hy z hz => ?_⟩
            obtain rfl := List.mem_singleton.mp hz
            exact fun e => hm' (e ▸ hy)
    · rintro σ H5 ⟨rs, v3, v4, v5, v6, hrl, rfl, U⟩
      dsimp only
      walk_at "rdi"
      rw [List.length_map] at hrl
      have hPr : ∀ r ∈ rs, r.1 ≠ A.PT := fun r hr e => by
        have h1 := U.t r hr
        rw [e, U.s _ _ hPt] at h1
        cases h1
      refine ⟨_, SqL.of U.r, by rw [refsR_len]; omega, U.s _ _ hPt, kfOf H5, fun y hy => ?_, fun p zs H' sX hp hz hperm0 hord => ?_⟩
      · obtain ⟨r, hr, rfl⟩ := List.mem_map.mp hy
        rw [kfOf_at (U.t r hr)]
        refine ⟨by simp [LotD.key], fun H2 s2 R hR => ?_⟩
        have h2 := s2 _ _ (hPr r hr) (U.t r hr)
        exact ⟨_, rfl, _, SqT.of h2, _, rfl, _, rfl, _, SqT.of h2, _, rfl, by rw [sizeLine_eq]; decide, fun t ht => hR t _ (Same.new ht) upd_same⟩
      · obtain ⟨rs', rfl, hperm⟩ := perm_pull (f := fun r => V.ref r.1) hperm0 rfl
        have hun : rs.Pairwise fun a b => a.2.n ≠ b.2.n := List.pairwise_map.mp U.u
        have hord := hord 2 (fun y hy => by
          obtain ⟨r, hr, rfl⟩ := List.mem_map.mp hy
          rw [kfOf_at (U.t r hr)]
          rfl) (by
          refine List.pairwise_map.mpr (List.pairwise_map.mpr (List.Pairwise.imp_of_mem (fun {a b} ha hb hne z => hne ?_) hun))
          rw [kfOf_at (U.t a ha), kfOf_at (U.t b hb)] at z
          exact (List.cons.inj (List.cons.inj z).2).1)
        refine k p rs' H' (fun b o n e => sX b o n (U.s b o e)) (U.s.free hp) hz (fun r hr => ?_) (fun r hr => U.g r (hperm.mem_iff.mp hr)) (by rw [hperm.length_eq, hrl]) ((hperm.map (·.2.n)).nodup_iff.mpr U.u) ?_
        · have hr' := hperm.mem_iff.mp hr
          exact sX _ _ (hPr r hr') (U.t r hr')
        · refine List.pairwise_map.mpr (List.Pairwise.imp_of_mem (fun {a b} ha hb h => ?_) (List.pairwise_map.mp hord))
          rw [kfOf_at (U.t a (hperm.mem_iff.mp ha)), kfOf_at (U.t b (hperm.mem_iff.mp hb))] at h
          exact key_bef h
end
end My
namespace My
open PySem L2 PyProof.Rows
section
variable {P : Program} {w : World} {K : PySem.W.Frag} {mg : Str → Option Value} {base : Heap} {A : Adr} {D : Fds}
local macro_rules | `(tactic| walk_at "nx") => `(tactic| ((try dsimp only); rw [ap_seq]; walk_at "rdi"))
def cntI (m o : Int) (ps : List Int) (i : Nat) : Int := (ps.take (i + 1)).sum * m / o - (ps.take i).sum * m / o
def cnts (m o : Int) (ps : List Int) : List Int := (List.range ps.length).map (cntI m o ps)
theorem cnts_len (m o : Int) (ps : List Int) : (cnts m o ps).length = ps.length := by unfold cnts; simp
theorem cnts_get {m o : Int} {ps : List Int} {i : Nat} (h : i < ps.length) : (cnts m o ps)[i]? = some (cntI m o ps i) := by
  unfold cnts
  rw [List.getElem?_map, List.getElem?_range h]
  rfl
theorem cnts_take {m o : Int} {ps : List Int} {i : Nat} (h : i < ps.length) : (cnts m o ps).take (i + 1) = (cnts m o ps).take i ++ [cntI m o ps i] := by
  rw [List.take_add_one, cnts_get h]
  rfl
theorem sum_take {ps : List Int} {i : Nat} {p : Int} (h : ps[i]? = some p) : (ps.take (i + 1)).sum = (ps.take i).sum + p := by
  rw [List.take_add_one, h]
  simp
structure Mo (m o : Int) : Prop where
  a : 1 ≤ m ∧ m ≤ 10000000
  b : 1 ≤ o ∧ o ≤ 10000000
theorem Mo.mul {m o x : Int} (h : Mo m o) : CMulU x m := CMulU.r (by have := h.a; omega) (by have := h.a; omega)
theorem Mo.div {m o x : Int} (h : Mo m o) : CDivB x o := ⟨by have := h.b; omega, Nat.lt_of_le_of_lt (show o.natAbs ≤ 10000000 by have := h.b; omega) (Nat.lt_of_lt_of_le (show 10000000 < 2 ^ 24 by decide) (Nat.pow_le_pow_right (by decide) (by decide)))⟩
def stp (st : List LotD × Int) (d : LotD) (c : Int) : List LotD × Int := if c = 0 then (st.1, st.2 + d.c) else (st.1 ++ [⟨d.n, d.s, c, d.c + st.2⟩], 0)
def stI (m o : Int) (ds : List LotD) : Nat → List LotD × Int
  | 0 => ([], 0)
  | i + 1 => match ds[i]? with
    | some d => stp (stI m o ds i) d (cntI m o (ds.map LotD.p) i)
    | none => stI m o ds i
theorem stI_succ {m o : Int} {ds : List LotD} {i : Nat} {d : LotD} (h : ds[i]? = some d) : stI m o ds (i + 1) = stp (stI m o ds i) d (cntI m o (ds.map LotD.p) i) := by
  rw [stI, h]
def finS (st : List LotD × Int) : List LotD := match st.1.getLast? with
  | some d => st.1.dropLast ++ [⟨d.n, d.s, d.p, d.c + st.2⟩]
  | none => []
theorem finS_snoc (r : List LotD) (d : LotD) (g : Int) : finS (r ++ [d], g) = r ++ [⟨d.n, d.s, d.p, d.c + g⟩] := by
  unfold finS
  simp
theorem finS_nil (g : Int) : finS ([], g) = [] := rfl
def sp_pieces_split (A : Adr) : Sp := fun vs H Q _ => ∃ (q : Addr) (ls : RL) (m o : Int), vs = [.ref q, .int m, .int o] ∧ H q = some (.lst (refsR ls)) ∧ LotAt A H ls ∧ ls.length ≤ 100 ∧ Mo m o ∧
  ∀ p H', Same H H' → H p = Option.none → H' p = some (.lst ((cnts m o (ls.map fun l => l.2.p)).map V.int)) → Q (.ref p) H'
theorem ok_pieces_split (T : Txt K mg A D) : FnOk P w K mg base CX0 1 A.pieces_split D.pieces_split ["lots", "many", "of"] (sp_pieces_split A) := by
  refine T.F_pieces_split.ok sc_pieces_split (fun vs H Q E h => ?_) (fun cdv A' outer s0 H vs Q E hr h => ?_)
  · obtain ⟨q, ls, m, o, rfl, _⟩ := h; rfl
  · obtain ⟨q, ls, m, o, rfl, hq, hL, hl, hM, k⟩ := h
    refine ⟨_, (pss_cons (ps_set (i := 3) sc_pieces_split.nd rfl (Or.inl rfl) (pe_lst pa_nil))
      (pss_cons (ps_set (i := 4) sc_pieces_split.nd rfl (Or.inl rfl) pe_int)
      (pss_cons (ps_set (i := 5) sc_pieces_split.nd rfl (Or.inl rfl) pe_int)
      (pss_cons (ps_for PassesOwn.never rfl (pi_listK (K := K) (pv 0)) (pg_name (i := 6) sc_pieces_split.nd rfl (Or.inl rfl))
        (pss_cons (ps_set (i := 4) sc_pieces_split.nd rfl (Or.inl rfl) (pe_op op_add (pv 4) (pe_fldK (K := K) (pv 6) rfl)))
        (pss_cons (ps_set (i := 7) sc_pieces_split.nd rfl (Or.inl rfl) (pe_op op_fdivB (pe_op op_mulU (pv 4) (pv 1)) (pv 2)))
        (pss_cons (ps_expr (pe_bmK (K := K) PySem.F.plainAttrs_list PySem.F.slot_list_append PySem.F.type_list_append mt_append (pv 3) (pa_cons (pe_op op_sub (pv 7) (pv 5)) pa_nil)))
        (pss_one (ps_set (i := 5) sc_pieces_split.nd rfl (Or.inl rfl) (pv 7)))))))
      (pss_one (ps_ret (pv 3))))))), ?_⟩
    simp only [start_eq]
    walk_at "nx"
    refine ⟨by rw [sizeLine_eq]; decide, fun p hp => ?_⟩
    have s1 := Same.new (o := .lst []) hp
    have h1 : (upd H p (.lst [])) p = some (.lst []) := upd_same
    generalize upd H p (.lst []) = H1 at s1 h1
    walk_at "nx"
    walk_at "nx"
    rw [ap_seq, ap_for]
    walk_at "rdi"
    refine ⟨⟨_, SqL.of (s1 _ _ hq)⟩, ?_⟩
    obtain ⟨ps, eps⟩ : ∃ ps, (ls.map fun l => l.2.p) = ps := ⟨_, rfl⟩
    have hpl : ps.length = ls.length := by rw [← eps, List.length_map]
    rw [eps] at k
    refine ForP.list (K := K) (a := q) (xs := refsR ls) (fun i σ H2 => (∃ v6 v7, σ = [some (.ref q), some (.int m), some (.int o), some (.ref p), some (.int (ps.take i).sum), some (.int ((ps.take i).sum * m / o)), v6, v7]) ∧ Same H H2 ∧ H2 p = some (.lst (((cnts m o ps).take i).map V.int)))
      ⟨⟨Option.none, Option.none, by simp⟩, s1, h1⟩ (fun i σ H2 _ ⟨_, s2, _⟩ => s2.seq (SqL.of hq)) ?_ ?_
    · rintro i y σ H2 hy ⟨⟨v6, v7, rfl⟩, s2, h2⟩
      obtain ⟨l, hli, rfl⟩ := refsR_get hy
      have hil : i < ls.length := (List.getElem?_eq_some_iff.mp hli).1
      have hpi : ps[i]? = some l.2.p := by rw [← eps, List.getElem?_map, hli]; rfl
      obtain ⟨dx, hdx⟩ := (hL l (get_mem hli)).same s2
      walk_at "rdi"
      walk_at "nx"
      refine ⟨_, dx, _, hdx, T.cl_Lot, T.n_Lot_pieces, _, by rfl, _, rfl, ?_⟩
      rw [← sum_take hpi]
      walk_at "nx"
      refine ⟨hM.mul, hM.div, ?_⟩
      walk_at "nx"
      refine ⟨.inl ⟨rfl, _, SqL.of h2⟩, _, h2, ?_, ?_⟩
      · rw [List.length_map, List.length_take, sizeLine_eq]; omega
      refine ⟨s2.upd hp, ?_⟩
      rw [upd_same, cnts_take (by omega), List.map_append]
      rfl
    · rintro σ H2 ⟨⟨v6, v7, rfl⟩, s2, h2⟩
      rw [refsR_len, ← hpl, ← cnts_len m o ps, List.take_length] at h2
      walk_at "rda"
      exact k p H2 s2 hp h2
def sp_row_split (A : Adr) : Sp := fun vs H Q E => ∃ (q : Addr) (ls : RL) (m o : Int), vs = [.ref q, .int m, .int o] ∧ H q = some (.lst (refsR ls)) ∧ LotAt A H ls ∧ ls.length ≤ 100 ∧ Mo m o ∧
  ((ls ≠ [] ∧ (stI m o (ls.map (·.2)) ls.length).1 = [] ∧ ∀ H', Same H H' → E (.ref A.C_NoPieces) Option.none H') ∨
   ((ls = [] ∨ (stI m o (ls.map (·.2)) ls.length).1 ≠ []) ∧ ∀ l l' H', Same H H' → H l = Option.none → H' l = some (.lst (refsR l')) → LotAt A H' l' → l'.map (·.2) = finS (stI m o (ls.map (·.2)) ls.length) → Q (.ref l) H'))
theorem ok_row_split (T : Txt K mg A D) : FnOk P w K mg base (CX1 P w) 4 A.row_split D.row_split ["lots", "many", "of"] (sp_row_split A) := by
  refine T.F_row_split.okX sc_row_split (fun vs H Q E h => ?_) (fun cdv A' outer s0 H vs Q E hr h => ?_)
  · obtain ⟨q, ls, m, o, rfl, _⟩ := h; rfl
  · obtain ⟨q, ls, m, o, rfl, hq, hL, hl, hM, hk⟩ := h
    refine ⟨_, (pss_cons (ps_if (pt_cmpR (op_eq) (pe_callB (call_lenK (K := K)) (by rfl) T.b_len (by decide +kernel) (pa_cons (pv 0) pa_nil)) pe_int (nomark _)) (pss_one (ps_ret (pe_lst pa_nil))) pss_nil)
      (pss_cons (ps_set (i := 3) sc_row_split.nd rfl (Or.inl rfl) (pe_lst pa_nil))
      (pss_cons (ps_set (i := 4) sc_row_split.nd rfl (Or.inl rfl) pe_int)
      (pss_cons (PS.nox (ps_for PassesOwn.never rfl (pi_zip (K := K) (by rfl) T.b_zip (pa_cons (pv 0) (pa_cons (pe_call (ok_pieces_split (K := K) T) (hr.mono (by decide)) (by rfl) T.m_pieces_split T.k_pieces_split (b_pieces_split T) .nil pass0 (pa_cons (pv 0) (pa_cons (pv 1) (pa_cons (pv 2) pa_nil)))) pa_nil))) (pg_tupK (K := K) (n := 2) rfl (pgs_cons (pg_name (i := 5) sc_row_split.nd rfl (Or.inl rfl)) (pgs_cons (pg_name (i := 6) sc_row_split.nd rfl (Or.inl rfl)) pgs_nil)))
        (pss_one (ps_if (pt_cmpR (op_eq) (pv 6) pe_int (nomark _)) (pss_one (ps_set (i := 4) sc_row_split.nd rfl (Or.inl rfl) (pe_op op_add (pv 4) (pe_fldK (K := K) (pv 5) rfl)))) (pss_cons (ps_expr (pe_bmK (K := K) PySem.F.plainAttrs_list PySem.F.slot_list_append PySem.F.type_list_append mt_append (pv 3) (pa_cons (pe_make T.mk_Lot (ok_Lot___init__ (K := K) T) (hr.mono (by decide)) (by rfl) T.m_Lot (b_Lot___init__ T) .nil pass0 (pa_cons (pe_fldK (K := K) (pv 5) rfl) (pa_cons (pe_fldK (K := K) (pv 5) rfl) (pa_cons (pv 6) (pa_cons (pe_op op_add (pe_fldK (K := K) (pv 5) rfl) (pv 4)) pa_nil))))) pa_nil)))
          (pss_one (ps_set (i := 4) sc_row_split.nd rfl (Or.inl rfl) pe_int)))))))
      (pss_cons (ps_if (pt_cmpR (op_eq) (pe_callB (call_lenK (K := K)) (by rfl) T.b_len (by decide +kernel) (pa_cons (pv 3) pa_nil)) pe_int (nomark _)) (pss_one (ps_raise raises_cx rfl T.x_NoPieces (by rfl) T.m_NoPieces (pa_cons pe_str pa_nil))) pss_nil)
      (pss_cons (ps_set (i := 7) sc_row_split.nd rfl (Or.inl rfl) (pe_bm0K (K := K) PySem.F.plainAttrs_list PySem.F.slot_list_pop PySem.F.type_list_pop mt_pop (pv 3)))
      (pss_cons (ps_expr (pe_bmK (K := K) PySem.F.plainAttrs_list PySem.F.slot_list_append PySem.F.type_list_append mt_append (pv 3) (pa_cons (pe_methD (pv 7) (.cons T.cl_Lot T.me_Lot_with_more (ok_Lot_with_more (K := K) T) (hr.mono (by decide)) (b_Lot_with_more T) .nil) pass0 (pa_cons pe_int (pa_cons (pv 4) pa_nil))) pa_nil)))
      (pss_one (ps_ret (pv 3)))))))))), ?_⟩
    simp only [start_eq]
    walk_at "nx"
    refine ⟨_, .inl (SqL.of hq), ?_⟩
    rw [refsR_len]
    by_cases h0 : ls = []
    · subst h0
      rw [if_pos (by simp)]
      rcases hk with ⟨hn, _⟩ | ⟨_, k⟩
      · exact (hn rfl).elim
      · exact ⟨by rw [sizeLine_eq]; decide, fun p hp => k p [] _ (Same.new hp) hp upd_same (fun r h => (List.not_mem_nil h).elim) rfl⟩
    · have hpos : 0 < ls.length := List.length_pos_iff.mpr h0
      rw [if_neg (by omega)]
      walk_at "nx"
      refine ⟨by rw [sizeLine_eq]; decide, fun pr hpr => ?_⟩
      have s1 := Same.new (o := .lst []) hpr
      have h1 : (upd H pr (.lst [])) pr = some (.lst []) := upd_same
      generalize upd H pr (.lst []) = H1 at s1 h1
      walk_at "nx"
      rw [ap_seq, ap_for]
      walk_at "rdi"
      have ep : (ls.map fun l => l.2.p) = (ls.map (·.2)).map LotD.p := by rw [List.map_map]; rfl
      obtain ⟨ds, eds⟩ : ∃ ds, ls.map (·.2) = ds := ⟨_, rfl⟩
      have hdl : ds.length = ls.length := by rw [← eds, List.length_map]
      rw [eds] at ep hk
      refine ⟨q, ls, m, o, rfl, s1 _ _ hq, hL.same s1, hl, hM, fun pc H2 s2 hpcn hpc => ⟨pc, rfl, ⟨_, SqL.of (s2 _ _ (s1 _ _ hq))⟩, ⟨_, SqL.of hpc⟩, ?_⟩⟩
      rw [ep] at hpc
      have S2 := s1.trans s2
      have hprc : pr ≠ pc := fun e => by rw [← e, h1] at hpcn; cases hpcn
      have hclen : (refsR ls).length = ((cnts m o (ds.map LotD.p)).map V.int).length := by rw [refsR_len, List.length_map, cnts_len, List.length_map, hdl]
      refine ForP.zip (K := K) (a := q) (b := pc) (xs := refsR ls) (ys := (cnts m o (ds.map LotD.p)).map V.int) (fun i σ H3 => ∃ (r : RL) (v5 v6 v7 : Option V), σ = [some (.ref q), some (.int m), some (.int o), some (.ref pr), some (.int (stI m o ds i).2), v5, v6, v7] ∧ Same H H3 ∧ H3 pr = some (.lst (refsR r)) ∧ H3 pc = some (.lst ((cnts m o (ds.map LotD.p)).map V.int)) ∧ LotAt A H3 r ∧ r.map (·.2) = (stI m o ds i).1 ∧ r.length ≤ i) hclen
        ⟨[], Option.none, Option.none, Option.none, rfl, S2, s2 _ _ h1, hpc, fun r h => (List.not_mem_nil h).elim, rfl, Nat.zero_le _⟩ (fun i σ H3 _ ⟨_, _, _, _, _, s3, _, h3, _⟩ => ⟨s3.seq (SqL.of hq), SqL.of h3⟩) ?_ ?_
      · rintro i x y σ H3 pt hx hy ⟨r, v5, v6, v7, rfl, s3, h3, hc3, hLr, her, hrl⟩ hpt
        obtain ⟨l, hli, rfl⟩ := refsR_get hx
        obtain ⟨c, rfl, hci⟩ := map_get hy
        have hil : i < ls.length := (List.getElem?_eq_some_iff.mp hli).1
        have hdi : ds[i]? = some l.2 := by rw [← eds, List.getElem?_map, hli]; rfl
        rw [cnts_get (by rw [List.length_map]; omega)] at hci
        obtain rfl := Option.some.inj hci
        obtain ⟨dx, hdx⟩ := (hL l (get_mem hli)).same s3
        have hst := stI_succ (m := m) (o := o) hdi
        generalize hcc : cntI m o (ds.map LotD.p) i = c at hst
        generalize stI m o ds i = st0 at her hst ⊢
        obtain ⟨r0, g0⟩ := st0
        have her : r.map (·.2) = r0 := her
        dsimp only
        have n4 := Same.new (o := .tup [V.ref l.1, V.int c]) hpt
        have h4t : (upd H3 pt (.tup [V.ref l.1, V.int c])) pt = some (.tup [V.ref l.1, V.int c]) := upd_same
        have S4 := s3.trans n4
        have h4 := n4 _ _ h3
        have hc4 := n4 _ _ hc3
        have hL4 := hLr.same n4
        have hd4 := n4 _ _ hdx
        generalize upd H3 pt (.tup [V.ref l.1, V.int c]) = H4 at S4 h4 hc4 hL4 hd4 h4t
        walk_at "rdi"
        refine ⟨_, SqT.of h4t, rfl, _, _, rfl, _, _, rfl, rfl, ?_⟩
        rw [hst]
        unfold stp
        by_cases hc0 : c = 0
        · subst hc0
          rw [if_pos rfl]
          refine ⟨rfl, ?_⟩
          rw [if_pos rfl]
          exact ⟨_, rfl, _, dx, _, hd4, T.cl_Lot, T.n_Lot_cost, _, by rfl, _, rfl, rfl, S4, r, h4, hc4, hL4, her, by omega⟩
        · rw [if_neg hc0]
          refine ⟨rfl, ?_⟩
          rw [if_neg (by simpa using hc0)]
          walk_at "nx"
          refine ⟨.inl ⟨rfl, _, SqL.of h4⟩, _, dx, _, hd4, T.cl_Lot, T.n_Lot_number, _, by rfl, _, dx, _, hd4, T.cl_Lot, T.n_Lot_since, _, by rfl, _, dx, _, hd4, T.cl_Lot, T.n_Lot_cost, _, by rfl, _, rfl, fun z dz hz hdz _ => ?_⟩
          refine spLot_of (A := A) ⟨l.2.n, l.2.s, c, l.2.c + g0⟩ hz hdz fun H5 s5 hZ => ?_
          have h5 := s5 _ _ h4
          refine ⟨_, h5, by rw [refsR_len, sizeLine_eq]; omega, (S4.trans s5).upd hpr, r ++ [(z, ⟨l.2.n, l.2.s, c, l.2.c + g0⟩)], ?_, (upd_ne hprc.symm).trans (s5 _ _ hc4), fun x hx => ?_, by rw [List.map_append, her]; rfl, by rw [List.length_append]; show r.length + 1 ≤ _; omega⟩
          · rw [upd_same]; unfold refsR; rw [List.map_append]; rfl
          · have hx' : IsLot A H5 x.1 x.2 := by
              rcases List.mem_append.mp hx with hx | hx
              · exact (hL4 x hx).same s5
              · obtain rfl := List.mem_singleton.mp hx
                exact hZ
            obtain ⟨dx', e⟩ := hx'
            exact ⟨dx', (upd_ne fun z => by rw [z, h5] at e; cases e).trans e⟩
      · rintro σ H3 ⟨r, v5, v6, v7, rfl, s3, h3, hc3, hLr, her, hrl⟩
        rw [refsR_len] at her hrl ⊢
        walk_at "nx"
        refine ⟨_, .inl (SqL.of h3), ?_⟩
        rw [refsR_len]
        have hk : (r = [] ∧ ∀ H', Same H H' → E (.ref A.C_NoPieces) Option.none H') ∨ (r ≠ [] ∧ ∀ l l' H', Same H H' → H l = Option.none → H' l = some (.lst (refsR l')) → LotAt A H' l' → l'.map (·.2) = finS (stI m o ds ls.length) → Q (.ref l) H') := by
          rcases hk with ⟨_, e, k⟩ | ⟨e, k⟩
          · rw [e] at her
            exact .inl ⟨List.map_eq_nil_iff.mp her, k⟩
          · refine .inr ⟨fun z => ?_, k⟩
            rcases e with e | e
            · exact h0 e
            · rw [z] at her
              exact e her.symm
        rcases hk with ⟨e, k⟩ | ⟨e, k⟩
        · subst e
          rw [if_pos (by decide)]
          exact ⟨by rw [sizeLine_eq]; decide, k _ s3⟩
        · have hrp : 0 < r.length := List.length_pos_iff.mpr e
          rw [if_neg (by omega)]
          obtain ⟨r', z, rfl⟩ : ∃ r' z, r = r' ++ [z] := ⟨_, _, (List.dropLast_concat_getLast e).symm⟩
          generalize stI m o ds ls.length = st1 at her k
          obtain ⟨st, g⟩ := st1
          have her : (r' ++ [z]).map (·.2) = st := her
          subst her
          rw [List.map_append] at k
          dsimp only
          have hzr : ∃ dz, H3 z.1 = some (.ins A.C_Lot dz z.2.fs) := hLr z (List.mem_append_right _ List.mem_cons_self)
          obtain ⟨dz, hz⟩ := hzr
          walk_at "nx"
          refine ⟨.inl ⟨rfl, _, SqL.of h3⟩, pr, _, .ref z.1, rfl, rfl, h3, ?_, ?_⟩
          · unfold refsR; simp
          have edl : (refsR (r' ++ [z])).dropLast = refsR r' := by unfold refsR; simp
          rw [edl]
          have h5 : (upd H3 pr (.lst (refsR r'))) pr = some (.lst (refsR r')) := upd_same
          have S5 := s3.upd (o := .lst (refsR r')) hpr
          have npr : ∀ {b : Addr} {u : HO}, H3 b = some u → (∀ xs, u ≠ .lst xs) → b ≠ pr := fun e n z => by rw [z, h3] at e; exact n _ (Option.some.inj e).symm
          have hz5 : (upd H3 pr (.lst (refsR r'))) z.1 = some (.ins A.C_Lot dz z.2.fs) := (upd_ne (npr hz fun _ z => by cases z)).trans hz
          have hL5 : LotAt A (upd H3 pr (.lst (refsR r'))) r' := fun x hx => by
            obtain ⟨dx, e⟩ := hLr x (List.mem_append_left _ hx)
            exact ⟨dx, (upd_ne (npr e fun _ z => by cases z)).trans e⟩
          generalize upd H3 pr (.lst (refsR r')) = H5 at h5 S5 hz5 hL5
          dsimp only
          walk_at "nx"
          refine ⟨.inl ⟨rfl, _, SqL.of h5⟩, _, dz, _, hz5, _, List.mem_cons_self, by rfl, z.1, z.2, 0, g, rfl, ⟨dz, hz5⟩, fun y H6 s6 hyn hY => ?_⟩
          have h6 := s6 _ _ h5
          have hrr : r'.length < 101 := by rw [List.length_append] at hrl; omega
          refine ⟨_, h6, by rw [refsR_len, sizeLine_eq]; omega, k pr (r' ++ [(y, ⟨z.2.n, z.2.s, z.2.p + 0, z.2.c + g⟩)]) _ ((S5.trans s6).upd hpr) hpr ?_ (fun x hx => ?_) ?_⟩
          · rw [upd_same]; unfold refsR; rw [List.map_append]; rfl
          · have hx' : IsLot A H6 x.1 x.2 := by
              rcases List.mem_append.mp hx with hx | hx
              · exact (hL5 x hx).same s6
              · obtain rfl := List.mem_singleton.mp hx
                exact hY
            obtain ⟨dx', e⟩ := hx'
            exact ⟨dx', (upd_ne fun z => by rw [z, h6] at e; cases e).trans e⟩
          · rw [List.map_append]
            show _ = finS (r'.map (·.2) ++ [z.2], g)
            rw [finS_snoc, Int.add_zero]
            rfl
end
end My
namespace My
open PySem L2 PyProof.Rows
section
variable {P : Program} {w : World} {K : PySem.W.Frag} {mg : Str → Option Value} {base : Heap} {A : Adr} {D : Fds}
theorem floor2 {a b o : Int} (ho : 0 < o) : 0 ≤ (a + b) / o - a / o - b / o ∧ (a + b) / o - a / o - b / o ≤ 1 := by
  have h1 := Int.emod_add_mul_ediv a o
  have h2 := Int.emod_add_mul_ediv b o
  have h3 := Int.emod_nonneg a (show o ≠ 0 by omega)
  have h4 := Int.emod_lt_of_pos a ho
  have h5 := Int.emod_nonneg b (show o ≠ 0 by omega)
  have h6 := Int.emod_lt_of_pos b ho
  have e : (a + b) / o = (a % o + b % o) / o + (a / o + b / o) := by
    rw [← Int.add_mul_ediv_left _ _ (show o ≠ 0 by omega), Int.mul_add]
    congr 1
    omega
  have h7 : 0 ≤ (a % o + b % o) / o := Int.ediv_nonneg (by omega) (by omega)
  have h8 : (a % o + b % o) / o < 2 := Int.ediv_lt_of_lt_mul ho (by omega)
  omega
theorem cnt_near {m o : Int} {ps : List Int} {i : Nat} {p : Int} (ho : 0 < o) (h : ps[i]? = some p) : 0 ≤ cntI m o ps i - p * m / o ∧ cntI m o ps i - p * m / o ≤ 1 := by
  unfold cntI
  rw [sum_take h, Int.add_mul]
  exact floor2 ho
theorem cnt_pos {m o : Int} {ps : List Int} {i : Nat} {p : Int} (hM : Mo m o) (hp : 0 ≤ p) (h : ps[i]? = some p) : 0 ≤ cntI m o ps i := by
  have h1 := (cnt_near (m := m) (by have := hM.b; omega : 0 < o) h).1
  have h2 : 0 ≤ p * m / o := Int.ediv_nonneg (Int.mul_nonneg hp (by have := hM.a; omega)) (by have := hM.b; omega)
  omega
structure SpOk (m o : Int) (ds : List LotD) (i : Nat) (r : List LotD) (g : Int) : Prop where
  p : (r.map LotD.p).sum = ((ds.map LotD.p).take i).sum * m / o
  c : (r.map LotD.c).sum + g = ((ds.map LotD.c).take i).sum
  g : 0 ≤ g
  q : ∃ q : List (Nat × LotD), q.map (·.2) = r ∧ q.Pairwise (fun a b => a.1 < b.1) ∧ ∀ x ∈ q, x.1 < i ∧ ∃ d, ds[x.1]? = some d ∧ x.2.n = d.n ∧ x.2.s = d.s ∧ x.2.p = cntI m o (ds.map LotD.p) x.1 ∧ d.c ≤ x.2.c
theorem spOk {m o : Int} {ds : List LotD} (hc : ∀ d ∈ ds, 0 ≤ d.c) : ∀ i, i ≤ ds.length → SpOk m o ds i (stI m o ds i).1 (stI m o ds i).2
  | 0, _ => ⟨by simp [stI], by simp [stI], Int.le_refl _, [], rfl, .nil, fun x h => by cases h⟩
  | i + 1, hi => by
    have ih := spOk (m := m) (o := o) hc i (by omega)
    have hd : ds[i]? = some ds[i] := List.getElem?_eq_getElem hi
    have hp : (ds.map LotD.p)[i]? = some ds[i].p := by rw [List.getElem?_map, hd]; rfl
    have hcc : (ds.map LotD.c)[i]? = some ds[i].c := by rw [List.getElem?_map, hd]; rfl
    have hcn := hc _ (List.getElem_mem hi)
    rw [stI_succ hd]
    obtain ⟨q, q1, q2, q3⟩ := ih.q
    have e1 := ih.p
    have e2 := ih.c
    have e3 := ih.g
    generalize stI m o ds i = st at *
    obtain ⟨r, g⟩ := st
    have hcnt : cntI m o (ds.map LotD.p) i = ((ds.map LotD.p).take (i + 1)).sum * m / o - ((ds.map LotD.p).take i).sum * m / o := rfl
    unfold stp
    by_cases h0 : cntI m o (ds.map LotD.p) i = 0
    · rw [if_pos h0]
      refine ⟨?_, ?_, ?_, q, q1, q2, fun x hx => ⟨Nat.lt_succ_of_lt (q3 x hx).1, (q3 x hx).2⟩⟩
      · dsimp only at e1 ⊢; omega
      · rw [sum_take hcc]; dsimp only at e2 ⊢; omega
      · dsimp only at e3 ⊢; omega
    · rw [if_neg h0]
      refine ⟨?_, ?_, Int.le_refl _, q ++ [(i, ⟨ds[i].n, ds[i].s, cntI m o (ds.map LotD.p) i, ds[i].c + g⟩)], by rw [List.map_append, q1]; rfl, ?_, fun x hx => ?_⟩
      · dsimp only at e1 ⊢
        rw [List.map_append, List.sum_append, e1]
        simp
        omega
      · dsimp only at e2 ⊢
        rw [sum_take hcc, List.map_append, List.sum_append]
        simp
        omega
      · refine List.pairwise_append.mpr ⟨q2, List.pairwise_singleton _ _, fun a ha b hb => ?_⟩
        obtain rfl := List.mem_singleton.mp hb
        exact (q3 a ha).1
      · rcases List.mem_append.mp hx with hx | hx
        · exact ⟨Nat.lt_succ_of_lt (q3 x hx).1, (q3 x hx).2⟩
        · obtain rfl := List.mem_singleton.mp hx
          exact ⟨Nat.lt_succ_self _, ds[i], hd, rfl, rfl, rfl, by dsimp only at e3 ⊢; omega⟩
theorem SpOk.fin {m o : Int} {ds : List LotD} {i : Nat} {r : List LotD} {g : Int} (h : SpOk m o ds i r g) (hr : r ≠ []) : SpOk m o ds i (finS (r, g)) 0 := by
  obtain ⟨q, q1, q2, q3⟩ := h.q
  have hq : q ≠ [] := fun e => hr (by rw [← q1, e]; rfl)
  obtain ⟨q', x, rfl⟩ : ∃ q' x, q = q' ++ [x] := ⟨_, _, (List.dropLast_concat_getLast hq).symm⟩
  rw [List.map_append] at q1
  have h1 := h.p
  have h2 := h.c
  have h3 := h.g
  subst q1
  show SpOk m o ds i (finS (q'.map (·.2) ++ [x.2], g)) 0
  rw [finS_snoc]
  rw [List.map_append, List.sum_append] at h1 h2
  refine ⟨?_, ?_, Int.le_refl _, q' ++ [(x.1, ⟨x.2.n, x.2.s, x.2.p, x.2.c + g⟩)], by rw [List.map_append]; rfl, ?_, fun y hy => ?_⟩
  · rw [List.map_append, List.sum_append]; simpa using h1
  · rw [List.map_append, List.sum_append]
    simp at h2 ⊢
    omega
  · have q2 := List.pairwise_append.mp q2
    refine List.pairwise_append.mpr ⟨q2.1, List.pairwise_singleton _ _, fun a ha b hb => ?_⟩
    obtain rfl := List.mem_singleton.mp hb
    exact q2.2.2 a ha x List.mem_cons_self
  · rcases List.mem_append.mp hy with hy | hy
    · exact q3 y (List.mem_append_left _ hy)
    · obtain rfl := List.mem_singleton.mp hy
      obtain ⟨a1, d, a2, a3, a4, a5, a6⟩ := q3 x (List.mem_append_right _ List.mem_cons_self)
      exact ⟨a1, d, a2, a3, a4, a5, by show d.c ≤ x.2.c + g; omega⟩
def setp (f : LotD → Int) (d : LotD) : LotD := ⟨d.n, d.s, f d, d.c⟩
theorem st_all {m o : Int} {ds : List LotD} {f : LotD → Int} (h : ∀ (i : Nat) d, ds[i]? = some d → cntI m o (ds.map LotD.p) i = f d ∧ f d ≠ 0) : ∀ i, i ≤ ds.length → stI m o ds i = ((ds.take i).map (setp f), 0)
  | 0, _ => rfl
  | i + 1, hi => by
    have hd : ds[i]? = some ds[i] := List.getElem?_eq_getElem hi
    obtain ⟨h1, h2⟩ := h i _ hd
    rw [stI_succ hd, st_all h i (by omega), h1]
    unfold stp
    rw [if_neg h2, List.take_add_one, hd, List.map_append, Int.add_zero]
    rfl
theorem finS_zero (r : List LotD) : finS (r, 0) = r := by
  by_cases h : r = []
  · subst h; rfl
  · have e : r.dropLast ++ [r.getLast h] = r := List.dropLast_concat_getLast _
    rw [← e, finS_snoc, Int.add_zero]
theorem split_all {m o : Int} {ds : List LotD} {f : LotD → Int} (h : ∀ (i : Nat) d, ds[i]? = some d → cntI m o (ds.map LotD.p) i = f d ∧ f d ≠ 0) : stI m o ds ds.length = (ds.map (setp f), 0) := by
  rw [st_all h _ (Nat.le_refl _), List.take_length]
theorem cnt_one {m : Int} {ds : List LotD} (hm : 1 ≤ m) (hp : ∀ d ∈ ds, 1 ≤ d.p) : ∀ (i : Nat) d, ds[i]? = some d → cntI m 1 (ds.map LotD.p) i = d.p * m ∧ d.p * m ≠ 0 := fun i d hd => by
  have hpi : (ds.map LotD.p)[i]? = some d.p := by rw [List.getElem?_map, hd]; rfl
  have h1 := hp d (List.mem_of_getElem? hd)
  have h2 : 0 < d.p * m := Int.mul_pos (by omega) (by omega)
  unfold cntI
  rw [sum_take hpi, Int.ediv_one, Int.ediv_one, Int.add_mul]
  exact ⟨by omega, by omega⟩
theorem sum_mul (m : Int) : ∀ ps : List Int, (ps.map (· * m)).sum = ps.sum * m
  | [] => by simp
  | p :: ps => by rw [List.map_cons, List.sum_cons, List.sum_cons, sum_mul m ps, Int.add_mul]
theorem cnt_back {m : Int} {ds : List LotD} (hm : 1 ≤ m) (hp : ∀ d ∈ ds, 1 ≤ d.p) : ∀ (i : Nat) d, (ds.map (setp fun d => d.p * m))[i]? = some d → cntI 1 m ((ds.map (setp fun d => d.p * m)).map LotD.p) i = d.p / m ∧ d.p / m ≠ 0 := fun i d hd => by
  rw [List.getElem?_map] at hd
  cases e : ds[i]? with
  | none => rw [e] at hd; cases hd
  | some d0 =>
    rw [e] at hd
    obtain rfl := Option.some.inj hd
    have h1 := hp d0 (List.mem_of_getElem? e)
    have hpi : (ds.map LotD.p)[i]? = some d0.p := by rw [List.getElem?_map, e]; rfl
    have em : (ds.map (setp fun d => d.p * m)).map LotD.p = (ds.map LotD.p).map (· * m) := by rw [List.map_map, List.map_map]; rfl
    rw [em]
    generalize ds.map LotD.p = ps at hpi
    unfold cntI
    rw [← List.map_take, ← List.map_take, sum_mul, sum_mul, Int.mul_one, Int.mul_one, Int.mul_ediv_cancel _ (by omega), Int.mul_ediv_cancel _ (by omega), sum_take hpi]
    show _ = d0.p * m / m ∧ d0.p * m / m ≠ 0
    rw [Int.mul_ediv_cancel _ (by omega)]
    exact ⟨by omega, by omega⟩
theorem st_take {m o : Int} {ds : List LotD} {k : Nat} : ∀ i, i ≤ k → stI m o (ds.take k) i = stI m o ds i
  | 0, _ => rfl
  | i + 1, hi => by
    have e : (ds.take k)[i]? = ds[i]? := List.getElem?_take_of_lt (by omega)
    have ec : cntI m o ((ds.take k).map LotD.p) i = cntI m o (ds.map LotD.p) i := by
      unfold cntI
      rw [List.map_take, List.take_take, List.take_take, Nat.min_eq_left (by omega), Nat.min_eq_left (by omega)]
    rw [stI, stI, e, st_take i (by omega), ec]
theorem st_pre {m o : Int} {ds : List LotD} (i : Nat) : ∀ j, ∃ t, (stI m o ds (i + j)).1 = (stI m o ds i).1 ++ t
  | 0 => ⟨[], by simp⟩
  | j + 1 => by
    obtain ⟨t, e⟩ := st_pre (m := m) (o := o) (ds := ds) i j
    rw [← Nat.add_assoc]
    cases hd : ds[i + j]? with
    | none => rw [stI, hd]; exact ⟨t, e⟩
    | some d =>
      rw [stI_succ hd]
      unfold stp
      split
      · exact ⟨t, e⟩
      · exact ⟨t ++ [_], by dsimp only; rw [e, List.append_assoc]⟩
def t3 (d : LotD) : List V := [.int d.n, .int d.s, .int d.p]
theorem fin_t3 (st : List LotD × Int) : (finS st).map t3 = st.1.map t3 := by
  obtain ⟨l, g⟩ := st
  by_cases h : l = []
  · subst h; rfl
  · have e : l.dropLast ++ [l.getLast h] = l := List.dropLast_concat_getLast _
    rw [← e, finS_snoc, List.map_append, List.map_append]
    rfl
theorem stI_len {m o : Int} {ds : List LotD} : ∀ i, (stI m o ds i).1.length ≤ i
  | 0 => Nat.le_refl _
  | i + 1 => by
    have ih := stI_len (m := m) (o := o) (ds := ds) i
    cases e : ds[i]? with
    | none => rw [stI, e]; exact Nat.le_succ_of_le ih
    | some d =>
      rw [stI_succ e]
      unfold stp
      split
      · exact Nat.le_succ_of_le ih
      · show (_ ++ [_]).length ≤ _
        rw [List.length_append]
        exact Nat.succ_le_succ ih
theorem finS_len (st : List LotD × Int) : (finS st).length ≤ st.1.length := by
  obtain ⟨l, g⟩ := st
  by_cases h : l = []
  · subst h; exact Nat.le_refl _
  · have e : l.dropLast ++ [l.getLast h] = l := List.dropLast_concat_getLast _
    rw [← e, finS_snoc]
    simp
end
end My
namespace My
open PySem L2 PyProof.Rows
section
variable {P : Program} {w : World} {K : PySem.W.Frag} {mg : Str → Option Value} {base : Heap} {A : Adr} {D : Fds}
local macro_rules | `(tactic| walk_at "nx") => `(tactic| ((try dsimp only); rw [ap_seq]; walk_at "rdi"))
theorem acc_ints {ls : RL} {f : Addr × LotD → Int} {acc : List V} (hl : acc.length = ls.length) (h : ∀ (i : Nat) v, acc[i]? = some v → ∃ l, ls[i]? = some l ∧ v = .int (f l)) : acc = (ls.map f).map V.int := by
  refine List.ext_getElem (by simp [hl]) fun i h1 h2 => ?_
  obtain ⟨l, e1, e2⟩ := h i acc[i] (by simp)
  rw [e2]
  have h3 : i < ls.length := by omega
  have : ls[i] = l := by
    rw [List.getElem?_eq_getElem h3] at e1
    exact Option.some.inj e1
  simp [this]
def sp_cost_in (A : Adr) : Sp := fun vs H Q _ => ∃ (q : Addr) (ls : RL), vs = [.ref q] ∧ H q = some (.lst (refsR ls)) ∧ LotAt A H ls ∧ ls.length ≤ 100 ∧ ∀ H', Same H H' → Q (.int ((ls.map (·.2)).map LotD.c).sum) H'
theorem ok_cost_in (T : Txt K mg A D) : FnOk P w K mg base CX0 1 A.cost_in D.cost_in ["lots"] (sp_cost_in A) := by
  refine T.F_cost_in.ok sc_cost_in (fun vs H Q E h => ?_) (fun cdv A' outer s0 H vs Q E hr h => ?_)
  · obtain ⟨q, ls, rfl, _⟩ := h; rfl
  · obtain ⟨q, ls, rfl, hq, hL, hl, k⟩ := h
    refine ⟨_, (pss_one (ps_ret (pe_callB (call_sumK (K := K) rfl) (by rfl) T.b_sum (by decide +kernel) (pa_cons (pe_comp (cap := [Option.none]) (N' := ["lot"]) rfl (by walk_at "compok") (pi_listK (K := K) (pv 0)) (fun _ _ _ _ => (pg_name (i := 0) (show (["lot"] : List Str).Nodup from by decide +kernel) rfl (Or.inl rfl) (Or.inr rfl))) (fun _ _ _ _ => pts_nil) (fun _ _ _ _ => (pe_fldK (K := K) (pv 0) rfl))) pa_nil)))), ?_⟩
    walk_at "rda"
    refine ⟨⟨_, SqL.of hq⟩, ?_⟩
    refine CompP.listE (K := K) (fun σ => ∃ a, σ = [a]) (fun i v _ => ∃ l, ls[i]? = some l ∧ v = .int l.2.c) (SqL.of hq) ⟨_, rfl⟩ (by rw [refsR_len, sizeLine_eq]; omega) ?_ ?_
    · rintro Da i x hx σ H5 R ⟨_, rfl⟩ sm hD _ kk
      obtain ⟨l, hl', rfl⟩ := refsR_get hx
      obtain ⟨dx, hdx⟩ := (hL l (get_mem hl')).same sm
      walk_at "rdi"
      exact ⟨_, dx, _, hdx, T.cl_Lot, T.n_Lot_cost, _, by rfl, kk _ _ H5 ⟨_, rfl⟩ (Same.refl _) fun H' _ => ⟨l, hl', rfl⟩⟩
    · intro Da H' acc hD sm hA hlen hF
      rw [acc_ints (f := fun l => l.2.c) (by rw [hlen, refsR_len]) hF] at hA
      have ec : (ls.map (·.2)).map LotD.c = ls.map (fun l => l.2.c) := by rw [List.map_map]; rfl
      rw [ec] at k
      walk_at "rda"
      exact ⟨_, SqL.of hA, k H' sm⟩
def sp_pieces_in (A : Adr) : Sp := fun vs H Q _ => ∃ (q : Addr) (ls : RL), vs = [.ref q] ∧ H q = some (.lst (refsR ls)) ∧ LotAt A H ls ∧ ls.length ≤ 100 ∧ ∀ H', Same H H' → Q (.int ((ls.map (·.2)).map LotD.p).sum) H'
theorem ok_pieces_in (T : Txt K mg A D) : FnOk P w K mg base CX0 1 A.pieces_in D.pieces_in ["lots"] (sp_pieces_in A) := by
  refine T.F_pieces_in.ok sc_pieces_in (fun vs H Q E h => ?_) (fun cdv A' outer s0 H vs Q E hr h => ?_)
  · obtain ⟨q, ls, rfl, _⟩ := h; rfl
  · obtain ⟨q, ls, rfl, hq, hL, hl, k⟩ := h
    refine ⟨_, (pss_one (ps_ret (pe_callB (call_sumK (K := K) rfl) (by rfl) T.b_sum (by decide +kernel) (pa_cons (pe_comp (cap := [Option.none]) (N' := ["lot"]) rfl (by walk_at "compok") (pi_listK (K := K) (pv 0)) (fun _ _ _ _ => (pg_name (i := 0) (show (["lot"] : List Str).Nodup from by decide +kernel) rfl (Or.inl rfl) (Or.inr rfl))) (fun _ _ _ _ => pts_nil) (fun _ _ _ _ => (pe_fldK (K := K) (pv 0) rfl))) pa_nil)))), ?_⟩
    walk_at "rda"
    refine ⟨⟨_, SqL.of hq⟩, ?_⟩
    refine CompP.listE (K := K) (fun σ => ∃ a, σ = [a]) (fun i v _ => ∃ l, ls[i]? = some l ∧ v = .int l.2.p) (SqL.of hq) ⟨_, rfl⟩ (by rw [refsR_len, sizeLine_eq]; omega) ?_ ?_
    · rintro Da i x hx σ H5 R ⟨_, rfl⟩ sm hD _ kk
      obtain ⟨l, hl', rfl⟩ := refsR_get hx
      obtain ⟨dx, hdx⟩ := (hL l (get_mem hl')).same sm
      walk_at "rdi"
      exact ⟨_, dx, _, hdx, T.cl_Lot, T.n_Lot_pieces, _, by rfl, kk _ _ H5 ⟨_, rfl⟩ (Same.refl _) fun H' _ => ⟨l, hl', rfl⟩⟩
    · intro Da H' acc hD sm hA hlen hF
      rw [acc_ints (f := fun l => l.2.p) (by rw [hlen, refsR_len]) hF] at hA
      have ec : (ls.map (·.2)).map LotD.p = ls.map (fun l => l.2.p) := by rw [List.map_map]; rfl
      rw [ec] at k
      walk_at "rda"
      exact ⟨_, SqL.of hA, k H' sm⟩
end
end My
namespace My
open PySem L2 PyProof.Rows
section
variable {P : Program} {w : World} {K : PySem.W.Frag} {mg : Str → Option Value} {base : Heap} {A : Adr} {D : Fds}
local macro_rules | `(tactic| walk_at "nx") => `(tactic| ((try dsimp only); rw [ap_seq]; walk_at "rdi"))
theorem cutV_ints (xs : List Int) (lo hi : Option Int) : ∃ ys : List Int, cutV (xs.map V.int) lo hi = ys.map V.int ∧ ys.length ≤ xs.length := by
  unfold cutV
  rw [← List.map_drop, ← List.map_take]
  refine ⟨_, rfl, ?_⟩
  rw [List.length_take, List.length_drop]
  omega
theorem seq_gen {t u : TS} {D : Ends} {σ : L2.St} {H : Hp} (P : L2.St → Hp → Prop) (k : ∀ σ' H', P σ' H' → u D σ' H') (h : ∀ N : L2.St → Hp → Prop, (∀ σ' H', P σ' H' → N σ' H') → t { D with nx := N } σ H) : tSeq t u D σ H := h (u D) k
theorem cut_to (xs : List V) (n : Nat) : cutV xs Option.none (some (n : Int)) = xs.take n := by
  unfold cutV
  rw [HT.sIx_none, HT.sIx_nat, List.drop_zero, Nat.sub_zero]
  by_cases h : n ≤ xs.length
  · rw [Nat.min_eq_left h]
  · rw [Nat.min_eq_right (by omega), List.take_length, List.take_of_length_le (by omega)]
theorem st_ne {m o : Int} {ds : List LotD} {k : Nat} (hc : ∀ d ∈ ds, 0 ≤ d.c) (hk : k ≤ ds.length) (h : 0 < ((ds.map LotD.p).take k).sum * m / o) : (stI m o ds k).1 ≠ [] := fun e => by
  have := (spOk (m := m) (o := o) hc k hk).p
  rw [e] at this
  have : (0 : Int) = ((ds.map LotD.p).take k).sum * m / o := this
  omega
theorem told_comp (T : Txt K mg A D) {H : Hp} {q : Addr} {ls : RL} {Q : VK} {σ : L2.St} (hq : H q = some (.lst (refsR ls))) (hL : LotAt A H ls) (hl : ls.length ≤ 100)
    (k : ∀ D H' rt, H D = Option.none → Same H H' → H' D = some (.lst (refsR rt)) → RowAt H' rt → rt.map (·.2) = ls.map (·.2) → Q (.ref D) H') : CompP [Option.none] (Itl K q) (gName 0) tNoIf (tMethD [(A.C_Lot, sp_Lot_told A)] (Str.ofString "told") E0 (tVar 0) tNil) σ H Q := by
  refine CompP.listE (K := K) (fun σ => ∃ a, σ = [a]) (fun i v H' => ∃ b l, ls[i]? = some l ∧ v = .ref b ∧ H' b = some (.tup l.2.vs)) (SqL.of hq) ⟨_, rfl⟩ (by rw [refsR_len, sizeLine_eq]; omega) ?_ ?_
  · rintro Da i x hx σ H5 R ⟨_, rfl⟩ sm hD ⟨acc, hA⟩ kk
    obtain ⟨l, hl', rfl⟩ := refsR_get hx
    obtain ⟨dx, hdx⟩ := (hL l (get_mem hl')).same sm
    walk_at "rdi"
    refine ⟨_, dx, _, hdx, _, List.mem_cons_self, by rfl, l.1, l.2, rfl, ⟨dx, hdx⟩, fun t ht => ?_⟩
    exact kk (.ref t) _ _ ⟨_, rfl⟩ (Same.new ht) fun H'' hb => ⟨t, l, hl', rfl, hb _ _ (fun e => by rw [e, hA] at ht; cases ht) upd_same⟩
  · intro Da H' acc hD sm hA hlen hF
    obtain ⟨rt, e1, e2, e3⟩ := refs_of (fun _ H r => H r.1 = some (.tup r.2.vs)) (H := H') (acc := acc) (ds := ls.map (·.2)) (by rw [hlen, refsR_len, List.length_map]) fun i v hv => by
      obtain ⟨b, l, h1, h2, h3⟩ := hF i v hv
      exact ⟨b, l.2, by rw [List.getElem?_map, h1]; rfl, h2, h3⟩
    exact k Da H' rt hD sm (e1 ▸ hA) e3 e2
end
end My
namespace My
open PySem L2 PyProof.Rows
section
variable {P : Program} {w : World} {K : PySem.W.Frag} {mg : Str → Option Value} {base : Heap} {A : Adr} {D : Fds}
def ixI : List Int → Int → Nat
  | [], _ => 0
  | a :: l, n => if a = n then 0 else ixI l n + 1
theorem ixI_at : ∀ {l : List Int} {i : Nat} {n : Int}, l.Nodup → l[i]? = some n → ixI l n = i
  | [], i, n, _, h => by simp at h
  | a :: l, 0, n, _, h => by
    have : a = n := by simpa using h
    simp [ixI, this]
  | a :: l, i + 1, n, hu, h => by
    rw [List.getElem?_cons_succ] at h
    have hu' := List.nodup_cons.mp hu
    have hne : a ≠ n := fun e => hu'.1 (e ▸ List.mem_of_getElem? h)
    rw [ixI, if_neg hne, ixI_at hu'.2 h]
theorem rise_eq : ∀ {l1 l2 : List Int}, (l1.Pairwise fun x y => x < y) → (l2.Pairwise fun x y => x < y) → (∀ x, x ∈ l1 ↔ x ∈ l2) → l1 = l2
  | [], [], _, _, _ => rfl
  | [], b :: l2, _, _, h => absurd ((h b).mpr List.mem_cons_self) (by simp)
  | a :: l1, [], _, _, h => absurd ((h a).mp List.mem_cons_self) (by simp)
  | a :: l1, b :: l2, h1, h2, h => by
    have p1 := List.pairwise_cons.mp h1
    have p2 := List.pairwise_cons.mp h2
    have e : a = b := by
      rcases List.mem_cons.mp ((h a).mp List.mem_cons_self) with e | e
      · exact e
      · rcases List.mem_cons.mp ((h b).mpr List.mem_cons_self) with e' | e'
        · exact e'.symm
        · have := p2.1 a e
          have := p1.1 b e'
          omega
    subst e
    rw [rise_eq p1.2 p2.2 fun x => ?_]
    constructor
    · intro hx
      rcases List.mem_cons.mp ((h x).mp (List.mem_cons_of_mem _ hx)) with e | e
      · have := p1.1 x hx
        omega
      · exact e
    · intro hx
      rcases List.mem_cons.mp ((h x).mpr (List.mem_cons_of_mem _ hx)) with e | e
      · have := p2.1 x hx
        omega
      · exact e
def numH (H : Hp) : V → Int
  | .ref b => match H b with
    | some (.ins _ _ fs) => match List.lookup (Str.ofString "number") fs with
      | some (.int n) => n
      | _ => 0
    | _ => 0
  | _ => 0
theorem numH_at {H : Hp} {b dx : Addr} {d : LotD} (h : H b = some (.ins A.C_Lot dx d.fs)) : numH H (.ref b) = d.n := by
  unfold numH
  simp only [h]
  rfl
end
end My
namespace My
open PySem L2 PyProof.Rows
section
variable {P : Program} {w : World} {K : PySem.W.Frag} {mg : Str → Option Value} {base : Heap} {A : Adr} {D : Fds}
theorem dep_ints (xs : List Int) : depD (.lst (xs.map DV.int)) = 1 := by
  show depDs (xs.map DV.int) + 1 = 1
  rw [depDs_ints]
theorem rNeD_ints {H : Hp} {Q : VK} {p q : Addr} {xs ys : List Int} (h1 : SqL K H p (xs.map V.int)) (h2 : SqL K H q (ys.map V.int)) (hQ : Q (.bl (!decide (xs = ys))) H) : rNeD K (.ref p) (.ref q) H Q :=
  ⟨.lst (xs.map DV.int), .lst (ys.map DV.int), .lst h1 (repsD_ints K H xs), .lst h2 (repsD_ints K H ys), by rw [dep_ints]; decide, by rw [dep_ints]; decide, by rw [deqD_lst, deqDs_ints]; exact hQ⟩
theorem rEqD_ints {H : Hp} {Q : VK} {p q : Addr} {xs ys : List Int} (h1 : SqL K H p (xs.map V.int)) (h2 : SqL K H q (ys.map V.int)) (hQ : Q (.bl (decide (xs = ys))) H) : rEqD K (.ref p) (.ref q) H Q :=
  ⟨.lst (xs.map DV.int), .lst (ys.map DV.int), .lst h1 (repsD_ints K H xs), .lst h2 (repsD_ints K H ys), by rw [dep_ints]; decide, by rw [dep_ints]; decide, by rw [deqD_lst, deqDs_ints]; exact hQ⟩
theorem atI_map {ns : List Int} {i : Nat} {x : Int} {j : Int} (h : ns[i]? = some x) (e : j = (i : Int)) : atI (ns.map V.int) j = some (.int x) := by
  rw [e]
  refine atI_nat ?_
  rw [List.getElem?_map, h]
  rfl
end
end My
namespace My
open PySem L2 PyProof.Rows
section
variable {P : Program} {w : World} {K : PySem.W.Frag} {mg : Str → Option Value} {base : Heap} {A : Adr} {D : Fds}
local macro_rules | `(tactic| walk_at "nx") => `(tactic| ((try dsimp only); rw [ap_seq]; walk_at "rdi"))
theorem lot_compN (T : Txt K mg A D) {H : Hp} {q : Addr} {ls : RL} {Q : VK} {σ : L2.St} (hq : H q = some (.lst (refsR ls))) (hL : LotAt A H ls) (hl : ls.length ≤ 100)
    (k : ∀ D H', H D = Option.none → Same H H' → H' D = some (.lst ((ls.map fun l => l.2.n).map V.int)) → Q (.ref D) H') : CompP [Option.none] (Itl K q) (gName 0) tNoIf (tFld K (tVar 0) "number") σ H Q := by
  refine CompP.listE (K := K) (fun σ => ∃ a, σ = [a]) (fun i v _ => ∃ l, ls[i]? = some l ∧ v = .int l.2.n) (SqL.of hq) ⟨_, rfl⟩ (by rw [refsR_len, sizeLine_eq]; omega) ?_ ?_
  · rintro Da i x hx σ H5 R ⟨_, rfl⟩ sm hD _ kk
    obtain ⟨l, hl', rfl⟩ := refsR_get hx
    obtain ⟨dx, hdx⟩ := (hL l (get_mem hl')).same sm
    walk_at "rdi"
    exact ⟨_, dx, _, hdx, T.cl_Lot, T.n_Lot_number, _, by rfl, kk _ _ H5 ⟨_, rfl⟩ (Same.refl _) fun H' _ => ⟨l, hl', rfl⟩⟩
  · intro Da H' acc hD sm hA hlen hF
    rw [acc_ints (f := fun l => l.2.n) (by rw [hlen, refsR_len]) hF] at hA
    exact k Da H' hD sm hA
def sp__law_step_good (A : Adr) : Sp := fun vs H Q _ => ∃ (b f : Addr) (bs ls : RL) (m o : Int), vs = [.ref b, .ref f, .int m, .int o] ∧ H b = some (.lst (refsR bs)) ∧ LotAt A H bs ∧ bs.length ≤ 50 ∧ (bs.map (·.2.n)).Nodup ∧ H f = some (.lst (refsR ls)) ∧ LotAt A H ls ∧ ls.length ≤ 50 ∧ Mo m o ∧
  SpOk m o (bs.map (·.2)) bs.length (ls.map (·.2)) 0 ∧ (∀ l ∈ ls, 1 ≤ l.2.p) ∧ ∀ H', Same H H' → Q (.bl true) H'
theorem ok__law_step_good (T : Txt K mg A D) : FnOk P w K mg base CX0 2 A._law_step_good D._law_step_good ["_law_before", "_law_after", "_law_many", "_law_of"] (sp__law_step_good A) := by
  refine T.F__law_step_good.ok sc__law_step_good (fun vs H Q E h => ?_) (fun cdv A' outer s0 H vs Q E hr h => ?_)
  · obtain ⟨b, f, bs, ls, m, o, rfl, _⟩ := h; rfl
  · obtain ⟨b, f, bs, ls, m, o, rfl, hb, hB, hbl, hnd, hf, hL, hll, hM, hO, hp1, k⟩ := h
    refine ⟨_, (pss_cons (ps_if (PW.pt (pw_or (pt_not (pt_val (pe_callB (call_isTK (K := K)) (by rfl) T.b_isinstance (by decide +kernel) (pa_cons (pv 1) (pa_cons (pe_ty "list" (by rfl) T.b_list (by decide +kernel)) pa_nil))))) (pw_or1 (pt_cmpR (op_ne) (pe_call (ok_pieces_in (K := K) T) (hr.mono (by decide)) (by rfl) T.m_pieces_in T.k_pieces_in (b_pieces_in T) .nil pass0 (pa_cons (pv 1) pa_nil)) (pe_op op_fdivB (pe_op op_mulU (pe_call (ok_pieces_in (K := K) T) (hr.mono (by decide)) (by rfl) T.m_pieces_in T.k_pieces_in (b_pieces_in T) .nil pass0 (pa_cons (pv 0) pa_nil)) (pv 2)) (pv 3)) (nomark _))))) (pss_one (ps_ret pe_bl)) pss_nil)
      (pss_cons (ps_if (pt_cmpR (op_ne) (pe_call (ok_cost_in (K := K) T) (hr.mono (by decide)) (by rfl) T.m_cost_in T.k_cost_in (b_cost_in T) .nil pass0 (pa_cons (pv 1) pa_nil)) (pe_call (ok_cost_in (K := K) T) (hr.mono (by decide)) (by rfl) T.m_cost_in T.k_cost_in (b_cost_in T) .nil pass0 (pa_cons (pv 0) pa_nil)) (nomark _)) (pss_one (ps_ret pe_bl)) pss_nil)
      (pss_cons (ps_set (i := 4) sc__law_step_good.nd rfl (Or.inr rfl) (pe_comp (cap := [Option.none]) (N' := ["_law_lot"]) rfl (by walk_at "compok") (pi_listK (K := K) (pv 0)) (fun _ _ _ _ => (pg_name (i := 0) (show (["_law_lot"] : List Str).Nodup from by decide +kernel) rfl (Or.inl rfl) (Or.inr rfl))) (fun _ _ _ _ => pts_nil) (fun _ _ _ _ => (pe_fldK (K := K) (pv 0) rfl))))
      (pss_cons (ps_setComp (i := 5) sc__law_step_good.nd rfl rfl (cap := [Option.none, some 4]) (N' := ["_law_lot", "_law_numbers"]) rfl (by walk_at "compok") (pi_listK (K := K) (pv 1)) (fun _ _ _ _ => (pg_name (i := 0) (show (["_law_lot", "_law_numbers"] : List Str).Nodup from by decide +kernel) rfl (Or.inl rfl) (Or.inr rfl))) (fun _ _ _ _ => (pts_one (pt_cmpR (op_inK (K := K)) (pe_fldK (K := K) (pv 0) rfl) (pv 1) (by with_unfolding_all rfl)))) (fun _ _ _ _ => (pe_bmK (K := K) PySem.F.plainAttrs_list PySem.F.slot_list_index PySem.F.type_list_index mt_index (pv 1) (pa_cons (pe_fldK (K := K) (pv 0) rfl) pa_nil))))
      (pss_cons (ps_if (PW.pt (pw_or (pt_cmpR (op_ne) (pe_callB (call_lenK (K := K)) (by rfl) T.b_len (by decide +kernel) (pa_cons (pv 5) pa_nil)) (pe_callB (call_lenK (K := K)) (by rfl) T.b_len (by decide +kernel) (pa_cons (pv 1) pa_nil)) (nomark _)) (pw_or1 (pt_cmpR (op_neDK (K := K) hr) (pv 5) (pe_sortSet (K := K) rfl (by rfl) T.b_sorted (by decide +kernel) (by rfl) T.b_set (by decide +kernel) (pa_cons (pv 5) pa_nil)) (nomark _))))) (pss_one (ps_ret pe_bl)) pss_nil)
      (pss_cons (ps_for PassesOwn.never rfl (pi_zip (K := K) (by rfl) T.b_zip (pa_cons (pv 1) (pa_cons (pv 5) pa_nil))) (pg_tupK (K := K) (n := 2) rfl (pgs_cons (pg_name (i := 6) sc__law_step_good.nd rfl (Or.inl rfl)) (pgs_cons (pg_name (i := 7) sc__law_step_good.nd rfl (Or.inl rfl)) pgs_nil)))
        (pss_one (ps_if (PW.pt (pw_or (pt_cmpR (op_lt) (pe_fldK (K := K) (pv 6) rfl) pe_int (nomark _)) (pw_or (pt_not (pt_val (pe_call (ok__law_whole (K := K) T) (hr.mono (by decide)) (by rfl) T.m__law_whole T.k__law_whole (b__law_whole T) .nil pass0 (pa_cons (pe_fldK (K := K) (pv 6) rfl) pa_nil)))) (pw_or1 (pt_cmpR (op_ne) (pe_fldK (K := K) (pv 6) rfl) (pe_fldK (K := K) (pe_ix (ix_listK (K := K)) (pv 0) (pv 7) (fun _ _ => rfl)) rfl) (nomark _)))))) (pss_one (ps_ret pe_bl)) pss_nil)))
      (pss_one (ps_ret pe_bl)))))))), ?_⟩
    obtain ⟨ds, eds⟩ : ∃ ds, bs.map (·.2) = ds := ⟨_, rfl⟩
    have hdl : ds.length = bs.length := by rw [← eds, List.length_map]
    have eN : (bs.map fun r => r.2.n) = ds.map LotD.n := by rw [← eds, List.map_map]; rfl
    have hu : (ds.map LotD.n).Nodup := by rw [← eN]; exact hnd
    rw [eds] at hO
    have oP := hO.p
    have oC := hO.c
    rw [← hdl, ← List.length_map (f := LotD.p), List.take_length] at oP
    rw [← hdl, ← List.length_map (f := LotD.c), List.take_length, Int.add_zero] at oC
    obtain ⟨qs, q1, q2, q3⟩ := hO.q
    have hql : qs.length = ls.length := by have := congrArg List.length q1; simpa using this
    have hqi : ∀ (i : Nat) (l : Addr × LotD), ls[i]? = some l → ∃ x : Nat × LotD, qs[i]? = some x ∧ x.2 = l.2 := fun i l hli => by
      have e1 : (qs.map (·.2))[i]? = some l.2 := by rw [q1, List.getElem?_map, hli]; rfl
      rw [List.getElem?_map] at e1
      cases e : qs[i]? with
      | none => rw [e] at e1; cases e1
      | some x => rw [e] at e1; exact ⟨x, rfl, Option.some.inj e1⟩
    have hix : ∀ (x : Nat × LotD), x ∈ qs → (ds.map LotD.n)[x.1]? = some x.2.n := fun x hx => by
      obtain ⟨_, d, hd, en, _⟩ := q3 x hx
      rw [List.getElem?_map, hd, en]; rfl
    simp only [start_eq]
    walk_at "nx"
    refine ⟨_, .lst hf, true, by with_unfolding_all rfl, ?_⟩
    rw [if_neg (by decide)]
    refine ⟨f, ls, rfl, hf, hL, by omega, fun H1 s1 => ⟨b, bs, rfl, s1 _ _ hb, hB.same s1, by omega, fun H2 s2 => ⟨_, rfl, hM.mul, hM.div, rfl, ?_⟩⟩⟩
    rw [eds, oP, if_neg (fun z => z rfl)]
    have S2 := s1.trans s2
    walk_at "nx"
    refine ⟨f, ls, rfl, S2 _ _ hf, hL.same S2, by omega, fun H3 s3 => ⟨b, bs, rfl, s3 _ _ (S2 _ _ hb), (hB.same S2).same s3, by omega, fun H4 s4 => ⟨rfl, ?_⟩⟩⟩
    rw [eds, oC, if_neg (fun z => z rfl)]
    have S4 := S2.trans (s3.trans s4)
    walk_at "nx"
    refine ⟨⟨_, SqL.of (S4 _ _ hb)⟩, lot_compN T (S4 _ _ hb) (hB.same S4) (by omega) fun D5 H5 hD5 s5 h5 => ?_⟩
    rw [eN] at h5
    have S5 := S4.trans s5
    walk_at "nx"
    refine ⟨⟨_, SqL.of (S5 _ _ hf)⟩, ?_⟩
    refine CompP.list (K := K) (xs := refsR ls) (fun σ => ∃ a, σ = [a, some (.ref D5)]) (fun _ => true) (fun v => .int (ixI (ds.map LotD.n) (numH H5 v))) (SqL.of (S5 _ _ hf)) ⟨_, rfl⟩ (by rw [refsR_len, sizeLine_eq]; omega) ?_ ?_
    · rintro x hx σ H6 R1 R2 ⟨_, rfl⟩ sm k1 k2
      obtain ⟨i, hi⟩ := List.mem_iff_getElem?.mp hx
      obtain ⟨l, hli, rfl⟩ := refsR_get hi
      obtain ⟨x, hqx, ex⟩ := hqi i l hli
      obtain ⟨dx, hdx⟩ := (hL l (get_mem hli)).same S5
      have hdx6 := sm _ _ hdx
      have h56 := sm _ _ h5
      have hxi := hix x (List.mem_of_getElem? hqx)
      rw [ex] at hxi
      have hin : l.2.n ∈ ds.map LotD.n := List.mem_of_getElem? hxi
      have hixn : ∀ j, j < x.1 → (ds.map LotD.n)[j]? ≠ some l.2.n := fun j hj e => by
        have hl1 : j < (ds.map LotD.n).length := (List.getElem?_eq_some_iff.mp e).1
        have := (List.getElem?_inj hl1 hu).mp (e.trans hxi.symm)
        omega
      have k1 := k1 rfl
      rw [numH_at hdx, ixI_at hu hxi] at k1
      walk_at "rdi"
      refine ⟨_, dx, _, hdx6, T.cl_Lot, T.n_Lot_number, _, by rfl, _, .inl (SqL.of h56), rfl, flat_ints _, ?_⟩
      rw [inV_ints, if_pos (decide_eq_true hin)]
      exact ⟨.inl ⟨rfl, _, SqL.of h56⟩, _, dx, _, hdx6, T.cl_Lot, T.n_Lot_number, _, by rfl, D5, ds.map LotD.n, l.2.n, x.1, rfl, rfl, h56, hxi, hixn, k1 _ _ ⟨_, rfl⟩ (Same.refl _)⟩
    · intro D6 H6 hD6 s6 h6
      have S6 := S5.trans s6
      have epl : (refsR ls).map (fun v => V.int (ixI (ds.map LotD.n) (numH H5 v))) = (qs.map fun x => (x.1 : Int)).map V.int := by
        refine List.ext_getElem (by rw [List.length_map, refsR_len, List.length_map, List.length_map, hql]) fun i h1 h2 => ?_
        have hi : i < ls.length := by rw [List.length_map, refsR_len] at h1; exact h1
        obtain ⟨x, hqx, ex⟩ := hqi i ls[i] (List.getElem?_eq_getElem hi)
        obtain ⟨dx, hdx⟩ := (hL ls[i] (List.getElem_mem hi)).same S5
        have hxi := hix x (List.mem_of_getElem? hqx)
        rw [ex] at hxi
        obtain ⟨hq', eq'⟩ := List.getElem?_eq_some_iff.mp hqx
        simp only [List.getElem_map, refsR]
        rw [numH_at hdx, ixI_at hu hxi, eq']
      rw [filt_true, epl] at h6
      obtain ⟨pl, epl2⟩ : ∃ pl, (qs.map fun x => (x.1 : Int)) = pl := ⟨_, rfl⟩
      have hpll : pl.length = ls.length := by rw [← epl2, List.length_map, hql]
      have hplr : pl.Pairwise fun x y => x < y := by
        rw [← epl2]
        exact List.pairwise_map.mpr (q2.imp fun {x y} h => by omega)
      rw [epl2] at h6
      walk_at "nx"
      refine ⟨_, .inl (SqL.of h6), _, .inl (SqL.of (S6 _ _ hf)), ?_⟩
      rw [List.length_map, refsR_len, hpll, if_neg (fun z => z rfl)]
      refine ⟨_, SqL.of h6, by omega, fun pc ms hpc hms hmr _ => ?_⟩
      have n7 := Same.new (o := .lst (ms.map V.int)) hpc
      have ems : pl = ms := rise_eq hplr hmr fun x => (hms x).symm
      subst ems
      refine rNeD_ints (SqL.of (n7 _ _ h6)) (SqL.of upd_same) ⟨_, rfl, ?_⟩
      rw [if_neg (by simp)]
      have S7 := S6.trans n7
      have h67 := n7 _ _ h6
      generalize upd H6 pc (.lst (pl.map V.int)) = H7 at S7 h67
      rw [ap_seq, ap_for]
      walk_at "rdi"
      refine ⟨⟨_, SqL.of (S7 _ _ hf)⟩, ⟨_, SqL.of h67⟩, ?_⟩
      refine ForP.zip (K := K) (a := f) (b := D6) (xs := refsR ls) (ys := pl.map V.int) (fun i σ Hx => (∃ v6 v7, σ = [some (.ref b), some (.ref f), some (.int m), some (.int o), some (.ref D5), some (.ref D6), v6, v7]) ∧ Same H7 Hx) (by rw [refsR_len, List.length_map, hpll]) ⟨⟨_, _, rfl⟩, Same.refl _⟩ (fun i σ Hx _ ⟨_, s⟩ => ⟨(S7.trans s).seq (SqL.of hf), s.seq (SqL.of h67)⟩) ?_ ?_
      · rintro i x y σ H8 pz hx hy ⟨⟨v6, v7, rfl⟩, s8⟩ hpz
        obtain ⟨l, hli, rfl⟩ := refsR_get hx
        obtain ⟨z, rfl, hz⟩ := map_get hy
        obtain ⟨x, hqx, ex⟩ := hqi i l hli
        rw [← epl2, List.getElem?_map, hqx] at hz
        obtain rfl := Option.some.inj hz
        obtain ⟨hxi, d, hd, en, es, ep, ec⟩ := q3 x (List.mem_of_getElem? hqx)
        have n9 := Same.new (o := .tup [V.ref l.1, V.int x.1]) hpz
        have S9 := (S7.trans s8).trans n9
        have s79 := s8.trans n9
        have h9t : (upd H8 pz (.tup [V.ref l.1, V.int x.1])) pz = some (.tup [V.ref l.1, V.int x.1]) := upd_same
        generalize upd H8 pz (.tup [V.ref l.1, V.int x.1]) = H9 at S9 h9t s79
        obtain ⟨dx, hdx⟩ := (hL l (get_mem hli)).same S9
        have hxb : x.1 < bs.length := hxi
        obtain ⟨dy, hdy⟩ := (hB bs[x.1] (List.getElem_mem hxb)).same S9
        have hbd : bs[x.1].2 = d := by
          have : ds[x.1]? = some bs[x.1].2 := by rw [← eds, List.getElem?_map, List.getElem?_eq_getElem hxb]; rfl
          rw [this] at hd
          exact Option.some.inj hd
        have hat : atI (refsR bs) (x.1 : Int) = some (.ref bs[x.1].1) := atI_nat (by unfold refsR; rw [List.getElem?_map, List.getElem?_eq_getElem hxb]; rfl)
        have hl1 := hp1 l (get_mem hli)
        walk_at "rdi"
        refine ⟨_, SqT.of h9t, rfl, _, _, rfl, _, _, rfl, rfl, ?_⟩
        walk_at "rda"
        refine ⟨_, dx, _, hdx, T.cl_Lot, T.n_Lot_pieces, _, by rfl, _, rfl, ?_⟩
        rw [if_neg (by omega)]
        refine ⟨_, dx, _, hdx, T.cl_Lot, T.n_Lot_pieces, _, by rfl, _, rfl, _, rfl, ?_⟩
        rw [if_neg (by decide)]
        refine ⟨_, dx, _, hdx, T.cl_Lot, T.n_Lot_since, _, by rfl, _, S9.seq (SqL.of hb), _, hat, ?_⟩
        refine ⟨_, rfl, _, dy, _, hdy, T.cl_Lot, T.n_Lot_since, _, by rfl, rfl, ?_⟩
        rw [if_neg]
        · exact s79
        · rw [hbd, ← es, ex]
          exact fun z => z rfl
      · rintro σ H8 ⟨⟨v6, v7, rfl⟩, s8⟩
        walk_at "rda"
        exact k H8 (S7.trans s8)
end
end My
namespace My
open PySem L2 PyProof.Rows
section
variable {P : Program} {w : World} {K : PySem.W.Frag} {mg : Str → Option Value} {base : Heap} {A : Adr} {D : Fds}
theorem st_p1 {m o : Int} {ds : List LotD} (hM : Mo m o) (hp : ∀ d ∈ ds, 0 ≤ d.p) : ∀ i, ∀ d ∈ (stI m o ds i).1, 1 ≤ d.p
  | 0, d, h => (List.not_mem_nil h).elim
  | i + 1, d, h => by
    have ih := st_p1 (m := m) (o := o) hM hp i
    cases e : ds[i]? with
    | none => rw [stI, e] at h; exact ih d h
    | some x =>
      rw [stI_succ e] at h
      have hpi : (ds.map LotD.p)[i]? = some x.p := by rw [List.getElem?_map, e]; rfl
      have h0 := cnt_pos hM (hp x (List.mem_of_getElem? e)) hpi
      unfold stp at h
      split at h
      · exact ih d h
      · rcases List.mem_append.mp h with h | h
        · exact ih d h
        · obtain rfl := List.mem_singleton.mp h
          show 1 ≤ cntI m o (ds.map LotD.p) i
          omega
theorem fin_p1 {st : List LotD × Int} (h : ∀ d ∈ st.1, 1 ≤ d.p) : ∀ d ∈ finS st, 1 ≤ d.p := fun d hd => by
  obtain ⟨l, g⟩ := st
  by_cases h0 : l = []
  · subst h0
    exact (List.not_mem_nil hd).elim
  · have e : l.dropLast ++ [l.getLast h0] = l := List.dropLast_concat_getLast _
    rw [← e, finS_snoc] at hd
    rcases List.mem_append.mp hd with hd | hd
    · exact h d (List.dropLast_subset _ hd)
    · obtain rfl := List.mem_singleton.mp hd
      exact h (l.getLast h0) (List.getLast_mem h0)
structure GdL (rs : RL) : Prop where
  l : rs.length ≤ 50
  u : (rs.map (·.2.n)).Nodup
  p : ∀ r ∈ rs, 1 ≤ r.2.p
  c : ∀ r ∈ rs, 0 ≤ r.2.c
theorem GdL.split {m o : Int} {bs ls : RL} (h : GdL bs) (hM : Mo m o) (hne : (stI m o (bs.map (·.2)) bs.length).1 ≠ []) (he : ls.map (·.2) = finS (stI m o (bs.map (·.2)) bs.length)) : GdL ls ∧ SpOk m o (bs.map (·.2)) bs.length (ls.map (·.2)) 0 := by
  have hc : ∀ d ∈ bs.map (·.2), 0 ≤ d.c := fun d hd => by
    obtain ⟨r, hr, rfl⟩ := List.mem_map.mp hd
    exact h.c r hr
  have hp : ∀ d ∈ bs.map (·.2), 0 ≤ d.p := fun d hd => by
    obtain ⟨r, hr, rfl⟩ := List.mem_map.mp hd
    have := h.p r hr
    omega
  have hsp := (spOk (m := m) (o := o) hc bs.length (by rw [List.length_map]; exact Nat.le_refl _)).fin hne
  have he' : ls.map (·.2) = finS ((stI m o (bs.map (·.2)) bs.length).1, (stI m o (bs.map (·.2)) bs.length).2) := he
  rw [← he'] at hsp
  have hln : ls.length ≤ bs.length := by
    have e1 := congrArg List.length he
    have e2 := finS_len (stI m o (bs.map (·.2)) bs.length)
    have e3 := stI_len (m := m) (o := o) (ds := bs.map (·.2)) bs.length
    rw [List.length_map] at e1
    omega
  obtain ⟨qs, q1, q2, q3⟩ := hsp.q
  refine ⟨⟨Nat.le_trans hln h.l, ?_, fun r hr => ?_, fun r hr => ?_⟩, hsp⟩
  · have e : ls.map (·.2.n) = qs.map (·.2.n) := by
      have : ls.map (·.2.n) = (ls.map (·.2)).map LotD.n := by rw [List.map_map]; rfl
      rw [this, ← q1, List.map_map]
      rfl
    rw [e]
    refine List.pairwise_map.mpr (List.Pairwise.imp_of_mem (fun {a b} ha hb hab z => ?_) q2)
    obtain ⟨i1, d1, g1, n1, _⟩ := q3 a ha
    obtain ⟨i2, d2, g2, n2, _⟩ := q3 b hb
    have u1 : (bs.map (·.2.n))[a.1]? = some a.2.n := by
      rw [List.getElem?_map] at g1 ⊢
      cases ea : bs[a.1]? with
      | none => rw [ea] at g1; cases g1
      | some x => rw [ea] at g1; cases g1; rw [n1]; rfl
    have u2 : (bs.map (·.2.n))[b.1]? = some b.2.n := by
      rw [List.getElem?_map] at g2 ⊢
      cases ea : bs[b.1]? with
      | none => rw [ea] at g2; cases g2
      | some x => rw [ea] at g2; cases g2; rw [n2]; rfl
    have hl1 : a.1 < (bs.map (·.2.n)).length := (List.getElem?_eq_some_iff.mp u1).1
    have : a.1 = b.1 := (List.getElem?_inj hl1 h.u).mp (u1.trans ((congrArg some z).trans u2.symm))
    omega
  · exact fin_p1 (st_p1 hM hp _) r.2 (by rw [← he]; exact List.mem_map.mpr ⟨r, hr, rfl⟩)
  · have hm : r.2 ∈ qs.map (·.2) := by rw [q1]; exact List.mem_map.mpr ⟨r, hr, rfl⟩
    obtain ⟨x, hx, ex⟩ := List.mem_map.mp hm
    obtain ⟨_, d, g, _, _, _, g2⟩ := q3 x hx
    have := hc d (List.mem_of_getElem? g)
    rw [ex] at g2
    omega
abbrev LL := List (Addr × RL)
def refsL (ls : LL) : List V := ls.map fun r => V.ref r.1
structure Ln (A : Adr) (B H : Hp) (pl pk : Addr) (Ls Ks : LL) : Prop where
  s : Same B H
  l : H pl = some (.lst (refsL Ls))
  k : H pk = some (.lst (refsL Ks))
  lo : ∀ e ∈ Ls, (H e.1 = some (.lst (refsR e.2)) ∧ e.1 ≠ pl ∧ e.1 ≠ pk) ∧ LotAt A H e.2 ∧ GdL e.2
  ko : ∀ e ∈ Ks, (H e.1 = some (.lst (refsR e.2)) ∧ e.1 ≠ pl ∧ e.1 ≠ pk) ∧ RowAt H e.2
  e : Ls.map (fun e => e.2.map (·.2)) = Ks.map (fun e => e.2.map (·.2))
  ne : Ls ≠ []
theorem Ln.same {B H H' : Hp} {pl pk : Addr} {Ls Ks : LL} (h : Ln A B H pl pk Ls Ks) (s : Same H H') : Ln A B H' pl pk Ls Ks :=
  ⟨h.s.trans s, s _ _ h.l, s _ _ h.k, fun e he => ⟨⟨s _ _ (h.lo e he).1.1, (h.lo e he).1.2⟩, (h.lo e he).2.1.same s, (h.lo e he).2.2⟩, fun e he => ⟨⟨s _ _ (h.ko e he).1.1, (h.ko e he).1.2⟩, (h.ko e he).2.same s⟩, h.e, h.ne⟩
theorem LotAt.put {H : Hp} {ls : RL} {l : Addr} {xs : List V} {o : HO} (h : LotAt A H ls) (hl : H l = some (.lst xs)) : LotAt A (upd H l o) ls := fun r hr => by
  obtain ⟨dx, e⟩ := h r hr
  exact ⟨dx, (upd_ne fun z => by rw [z, hl] at e; cases e).trans e⟩
theorem RowAt.put {H : Hp} {rs : RL} {l : Addr} {xs : List V} {o : HO} (h : RowAt H rs) (hl : H l = some (.lst xs)) : RowAt (upd H l o) rs := fun r hr => by
  have e := h r hr
  exact (upd_ne fun z => by rw [z, hl] at e; cases e).trans e
end
end My
namespace My
open PySem L2 PyProof.Rows
section
variable {P : Program} {w : World} {K : PySem.W.Frag} {mg : Str → Option Value} {base : Heap} {A : Adr} {D : Fds}
local macro_rules | `(tactic| walk_at "nx") => `(tactic| ((try dsimp only); rw [ap_seq]; walk_at "rdi"))
def sp_law (K : PySem.W.Frag) (Pt : Addr) : Sp := fun vs H Q _ => ∃ (a : Addr) (ns : List Int), vs = [.ref a] ∧ SqL K H a (ns.map V.int) ∧ ns.length ≤ 63 ∧ H Pt = some (.tbl #[]) ∧ ∀ H', Q (.bl true) H'
theorem ok_law (T : Txt K mg A D) (hB : base.BuiltinsAt mg A.PT) : FnOk P w K mg base CX0 5 A.law D.law ["_law_script"] (sp_law K A.PT) := by
  refine T.F_law.ok sc_law (fun vs H Q E h => ?_) (fun cdv A' outer s0 H vs Q E hr h => ?_)
  · obtain ⟨a, ns, rfl, _⟩ := h; rfl
  · obtain ⟨a, ns, rfl, hS, hl, hPt, k⟩ := h
    refine ⟨_, (pss_cons (ps_set (i := 1) sc_law.nd rfl (Or.inl rfl) (pe_call (ok__law_chunks (K := K) T) (hr.mono (by decide)) (by rfl) T.m__law_chunks T.k__law_chunks (b__law_chunks T) .nil pass0 (pa_cons (pv 0) (pa_cons pe_int pa_nil))))
      (pss_cons (ps_set (i := 2) sc_law.nd rfl (Or.inl rfl) (pe_call (ok__law_row (K := K) T hB) (hr.mono (by decide)) (by rfl) T.m__law_row T.k__law_row (b__law_row T) .nil pass0 (pa_cons (pe_slice (sl_listK (K := K)) (pv 1) (po_some pe_int) (po_some (pe_op op_add pe_int (pe_op op_mod (pe_ix (ix_listK (K := K)) (pv 1) pe_int (fun _ _ => rfl)) pe_int)))) pa_nil)))
      (pss_cons (ps_set (i := 3) sc_law.nd rfl (Or.inl rfl) (pe_op op_fdivB (pe_ix (ix_listK (K := K)) (pv 1) pe_int (fun _ _ => rfl)) pe_int))
      (pss_cons (ps_set (i := 4) sc_law.nd rfl (Or.inl rfl) (pe_lst (pa_cons (pe_call (ok__law_lots (K := K) T) (hr.mono (by decide)) (by rfl) T.m__law_lots T.k__law_lots (b__law_lots T) .nil pass0 (pa_cons (pv 2) pa_nil)) pa_nil)))
      (pss_cons (ps_set (i := 5) sc_law.nd rfl (Or.inl rfl) (pe_lst (pa_cons (pe_callTy (call_listK (K := K)) (by rfl) T.b_list (by decide +kernel) (pa_cons (pv 2) pa_nil)) pa_nil)))
      (pss_cons (ps_for PassesOwn.never rfl (pi_range1 (by rfl) T.b_range (pa_cons pe_int pa_nil)) (pg_name (i := 6) sc_law.nd rfl (Or.inl rfl))
        (pss_cons (ps_set (i := 7) sc_law.nd rfl (Or.inl rfl) (pe_op op_add pe_int (pe_call (ok__law_small (K := K) T) (hr.mono (by decide)) (by rfl) T.m__law_small T.k__law_small (b__law_small T) .nil pass0 (pa_cons (pv 3) (pa_cons pe_int pa_nil)))))
        (pss_cons (ps_set (i := 8) sc_law.nd rfl (Or.inl rfl) (pe_op op_add pe_int (pe_call (ok__law_small (K := K) T) (hr.mono (by decide)) (by rfl) T.m__law_small T.k__law_small (b__law_small T) .nil pass0 (pa_cons (pe_op op_fdivB (pv 3) pe_int) (pa_cons pe_int pa_nil)))))
        (pss_cons (ps_set (i := 3) sc_law.nd rfl (Or.inl rfl) (pe_op op_fdivB (pv 3) pe_int))
        (pss_cons (ps_set (i := 9) sc_law.nd rfl (Or.inl rfl) (pe_ix (ix_listK (K := K)) (pv 4) (pe_un un_neg pe_int) (fun _ _ => rfl)))
        (pss_one (ps_if (pt_cmpR (op_gt) (pe_op op_fdivB (pe_op op_mulU (pe_call (ok_pieces_in (K := K) T) (hr.mono (by decide)) (by rfl) T.m_pieces_in T.k_pieces_in (b_pieces_in T) .nil pass0 (pa_cons (pv 9) pa_nil)) (pv 7)) (pv 8)) pe_int (nomark _)) (pss_cons (ps_set (i := 10) sc_law.nd rfl (Or.inl rfl) (pe_call (ok_row_split (K := K) T) (hr.mono (by decide)) (by rfl) T.m_row_split T.k_row_split (b_row_split T) .nil pass1 (pa_cons (pv 9) (pa_cons (pv 7) (pa_cons (pv 8) pa_nil)))))
          (pss_cons (ps_if (pt_not (pt_val (pe_call (ok__law_step_good (K := K) T) (hr.mono (by decide)) (by rfl) T.m__law_step_good T.k__law_step_good (b__law_step_good T) .nil pass0 (pa_cons (pv 9) (pa_cons (pv 10) (pa_cons (pv 7) (pa_cons (pv 8) pa_nil))))))) (pss_one (ps_ret pe_bl)) pss_nil)
          (pss_cons (ps_expr (pe_bmK (K := K) PySem.F.plainAttrs_list PySem.F.slot_list_append PySem.F.type_list_append mt_append (pv 4) (pa_cons (pv 10) pa_nil)))
          (pss_one (ps_expr (pe_bmK (K := K) PySem.F.plainAttrs_list PySem.F.slot_list_append PySem.F.type_list_append mt_append (pv 5) (pa_cons (pe_comp (cap := [Option.none]) (N' := ["_law_lot"]) rfl (by walk_at "compok") (pi_listK (K := K) (pv 10)) (fun _ _ _ _ => (pg_name (i := 0) (show (["_law_lot"] : List Str).Nodup from by decide +kernel) rfl (Or.inl rfl) (Or.inr rfl))) (fun _ _ _ _ => pts_nil) (fun _ _ _ _ => (pe_methD0 (pv 0) (.cons T.cl_Lot T.me_Lot_told (ok_Lot_told (K := K) T) (hr.mono (by decide)) (b_Lot_told T) .nil) pass0))) pa_nil))))))) pss_nil)))))))
      (pss_cons (ps_for PassesOwn.never rfl (pi_zip (K := K) (by rfl) T.b_zip (pa_cons (pv 4) (pa_cons (pv 5) pa_nil))) (pg_tupK (K := K) (n := 2) rfl (pgs_cons (pg_name (i := 11) sc_law.nd rfl (Or.inl rfl)) (pgs_cons (pg_name (i := 12) sc_law.nd rfl (Or.inl rfl)) pgs_nil)))
        (pss_one (ps_if (pt_not (pt_val (pe_call (ok__law_is_row (K := K) T) (hr.mono (by decide)) (by rfl) T.m__law_is_row T.k__law_is_row (b__law_is_row T) .nil pass0 (pa_cons (pv 11) (pa_cons (pv 12) pa_nil))))) (pss_one (ps_ret pe_bl)) pss_nil)))
      (pss_cons (ps_if (pt_cmpR (op_eqRK (K := K) hr) (pv 2) (pe_lst pa_nil) (nomark _)) (pss_one (ps_ret (pe_cmpR (op_eqRK (K := K) hr) (pe_call (ok_row_split (K := K) T) (hr.mono (by decide)) (by rfl) T.m_row_split T.k_row_split (b_row_split T) .nil pass1 (pa_cons (pe_lst pa_nil) (pa_cons (pe_op op_add pe_int (pe_op op_mod (pv 3) pe_int)) (pa_cons pe_int pa_nil)))) (pe_lst pa_nil) (nomark _)))) pss_nil)
      (pss_cons (ps_asg (pe_ix (ix_listK (K := K)) (pv 2) pe_int (fun _ _ => rfl)) (pg_tupK (K := K) (n := 4) rfl (pgs_cons (pg_name (i := 13) sc_law.nd rfl (Or.inl rfl)) (pgs_cons (pg_name (i := 14) sc_law.nd rfl (Or.inl rfl)) (pgs_cons (pg_name (i := 15) sc_law.nd rfl (Or.inl rfl)) (pgs_cons (pg_name (i := 16) sc_law.nd rfl (Or.inl rfl)) pgs_nil))))))
      (pss_cons (ps_set (i := 7) sc_law.nd rfl (Or.inl rfl) (pe_op op_add pe_int (pe_op op_mod (pv 3) pe_int)))
      (pss_cons (ps_set (i := 17) sc_law.nd rfl (Or.inl rfl) (pe_call (ok_row_split (K := K) T) (hr.mono (by decide)) (by rfl) T.m_row_split T.k_row_split (b_row_split T) .nil pass1 (pa_cons (pe_call (ok__law_lots (K := K) T) (hr.mono (by decide)) (by rfl) T.m__law_lots T.k__law_lots (b__law_lots T) .nil pass0 (pa_cons (pe_slice (sl_listK (K := K)) (pv 2) po_none (po_some pe_int)) pa_nil)) (pa_cons (pv 7) (pa_cons pe_int pa_nil)))))
      (pss_one (ps_ret (pe_call (ok__law_is_row (K := K) T) (hr.mono (by decide)) (by rfl) T.m__law_is_row T.k__law_is_row (b__law_is_row T) .nil pass0 (pa_cons (pv 17) (pa_cons (pe_lst (pa_cons (pe_tup (pa_cons (pv 13) (pa_cons (pv 14) (pa_cons (pe_op op_mulU (pv 15) (pv 7)) (pa_cons (pv 16) pa_nil))))) pa_nil)) pa_nil)))))))))))))))), ?_⟩
    simp only [start_eq]
    walk_at "nx"
    refine ⟨a, ns, rfl, hS, hl, fun c xs H1 s1 hcn hc hxl => ?_⟩
    walk_at "nx"
    obtain ⟨hd, tl, rfl⟩ : ∃ hd tl, xs = hd :: tl := by
      cases xs with
      | nil => simp at hxl
      | cons x y => exact ⟨x, y, rfl⟩
    have hP1 := s1 _ _ hPt
    obtain ⟨ys, ey, hyl⟩ := cutV_ints (hd :: tl) (some 1) (some (1 + hd % 25))
    refine ⟨_, SqL.of hc, .int hd, atI_nat (j := 0) rfl, _, rfl, by decide, _, SqL.of hc, fun b hbn => ?_⟩
    have hb2 : (upd H1 b (.lst (cutV ((hd :: tl).map V.int) (some 1) (some (1 + hd % 25))))) b = some (.lst (ys.map V.int)) := by rw [upd_same, ey]
    have n2 := Same.new (o := .lst (cutV ((hd :: tl).map V.int) (some 1) (some (1 + hd % 25)))) hbn
    have hP2 := n2 _ _ hP1
    have hc2 := n2 _ _ hc
    have hcP : c ≠ A.PT := fun e => by rw [e, hP1] at hc; cases hc
    generalize upd H1 b (.lst (cutV ((hd :: tl).map V.int) (some 1) (some (1 + hd % 25)))) = H2 at hb2 hP2 hc2
    refine ⟨b, ys, rfl, SqL.of hb2, by omega, hP2, fun p rs H3 sX _ hp hR hg hrl hnd _ => ?_⟩
    have hc3 := sX _ _ hcP hc2
    walk_at "nx"
    refine ⟨_, SqL.of hc3, .int hd, atI_nat (j := 0) rfl, _, rfl, ⟨by decide, by decide⟩, ?_⟩
    generalize hd / 25 = nu
    have hrl2 : rs.length ≤ 25 := by omega
    walk_at "nx"
    refine ⟨p, rs, rfl, SqL.of hp, hR, by omega, fun q ls H4 s4 hqn hq he hL => ⟨by rw [sizeLine_eq]; decide, fun pl hpl => ?_⟩⟩
    have n5 := Same.new (o := .lst [V.ref q]) hpl
    have h5l : (upd H4 pl (.lst [V.ref q])) pl = some (.lst [V.ref q]) := upd_same
    have hq5 := n5 _ _ hq
    have hL5 := hL.same n5
    have S5 := s4.trans n5
    have hqpl : q ≠ pl := ne_of_none hq hpl
    have hplB := s4.free hpl
    generalize upd H4 pl (.lst [V.ref q]) = H5 at h5l hq5 hL5 S5
    walk_at "nx"
    refine ⟨_, .inl (SqL.of (S5 _ _ hp)), fun q2 hq2 => ⟨by rw [sizeLine_eq]; decide, fun pk hpk => ?_⟩⟩
    have n6 := Same.new (o := .lst (refsR rs)) hq2
    have n7 := Same.new (o := .lst [V.ref q2]) hpk
    have h7k : (upd (upd H5 q2 (.lst (refsR rs))) pk (.lst [V.ref q2])) pk = some (.lst [V.ref q2]) := upd_same
    have h6q : (upd H5 q2 (.lst (refsR rs))) q2 = some (.lst (refsR rs)) := upd_same
    have h7q := n7 _ _ h6q
    have S7 := S5.trans (n6.trans n7)
    have h7l := n7 _ _ (n6 _ _ h5l)
    have e1 : q2 ≠ pl := (ne_of_none h5l hq2).symm
    have e2 : q2 ≠ pk := ne_of_none h6q hpk
    have e3 : q ≠ pk := ne_of_none (n6 _ _ hq5) hpk
    have hplpk : pl ≠ pk := ne_of_none (n6 _ _ h5l) hpk
    have hpkB := (S5.trans n6).free hpk
    have hq7 := n7 _ _ (n6 _ _ hq5)
    have hL7 := (hL5.same n6).same n7
    generalize upd (upd H5 q2 (.lst (refsR rs))) pk (.lst [V.ref q2]) = H7 at h7k h7q S7 h7l hq7 hL7
    have gd : ∀ ls : RL, ls.map (·.2) = rs.map (·.2) → GdL ls := fun ls he => by
      have e : ∀ r ∈ ls, ∃ r' ∈ rs, r.2 = r'.2 := fun r hr => by
        have : r.2 ∈ rs.map (·.2) := by rw [← he]; exact List.mem_map.mpr ⟨r, hr, rfl⟩
        obtain ⟨r', h1, h2⟩ := List.mem_map.mp this
        exact ⟨r', h1, h2.symm⟩
      refine ⟨?_, ?_, fun r hr => ?_, fun r hr => ?_⟩
      · have := congrArg List.length he
        simp only [List.length_map] at this
        omega
      · have e1 : ls.map (·.2.n) = (ls.map (·.2)).map LotD.n := by rw [List.map_map]; rfl
        rw [e1, he, List.map_map]
        exact hnd
      · obtain ⟨r', h1, h2⟩ := e r hr
        rw [h2]
        exact (hg r' h1).p.1
      · obtain ⟨r', h1, h2⟩ := e r hr
        rw [h2]
        exact (hg r' h1).c.1
    have L0 : Ln A H3 H7 pl pk [(q, ls)] [(q2, rs)] := by
      refine ⟨S7, h7l, h7k, fun e he' => ?_, fun e he' => ?_, ?_, by simp⟩
      · obtain rfl := List.mem_singleton.mp he'
        exact ⟨⟨hq7, hqpl, e3⟩, hL7, gd ls he⟩
      · obtain rfl := List.mem_singleton.mp he'
        exact ⟨⟨h7q, e1, e2⟩, hR.same S7⟩
      · show [ls.map (·.2)] = [rs.map (·.2)]
        rw [he]
    rw [ap_seq, ap_for]
    walk_at "rdi"
    refine ⟨by decide, by decide, ?_⟩
    rw [show Int.toNat 6 = 6 from rfl]
    refine ForP.range (lo := 0) (n := 6) (fun i σ H' => ∃ (Ls Ks : LL) (n' : Int) (v6 v7 v8 v9 v10 : Option V), σ = [some (.ref a), some (.ref c), some (.ref p), some (.int n'), some (.ref pl), some (.ref pk), v6, v7, v8, v9, v10, none, none, none, none, none, none, none] ∧ Ln A H3 H' pl pk Ls Ks ∧ Ls.length ≤ i + 1) ⟨_, _, _, _, _, _, _, _, rfl, L0, Nat.le_refl _⟩ ?_ ?_
    · rintro i σ H8 hi ⟨Ls, Ks, n', v6, v7, v8, v9, v10, rfl, L8, hLl⟩
      walk_at "rdi"
      walk_at "nx"
      refine ⟨_, _, rfl, by decide, fun m0 H9 hm0 hm1 s9 => ⟨_, rfl, ?_⟩⟩
      walk_at "nx"
      refine ⟨⟨by decide, by decide⟩, _, _, rfl, by decide, fun o0 H10 ho0 ho1 s10 => ⟨_, rfl, ?_⟩⟩
      walk_at "nx"
      refine ⟨⟨by decide, by decide⟩, ?_⟩
      obtain ⟨m, em⟩ : ∃ m, 1 + m0 = m := ⟨_, rfl⟩
      obtain ⟨o, eo⟩ : ∃ o, 1 + o0 = o := ⟨_, rfl⟩
      rw [em, eo]
      have hM : Mo m o := ⟨by omega, by omega⟩
      have L10 := (L8.same s9).same s10
      clear L8
      obtain ⟨Lt, e, rfl⟩ : ∃ Lt e, Ls = Lt ++ [e] := ⟨_, _, (List.dropLast_concat_getLast L10.ne).symm⟩
      obtain ⟨⟨he1, he2, he3⟩, heL, heG⟩ := L10.lo e (List.mem_append_right _ List.mem_cons_self)
      have hat : atI (refsL (Lt ++ [e])) (-1) = some (.ref e.1) := by
        unfold refsL
        rw [List.map_append]
        exact atI_last _ _
      walk_at "nx"
      refine ⟨_, SqL.of L10.l, _, hat, ?_⟩
      try dsimp only
      walk_at "rda"
      have hel := heG.l
      refine ⟨e.1, e.2, rfl, he1, heL, by omega, fun H11 s11 => ⟨_, rfl, hM.mul, hM.div, ?_⟩⟩
      have L11 := L10.same s11
      refine ite2 (fun hpos => ?_) fun _ => ?_
      · have hne : (stI m o (e.2.map (·.2)) e.2.length).1 ≠ [] := st_ne (fun d hd => by
          obtain ⟨r, hr, rfl⟩ := List.mem_map.mp hd
          exact heG.c r hr) (by rw [List.length_map]; exact Nat.le_refl _) (by
          rw [List.take_of_length_le (by rw [List.length_map, List.length_map]; exact Nat.le_refl _)]
          exact hpos)
        refine ⟨e.1, e.2, m, o, rfl, s11 _ _ he1, heL.same s11, by omega, hM, .inr ⟨.inr hne, fun l l' H12 s12 hln hl12 hL12 he12 => ?_⟩⟩
        obtain ⟨gl, gs⟩ := heG.split hM hne he12
        have gll := gl.l
        have S12 := s11.trans s12
        refine ⟨e.1, l, e.2, l', m, o, rfl, S12 _ _ he1, heL.same S12, hel, heG.u, hl12, hL12, gll, hM, gs, gl.p, fun H13 s13 => ⟨_, rfl, ?_⟩⟩
        rw [if_neg (by decide)]
        have L13 := (L11.same s12).same s13
        have hl13 := s13 _ _ hl12
        have hL13 := hL12.same s13
        have hlpl : l ≠ pl := (ne_of_none L11.l hln).symm
        have hlpk : l ≠ pk := (ne_of_none L11.k hln).symm
        have hLen : (refsL (Lt ++ [e])).length ≤ 7 := by unfold refsL; rw [List.length_map]; omega
        have hKen : (refsL Ks).length ≤ 7 := by
          have := congrArg List.length L13.e
          simp only [List.length_map] at this
          unfold refsL
          rw [List.length_map, ← this]
          omega
        refine ⟨.inl ⟨rfl, _, SqL.of L13.l⟩, _, L13.l, by rw [sizeLine_eq]; omega, ?_⟩
        have h14l : (upd H13 pl (.lst (refsL (Lt ++ [e]) ++ [V.ref l]))) pl = some (.lst (refsL (Lt ++ [e]) ++ [V.ref l])) := upd_same
        have keep14 : ∀ {x : Addr} {u : HO}, x ≠ pl → H13 x = some u → (upd H13 pl (.lst (refsL (Lt ++ [e]) ++ [V.ref l]))) x = some u := fun n h => (upd_ne n).trans h
        have S14 := L13.s.upd (o := .lst (refsL (Lt ++ [e]) ++ [V.ref l])) hplB
        have k14 := keep14 hplpk.symm L13.k
        have l14 := keep14 hlpl hl13
        have L14 := hL13.put (o := .lst (refsL (Lt ++ [e]) ++ [V.ref l])) L13.l
        have lo14 : ∀ x ∈ Lt ++ [e], (upd H13 pl (.lst (refsL (Lt ++ [e]) ++ [V.ref l]))) x.1 = some (.lst (refsR x.2)) ∧ LotAt A (upd H13 pl (.lst (refsL (Lt ++ [e]) ++ [V.ref l]))) x.2 := fun x hx => ⟨keep14 (L13.lo x hx).1.2.1 (L13.lo x hx).1.1, (L13.lo x hx).2.1.put L13.l⟩
        have ko14 : ∀ x ∈ Ks, (upd H13 pl (.lst (refsL (Lt ++ [e]) ++ [V.ref l]))) x.1 = some (.lst (refsR x.2)) ∧ RowAt (upd H13 pl (.lst (refsL (Lt ++ [e]) ++ [V.ref l]))) x.2 := fun x hx => ⟨keep14 (L13.ko x hx).1.2.1 (L13.ko x hx).1.1, (L13.ko x hx).2.put L13.l⟩
        generalize upd H13 pl (.lst (refsL (Lt ++ [e]) ++ [V.ref l])) = H14 at h14l S14 k14 l14 L14 lo14 ko14
        clear keep14
        refine ⟨.inl ⟨rfl, _, SqL.of k14⟩, l, rfl, ⟨_, SqL.of l14⟩, told_comp T l14 L14 (by omega) fun Dt H15 rt hDt s15 h15 hRt hert => ?_⟩
        have k15 := s15 _ _ k14
        refine ⟨_, k15, by rw [sizeLine_eq]; omega, Lt ++ [e] ++ [(l, l')], Ks ++ [(Dt, rt)], ?_, by rw [List.length_append]; show _ + 1 ≤ _; omega⟩
        have hDpl : Dt ≠ pl := (ne_of_none h14l hDt).symm
        have hDpk : Dt ≠ pk := (ne_of_none k14 hDt).symm
        have keep16 : ∀ {x : Addr} {u : HO}, x ≠ pk → H15 x = some u → (upd H15 pk (.lst (refsL Ks ++ [V.ref Dt]))) x = some u := fun n h => (upd_ne n).trans h
        refine ⟨(S14.trans s15).upd hpkB, ?_, ?_, fun x hx => ?_, fun x hx => ?_, ?_, by simp⟩
        · rw [keep16 hplpk (s15 _ _ h14l)]
          unfold refsL
          rw [List.map_append (l₂ := [(l, l')])]
          rfl
        · rw [upd_same]
          unfold refsL
          rw [List.map_append]
          rfl
        · rcases List.mem_append.mp hx with hx | hx
          · exact ⟨⟨keep16 (L13.lo x hx).1.2.2 (s15 _ _ (lo14 x hx).1), (L13.lo x hx).1.2⟩, ((lo14 x hx).2.same s15).put k15, (L13.lo x hx).2.2⟩
          · obtain rfl := List.mem_singleton.mp hx
            exact ⟨⟨keep16 hlpk (s15 _ _ l14), hlpl, hlpk⟩, (L14.same s15).put k15, gl⟩
        · rcases List.mem_append.mp hx with hx | hx
          · exact ⟨⟨keep16 (L13.ko x hx).1.2.2 (s15 _ _ (ko14 x hx).1), (L13.ko x hx).1.2⟩, ((ko14 x hx).2.same s15).put k15⟩
          · obtain rfl := List.mem_singleton.mp hx
            exact ⟨⟨keep16 hDpk h15, hDpl, hDpk⟩, hRt.put k15⟩
        · rw [List.map_append, L13.e, List.map_append]
          show _ ++ [l'.map (·.2)] = _ ++ [rt.map (·.2)]
          rw [hert]
      · exact ⟨_, _, L11, by omega⟩
    · rintro σ H8 ⟨Ls, Ks, n', v6, v7, v8, v9, v10, rfl, L8, hLl⟩
      have hlen : Ls.length = Ks.length := by
        have := congrArg List.length L8.e
        simpa using this
      try dsimp only
      rw [ap_seq, ap_for]
      walk_at "rdi"
      refine ⟨⟨_, SqL.of L8.l⟩, ⟨_, SqL.of L8.k⟩, ?_⟩
      refine ForP.zip (K := K) (a := pl) (b := pk) (xs := refsL Ls) (ys := refsL Ks) (fun i σ Hx => (∃ v11 v12, σ = [some (.ref a), some (.ref c), some (.ref p), some (.int n'), some (.ref pl), some (.ref pk), v6, v7, v8, v9, v10, v11, v12, none, none, none, none, none]) ∧ Same H8 Hx) (by unfold refsL; rw [List.length_map, List.length_map, hlen]) ⟨⟨_, _, rfl⟩, Same.refl _⟩ (fun i σ Hx _ ⟨_, s⟩ => ⟨s.seq (SqL.of L8.l), s.seq (SqL.of L8.k)⟩) ?_ ?_
      · rintro i x y σ H9 pz hx hy ⟨⟨v11, v12, rfl⟩, s9⟩ hpz
        have gx : ∃ e, Ls[i]? = some e ∧ x = .ref e.1 := by
          unfold refsL at hx
          rw [List.getElem?_map] at hx
          cases e : Ls[i]? with
          | none => rw [e] at hx; cases hx
          | some r => rw [e] at hx; exact ⟨r, rfl, (Option.some.inj hx).symm⟩
        have gy : ∃ e, Ks[i]? = some e ∧ y = .ref e.1 := by
          unfold refsL at hy
          rw [List.getElem?_map] at hy
          cases e : Ks[i]? with
          | none => rw [e] at hy; cases hy
          | some r => rw [e] at hy; exact ⟨r, rfl, (Option.some.inj hy).symm⟩
        obtain ⟨e, hei, rfl⟩ := gx
        obtain ⟨e', hei', rfl⟩ := gy
        have n10 := Same.new (o := .tup [V.ref e.1, V.ref e'.1]) hpz
        have L10 := (L8.same s9).same n10
        have s810 := s9.trans n10
        have ht : (upd H9 pz (.tup [V.ref e.1, V.ref e'.1])) pz = some (.tup [V.ref e.1, V.ref e'.1]) := upd_same
        generalize upd H9 pz (.tup [V.ref e.1, V.ref e'.1]) = H10 at L10 s810 ht
        obtain ⟨⟨a1, _⟩, a2, a3⟩ := L10.lo e (List.mem_of_getElem? hei)
        obtain ⟨⟨b1, _⟩, b2⟩ := L10.ko e' (List.mem_of_getElem? hei')
        have hee : e.2.map (·.2) = e'.2.map (·.2) := by
          have e1 : (Ls.map fun e => e.2.map (·.2))[i]? = some (e.2.map (·.2)) := by rw [List.getElem?_map, hei]; rfl
          have e2 : (Ks.map fun e => e.2.map (·.2))[i]? = some (e'.2.map (·.2)) := by rw [List.getElem?_map, hei']; rfl
          rw [L8.e, e2] at e1
          exact (Option.some.inj e1).symm
        have := a3.l
        walk_at "rdi"
        refine ⟨_, SqT.of ht, rfl, _, _, rfl, _, _, rfl, rfl, ?_⟩
        refine ⟨e.1, e'.1, e.2, e'.2, rfl, a1, b1, a2, b2, hee, by omega, fun H11 s11 => ⟨_, rfl, ?_⟩⟩
        rw [if_neg (by decide)]
        exact s810.trans s11
      · rintro σ H9 ⟨⟨v11, v12, rfl⟩, s9⟩
        have S9 := L8.s.trans s9
        have hp9 := S9 _ _ hp
        have hR9 := hR.same S9
        try dsimp only
        walk_at "rda"
        refine ⟨Nat.zero_le _, fun p1 hp1 => ?_⟩
        have n10 := Same.new (o := .lst []) hp1
        have hp10 := n10 _ _ hp9
        have hR10 := hR9.same n10
        refine ⟨_, SqL.of hp10, _, SqL.of upd_same, ?_⟩
        have hmod : 0 ≤ n' % 1000 ∧ n' % 1000 < 1000 := ⟨Int.emod_nonneg _ (by decide), Int.emod_lt_of_pos _ (by decide)⟩
        have hM : Mo (1 + n' % 1000) 1 := ⟨by omega, by decide⟩
        cases rs with
        | nil =>
          refine .inr ⟨rfl, fun v hv => (List.not_mem_nil hv).elim, Nat.zero_le _, fun p2 hp2 => ⟨by decide, p2, [], _, 1, rfl, upd_same, fun r hr => (List.not_mem_nil hr).elim, by decide, hM, .inr ⟨.inl rfl, fun l2 l2' G2 s2 hl2n hl2 _ he2 => ⟨Nat.zero_le _, fun b hb => ?_⟩⟩⟩⟩
          have e0 : l2' = [] := List.map_eq_nil_iff.mp he2
          subst e0
          exact ⟨l2, b, [], [], rfl, rfl, SqL.of (Same.new hb _ _ hl2), SqL.of upd_same, .inr ⟨rfl, fun v hv => (List.not_mem_nil hv).elim, k _⟩⟩
        | cons r0 rt =>
          have hr0 := hR10 r0 List.mem_cons_self
          refine .inl ⟨by simp [refsR], _, SqL.of hp10, .ref r0.1, atI_nat (j := 0) rfl, _, rfl, _, SqT.of hr0, rfl, _, _, rfl, _, _, rfl, _, _, rfl, _, _, rfl, rfl, by decide, _, SqL.of hp10, fun p3 hp3 => ?_⟩
          have ecut : cutV (refsR (r0 :: rt)) Option.none (some 1) = refsR [r0] := by
            rw [show (1 : Int) = ((1 : Nat) : Int) from rfl, cut_to]
            rfl
          rw [ecut]
          have n11 := Same.new (o := .lst (refsR [r0])) hp3
          refine ⟨p3, [r0], rfl, SqL.of upd_same, fun r hr => ?_, (by show 1 ≤ 100; decide), fun q' ls' H11 s11 hqn' hq' he' hL' => ?_⟩
          · obtain rfl := List.mem_singleton.mp hr
            exact n11 _ _ hr0
          have hr01 := hg r0 List.mem_cons_self
          generalize 1 + n' % 1000 = m at hM ⊢
          have hm1 := hM.a.1
          have edd : ls'.map (·.2) = [r0.2] := he'
          have ell : ls'.length = 1 := by simpa using congrArg List.length edd
          have est : stI m 1 (ls'.map (·.2)) ls'.length = ([setp (fun d => d.p * m) r0.2], 0) := by
            have := split_all (cnt_one (ds := [r0.2]) hm1 (fun d hd => by obtain rfl := List.mem_singleton.mp hd; exact hr01.p.1))
            rw [edd, ell]
            exact this
          refine ⟨q', ls', m, 1, rfl, hq', hL', by omega, hM, .inr ⟨.inr (by rw [est]; simp), fun l l' H12 s12 hln hl12 hL12 he12 => ?_⟩⟩
          rw [est, finS_zero] at he12
          refine ⟨_, rfl, hM.mul, by rw [sizeLine_eq]; decide, fun t ht => ⟨by rw [sizeLine_eq]; decide, fun pt hpt => ?_⟩⟩
          have n13 := Same.new (o := .tup [V.int r0.2.n, V.int r0.2.s, V.int (r0.2.p * m), V.int r0.2.c]) ht
          have n14 := Same.new (o := .lst [V.ref t]) hpt
          have s14 := n13.trans n14
          refine ⟨l, pt, l', [(t, setp (fun d => d.p * m) r0.2)], rfl, s14 _ _ hl12, upd_same, hL12.same s14, fun r hr => ?_, he12, ?_, fun H' _ => k H'⟩
          · obtain rfl := List.mem_singleton.mp hr
            exact n14 _ _ upd_same
          · have := congrArg List.length he12
            rw [List.length_map] at this
            rw [this]
            show 1 ≤ 100
            decide
end
end My
namespace My
open PySem L2 PyProof.Rows
theorem all_mk {l : PySem.W.OpenLaw} {w : World} {K : PySem.W.Frag} {h : Heap} {mg : Str → Option Value} {fa : Addr} (X : K.In h) (G : h.Ns mainGlobals mg) (hfa : mg "law" = some (.ref fa))
    {c0 : Addr}
    (u_Lot : PySem.W.nsIn K mainGlobals "Lot" = some (some (.ref c0)))
    {c1 : Addr}
    (u_NoPieces : PySem.W.nsIn K mainGlobals "NoPieces" = some (some (.ref c1)))
    {f0 : Addr} {od0 an0 : Option Addr} {sl0 : Array (Option Value)} {oc0 kV0 dc0 pm0 cd0 ct0 : Value}
    (a0 : PySem.W.nsIn K mainGlobals "_law_cell_at" = some (some (.ref f0)))
    (l0 : K.lookup f0 = some ⟨oc0, od0, .func (PySem.W.fnOf "_law_cell_at" "_law_cell_at" (defArgs s__law_cell_at) (defBody s__law_cell_at) (defScope s__law_cell_at) .none kV0 dc0 pm0 an0 cd0 ct0), sl0⟩)
    (d0 : PySem.W.codeIn K cd0 "_law_cell_at" = true)
    (k0 : PySem.W.keepIn K (.ref f0) = true)
    {f1 : Addr} {od1 an1 : Option Addr} {sl1 : Array (Option Value)} {oc1 kV1 dc1 pm1 cd1 ct1 : Value}
    (a1 : PySem.W.nsIn K mainGlobals "_law_mixed" = some (some (.ref f1)))
    (l1 : K.lookup f1 = some ⟨oc1, od1, .func (PySem.W.fnOf "_law_mixed" "_law_mixed" (defArgs s__law_mixed) (defBody s__law_mixed) (defScope s__law_mixed) .none kV1 dc1 pm1 an1 cd1 ct1), sl1⟩)
    (d1 : PySem.W.codeIn K cd1 "_law_mixed" = true)
    (k1 : PySem.W.keepIn K (.ref f1) = true)
    {f2 : Addr} {od2 an2 : Option Addr} {sl2 : Array (Option Value)} {oc2 kV2 dc2 pm2 cd2 ct2 : Value}
    (a2 : PySem.W.nsIn K mainGlobals "_law_chunks" = some (some (.ref f2)))
    (l2 : K.lookup f2 = some ⟨oc2, od2, .func (PySem.W.fnOf "_law_chunks" "_law_chunks" (defArgs s__law_chunks) (defBody s__law_chunks) (defScope s__law_chunks) .none kV2 dc2 pm2 an2 cd2 ct2), sl2⟩)
    (d2 : PySem.W.codeIn K cd2 "_law_chunks" = true)
    (k2 : PySem.W.keepIn K (.ref f2) = true)
    {f3 : Addr} {od3 an3 : Option Addr} {sl3 : Array (Option Value)} {oc3 kV3 dc3 pm3 cd3 ct3 : Value}
    (a3 : PySem.W.nsIn K mainGlobals "_law_small" = some (some (.ref f3)))
    (l3 : K.lookup f3 = some ⟨oc3, od3, .func (PySem.W.fnOf "_law_small" "_law_small" (defArgs s__law_small) (defBody s__law_small) (defScope s__law_small) .none kV3 dc3 pm3 an3 cd3 ct3), sl3⟩)
    (d3 : PySem.W.codeIn K cd3 "_law_small" = true)
    (k3 : PySem.W.keepIn K (.ref f3) = true)
    {f4 : Addr} {od4 an4 : Option Addr} {sl4 : Array (Option Value)} {oc4 kV4 dc4 pm4 cd4 ct4 : Value}
    (a4 : PySem.W.nsIn K mainGlobals "_law_row" = some (some (.ref f4)))
    (l4 : K.lookup f4 = some ⟨oc4, od4, .func (PySem.W.fnOf "_law_row" "_law_row" (defArgs s__law_row) (defBody s__law_row) (defScope s__law_row) .none kV4 dc4 pm4 an4 cd4 ct4), sl4⟩)
    (d4 : PySem.W.codeIn K cd4 "_law_row" = true)
    (k4 : PySem.W.keepIn K (.ref f4) = true)
    {f5 : Addr} {od5 an5 : Option Addr} {sl5 : Array (Option Value)} {oc5 kV5 dc5 pm5 cd5 ct5 : Value}
    (a5 : PySem.W.nsIn K mainGlobals "pieces_split" = some (some (.ref f5)))
    (l5 : K.lookup f5 = some ⟨oc5, od5, .func (PySem.W.fnOf "pieces_split" "pieces_split" (defArgs s_pieces_split) (defBody s_pieces_split) (defScope s_pieces_split) .none kV5 dc5 pm5 an5 cd5 ct5), sl5⟩)
    (d5 : PySem.W.codeIn K cd5 "pieces_split" = true)
    (k5 : PySem.W.keepIn K (.ref f5) = true)
    {f6 : Addr} {od6 an6 : Option Addr} {sl6 : Array (Option Value)} {oc6 kV6 dc6 pm6 cd6 ct6 : Value}
    (a6 : PySem.W.findIn K (.ref c0) "__init__" = some (some (.ref f6)))
    (l6 : K.lookup f6 = some ⟨oc6, od6, .func (PySem.W.fnOf "__init__" "Lot.__init__" (defArgs s_Lot___init__) (defBody s_Lot___init__) (defScope s_Lot___init__) .none kV6 dc6 pm6 an6 cd6 ct6), sl6⟩)
    (d6 : PySem.W.codeIn K cd6 "Lot.__init__" = true)
    (k6 : PySem.W.keepIn K (.ref f6) = true)
    {f7 : Addr} {od7 an7 : Option Addr} {sl7 : Array (Option Value)} {oc7 kV7 dc7 pm7 cd7 ct7 : Value}
    (a7 : PySem.W.findIn K (.ref c0) "with_more" = some (some (.ref f7)))
    (l7 : K.lookup f7 = some ⟨oc7, od7, .func (PySem.W.fnOf "with_more" "Lot.with_more" (defArgs s_Lot_with_more) (defBody s_Lot_with_more) (defScope s_Lot_with_more) .none kV7 dc7 pm7 an7 cd7 ct7), sl7⟩)
    (d7 : PySem.W.codeIn K cd7 "Lot.with_more" = true)
    (k7 : PySem.W.keepIn K (.ref f7) = true)
    {f8 : Addr} {od8 an8 : Option Addr} {sl8 : Array (Option Value)} {oc8 kV8 dc8 pm8 cd8 ct8 : Value}
    (a8 : PySem.W.nsIn K mainGlobals "row_split" = some (some (.ref f8)))
    (l8 : K.lookup f8 = some ⟨oc8, od8, .func (PySem.W.fnOf "row_split" "row_split" (defArgs s_row_split) (defBody s_row_split) (defScope s_row_split) .none kV8 dc8 pm8 an8 cd8 ct8), sl8⟩)
    (d8 : PySem.W.codeIn K cd8 "row_split" = true)
    (k8 : PySem.W.keepIn K (.ref f8) = true)
    {f9 : Addr} {od9 an9 : Option Addr} {sl9 : Array (Option Value)} {oc9 kV9 dc9 pm9 cd9 ct9 : Value}
    (a9 : PySem.W.findIn K (.ref c0) "told" = some (some (.ref f9)))
    (l9 : K.lookup f9 = some ⟨oc9, od9, .func (PySem.W.fnOf "told" "Lot.told" (defArgs s_Lot_told) (defBody s_Lot_told) (defScope s_Lot_told) .none kV9 dc9 pm9 an9 cd9 ct9), sl9⟩)
    (d9 : PySem.W.codeIn K cd9 "Lot.told" = true)
    (k9 : PySem.W.keepIn K (.ref f9) = true)
    {f10 : Addr} {od10 an10 : Option Addr} {sl10 : Array (Option Value)} {oc10 kV10 dc10 pm10 cd10 ct10 : Value}
    (a10 : PySem.W.nsIn K mainGlobals "_law_whole" = some (some (.ref f10)))
    (l10 : K.lookup f10 = some ⟨oc10, od10, .func (PySem.W.fnOf "_law_whole" "_law_whole" (defArgs s__law_whole) (defBody s__law_whole) (defScope s__law_whole) .none kV10 dc10 pm10 an10 cd10 ct10), sl10⟩)
    (d10 : PySem.W.codeIn K cd10 "_law_whole" = true)
    (k10 : PySem.W.keepIn K (.ref f10) = true)
    {f11 : Addr} {od11 an11 : Option Addr} {sl11 : Array (Option Value)} {oc11 kV11 dc11 pm11 cd11 ct11 : Value}
    (a11 : PySem.W.nsIn K mainGlobals "_law_is_row" = some (some (.ref f11)))
    (l11 : K.lookup f11 = some ⟨oc11, od11, .func (PySem.W.fnOf "_law_is_row" "_law_is_row" (defArgs s__law_is_row) (defBody s__law_is_row) (defScope s__law_is_row) .none kV11 dc11 pm11 an11 cd11 ct11), sl11⟩)
    (d11 : PySem.W.codeIn K cd11 "_law_is_row" = true)
    (k11 : PySem.W.keepIn K (.ref f11) = true)
    {f12 : Addr} {od12 an12 : Option Addr} {sl12 : Array (Option Value)} {oc12 kV12 dc12 pm12 cd12 ct12 : Value}
    (a12 : PySem.W.nsIn K mainGlobals "_law_lots" = some (some (.ref f12)))
    (l12 : K.lookup f12 = some ⟨oc12, od12, .func (PySem.W.fnOf "_law_lots" "_law_lots" (defArgs s__law_lots) (defBody s__law_lots) (defScope s__law_lots) .none kV12 dc12 pm12 an12 cd12 ct12), sl12⟩)
    (d12 : PySem.W.codeIn K cd12 "_law_lots" = true)
    (k12 : PySem.W.keepIn K (.ref f12) = true)
    {f13 : Addr} {od13 an13 : Option Addr} {sl13 : Array (Option Value)} {oc13 kV13 dc13 pm13 cd13 ct13 : Value}
    (a13 : PySem.W.nsIn K mainGlobals "cost_in" = some (some (.ref f13)))
    (l13 : K.lookup f13 = some ⟨oc13, od13, .func (PySem.W.fnOf "cost_in" "cost_in" (defArgs s_cost_in) (defBody s_cost_in) (defScope s_cost_in) .none kV13 dc13 pm13 an13 cd13 ct13), sl13⟩)
    (d13 : PySem.W.codeIn K cd13 "cost_in" = true)
    (k13 : PySem.W.keepIn K (.ref f13) = true)
    {f14 : Addr} {od14 an14 : Option Addr} {sl14 : Array (Option Value)} {oc14 kV14 dc14 pm14 cd14 ct14 : Value}
    (a14 : PySem.W.nsIn K mainGlobals "pieces_in" = some (some (.ref f14)))
    (l14 : K.lookup f14 = some ⟨oc14, od14, .func (PySem.W.fnOf "pieces_in" "pieces_in" (defArgs s_pieces_in) (defBody s_pieces_in) (defScope s_pieces_in) .none kV14 dc14 pm14 an14 cd14 ct14), sl14⟩)
    (d14 : PySem.W.codeIn K cd14 "pieces_in" = true)
    (k14 : PySem.W.keepIn K (.ref f14) = true)
    {f15 : Addr} {od15 an15 : Option Addr} {sl15 : Array (Option Value)} {oc15 kV15 dc15 pm15 cd15 ct15 : Value}
    (a15 : PySem.W.nsIn K mainGlobals "_law_step_good" = some (some (.ref f15)))
    (l15 : K.lookup f15 = some ⟨oc15, od15, .func (PySem.W.fnOf "_law_step_good" "_law_step_good" (defArgs s__law_step_good) (defBody s__law_step_good) (defScope s__law_step_good) .none kV15 dc15 pm15 an15 cd15 ct15), sl15⟩)
    (d15 : PySem.W.codeIn K cd15 "_law_step_good" = true)
    (k15 : PySem.W.keepIn K (.ref f15) = true)
    {f16 : Addr} {od16 an16 : Option Addr} {sl16 : Array (Option Value)} {oc16 kV16 dc16 pm16 cd16 ct16 : Value}
    (a16 : PySem.W.nsIn K mainGlobals "law" = some (some (.ref f16)))
    (l16 : K.lookup f16 = some ⟨oc16, od16, .func (PySem.W.fnOf "law" "law" (defArgs s_law) (defBody s_law) (defScope s_law) .none kV16 dc16 pm16 an16 cd16 ct16), sl16⟩)
    (d16 : PySem.W.codeIn K cd16 "law" = true)
    (k16 : PySem.W.keepIn K (.ref f16) = true)
    (z_len : PySem.W.nsIn K mainGlobals "len" = some none)
    (z_range : PySem.W.nsIn K mainGlobals "range" = some none)
    (z_max : PySem.W.nsIn K mainGlobals "max" = some none)
    (z_min : PySem.W.nsIn K mainGlobals "min" = some none)
    (z_sorted : PySem.W.nsIn K mainGlobals "sorted" = some none)
    (z_zip : PySem.W.nsIn K mainGlobals "zip" = some none)
    (z_isinstance : PySem.W.nsIn K mainGlobals "isinstance" = some none)
    (z_int : PySem.W.nsIn K mainGlobals "int" = some none)
    (z_bool : PySem.W.nsIn K mainGlobals "bool" = some none)
    (z_list : PySem.W.nsIn K mainGlobals "list" = some none)
    (z_all : PySem.W.nsIn K mainGlobals "all" = some none)
    (z_sum : PySem.W.nsIn K mainGlobals "sum" = some none)
    (z_set : PySem.W.nsIn K mainGlobals "set" = some none)
    (x_NoPieces : PySem.W.excIn K c1 [.type "ValueError", .type "Exception", .type "BaseException", .type "object"] "ValueError.__new__" = true)
    (ya_NoPieces : PySem.W.findIn K (.ref c1) "__class__" = some (some (.builtin "object.__class__")))
    (yb_NoPieces : PySem.W.findIn K (.ref c1) "__getattribute__" = some (some (.builtin "BaseException.__getattribute__")))
    (yc_NoPieces : PySem.W.findIn K (.ref c1) "__getattr__" = some none)
    (oc_n : PySem.W.specialIn K (.builtin "object.__class__") "__get__" = some (some (.builtin "getset_descriptor.__get__")))
    (oc_t : PySem.W.takesIn K (.builtin "object.__class__") = some true)
    (pg_Lot : PySem.W.plainGet K c0 Str.empty = true)
    (hd_Lot : PySem.W.hasDictIn K c0 = true)
    (po_Lot : PySem.W.plainOver K c0 = true)
    (sa_Lot : PySem.W.findIn K (.ref c0) "__setattr__" = some (some (.builtin "object.__setattr__")))
    (ha_Lot : PySem.W.findIn K (.ref c0) "__class__" = some (some (.builtin "object.__class__")))
    (hm_Lot : PySem.W.mroIn K c0 (.type "object") = some true)
    (n_Lot_number : PySem.W.findIn K (.ref c0) "number" = some none)
    (n_Lot_since : PySem.W.findIn K (.ref c0) "since" = some none)
    (n_Lot_pieces : PySem.W.findIn K (.ref c0) "pieces" = some none)
    (n_Lot_cost : PySem.W.findIn K (.ref c0) "cost" = some none)
    (mka_Lot : PySem.W.makesIn K c0 = true)
    (mkb_Lot : PySem.W.findIn K (.ref c0) "__init__" = some (some (.ref f6)))
    (mkc_Lot : PySem.W.isFn K (.ref f6) = true)
    (mkd_Lot : PySem.W.keepIn K (.ref c0) = true)
    (mea_Lot_with_more : PySem.W.findIn K (.ref c0) "with_more" = some (some (.ref f7)))
    (meb_Lot_with_more : PySem.W.isFn K (.ref f7) = true)
    (mea_Lot_told : PySem.W.findIn K (.ref c0) "told" = some (some (.ref f9)))
    (meb_Lot_told : PySem.W.isFn K (.ref f9) = true)
    {cT PT : Addr}
    (lamc : cd4 = .ref cT)
    (lamC : PySem.W.codeHdIn K cT PT = true)
    (w_ki_Lot : PySem.W.kitOne K (.ref c0) (.ref c0) = some true)
    : ∃ fd : FuncData, (∀ (s : Shared) (v : Value), BindsTo s fd ⟨[v], []⟩ [("_law_script", v)]) ∧ (∃ c, PySem.W.codeHdIn K c PT = true) ∧ ∀ base : Heap, K.In base → base.Ns mainGlobals mg → base.BuiltinsAt mg PT → FnOk l.prog w K mg base CX0 5 fa fd ["_law_script"] (sp_law K PT) := by
  have e := hfa.symm.trans (PySem.W.mg_of X G a16)
  cases e
  have T : Txt K mg ⟨f0, f1, f2, f3, f4, f5, f6, f7, f8, f9, f10, f11, f12, f13, f14, f15, fa, c0, c1, cT, PT⟩ ⟨_, _, _, _, _, _, _, _, _, _, _, _, _, _, _, _, _⟩ := ⟨PySem.W.mg_of X G a0, k0, fun_mk (st := s__law_cell_at) l0 d0 k0, PySem.W.mg_of X G a1, k1, fun_mk (st := s__law_mixed) l1 d1 k1, PySem.W.mg_of X G a2, k2, fun_mk (st := s__law_chunks) l2 d2 k2, PySem.W.mg_of X G a3, k3, fun_mk (st := s__law_small) l3 d3 k3, PySem.W.mg_of X G a4, k4, fun_mk (st := s__law_row) l4 d4 k4, PySem.W.mg_of X G a5, k5, fun_mk (st := s_pieces_split) l5 d5 k5, fun_mk (st := s_Lot___init__) l6 d6 k6, fun_mk (st := s_Lot_with_more) l7 d7 k7, PySem.W.mg_of X G a8, k8, fun_mk (st := s_row_split) l8 d8 k8, fun_mk (st := s_Lot_told) l9 d9 k9, PySem.W.mg_of X G a10, k10, fun_mk (st := s__law_whole) l10 d10 k10, PySem.W.mg_of X G a11, k11, fun_mk (st := s__law_is_row) l11 d11 k11, PySem.W.mg_of X G a12, k12, fun_mk (st := s__law_lots) l12 d12 k12, PySem.W.mg_of X G a13, k13, fun_mk (st := s_cost_in) l13 d13 k13, PySem.W.mg_of X G a14, k14, fun_mk (st := s_pieces_in) l14 d14 k14, PySem.W.mg_of X G a15, k15, fun_mk (st := s__law_step_good) l15 d15 k15, PySem.W.mg_of X G a16, k16, fun_mk (st := s_law) l16 d16 k16, PySem.W.mg_none_of X G z_len, PySem.W.mg_none_of X G z_range, PySem.W.mg_none_of X G z_max, PySem.W.mg_none_of X G z_min, PySem.W.mg_none_of X G z_sorted, PySem.W.mg_none_of X G z_zip, PySem.W.mg_none_of X G z_isinstance, PySem.W.mg_none_of X G z_int, PySem.W.mg_none_of X G z_bool, PySem.W.mg_none_of X G z_list, PySem.W.mg_none_of X G z_all, PySem.W.mg_none_of X G z_sum, PySem.W.mg_none_of X G z_set, PySem.W.mg_of X G u_Lot, PySem.W.mg_of X G u_NoPieces, ⟨x_NoPieces⟩, ⟨ya_NoPieces, yb_NoPieces, yc_NoPieces⟩, ⟨pg_Lot, hd_Lot, po_Lot, sa_Lot⟩, ⟨⟨pg_Lot, hd_Lot, po_Lot, sa_Lot⟩, ha_Lot, oc_n, oc_t, hm_Lot⟩, n_Lot_number, n_Lot_since, n_Lot_pieces, n_Lot_cost, ⟨mka_Lot, mkb_Lot, mkc_Lot, mkd_Lot⟩, ⟨mea_Lot_with_more, meb_Lot_with_more, k7⟩, ⟨mea_Lot_told, meb_Lot_told, k9⟩, lamc, lamC, w_ki_Lot⟩
  exact ⟨_, fun s v => .of_eq rfl, ⟨_, lamC⟩, fun base _ _ hB => ok_law T hB⟩
theorem walk {l : PySem.W.OpenLaw} {q : Program} {loose : List Str} {XP : (Str → Option Value) → Heap → Prop} {YP : World → Heap → Prop} {d : DefRec} {K : Params → PySem.W.Frag} {PT : Addr} (hn : l.most = some 63) (hdf : d.params.defaults = [])
    (hY : ∀ (w : World) (h : Heap), YP w h → (K w.params).In h ∧ h.get? PT = some (PySem.W.tabObj #[])) (hKT : ∀ w : World, (K w.params).lookup PT = none)
    (F : ∀ (w : World) (mg : Str → Option Value) (fa : Addr) (h : Heap), (K w.params).In h → h.Ns mainGlobals mg → mg d.name = some (.ref fa) →
      ∃ fd : FuncData, (∀ (s : Shared) (u : Value), BindsTo s fd ⟨[u], []⟩ [("_law_script", u)]) ∧ (∃ c, PySem.W.codeHdIn (K w.params) c PT = true) ∧ ∀ base : Heap, (K w.params).In base → base.Ns mainGlobals mg → base.BuiltinsAt mg PT → FnOk l.prog w (K w.params) mg base CX0 5 fa fd ["_law_script"] (sp_law (K w.params) PT)) :
    PySem.W.WalkO q loose XP YP l.row.toRowW d [] (fun f vs => PySem.call f vs) :=
  L2.walk_ofT (n := 63) (k := 5) (x := "_law_script") (CX := fun _ => CX0) (sp := fun w => sp_law (K w.params) PT) hn (by decide) hdf ⟨rfl, by decide, by decide⟩ hY hKT F (fun _ _ a ns hl hP hS => ⟨a, ns, rfl, hS, hl, hP, fun _ => rfl⟩) fun _ _ _ _ _ z => z
end My
def PySem.W.Fast.tw16496335176624501468 : Nat := 0
def PySem.W.Fast.tw2136537381193991373 : Nat := 0
def PySem.W.Fast.tw3413418682995892343 : Nat := 0
def PySem.W.Fast.tw10871463365470398301 : Nat := 0
def PySem.W.Fast.tw4457174877776249803 : Nat := 0
def PySem.W.Fast.tw16289110300778106762 : Nat := 0
def PySem.W.Fast.tw3834646444619133659 : Nat := 0
def PySem.W.Fast.tw10042933515573335665 : Nat := 0
def PySem.W.Fast.tw8505131321416242499 : Nat := 0
def PySem.W.Fast.tw5408172349023175770 : Nat := 0
def PySem.W.Fast.tw11591873555268870272 : Nat := 0
def PySem.W.Fast.tw17361785951073781554 : Nat := 0
def PySem.W.Fast.tw16677159302865236503 : Nat := 0
def PySem.W.Fast.tw89718566228000114 : Nat := 0
def PySem.W.Fast.tw3746311166579939657 : Nat := 0
def PySem.W.Fast.tw16125520678883767647 : Nat := 0
def PySem.W.Fast.tw23496945153232166 : Nat := 0
def PySem.W.Fast.tw3351220981656922996 : Nat := 0
def PySem.W.Fast.tw8497240346969414161 : Nat := 0
def PySem.W.Fast.tw159092199146316507 : Nat := 0
def PySem.W.Fast.tw6593210122950088566 : Nat := 0
def PySem.W.Fast.tw10651439850759599797 : Nat := 0
def PySem.W.Fast.tw940368905690416133 : Nat := 0
def PySem.W.Fast.tw2875527985672272211 : Nat := 0
def PySem.W.Fast.tw2070744504221392862 : Nat := 0
open PySem PySem.W PyProof.Rows
set_option maxRecDepth 100000 in
set_option maxHeartbeats 0 in
theorem PySem.Challenge.cw_lotledger_k43_split_and_joined_holds : PySem.Challenge.rw_lotledger_k43_split_and_joined.Holds := by
  w_on; o_law; k_head; (case hw => w_witness2)
  k_fill
  refine My.walk (l := PySem.Challenge.rw_lotledger_k43_split_and_joined) rfl rfl (fun w h Y => ⟨PySem.W.km_in_of Y, PySem.W.km_tabs_of Y _ List.mem_cons_self⟩) ?T ?F
  case T => intro w; kernel_rfl
  case F =>
    intro w mg fa h KX G hmg
    refine' My.all_mk KX G hmg ?u_Lot ?u_NoPieces ?a0 ?l0 ?d0 ?k0 ?a1 ?l1 ?d1 ?k1 ?a2 ?l2 ?d2 ?k2 ?a3 ?l3 ?d3 ?k3 ?a4 ?l4 ?d4 ?k4 ?a5 ?l5 ?d5 ?k5 ?a6 ?l6 ?d6 ?k6 ?a7 ?l7 ?d7 ?k7 ?a8 ?l8 ?d8 ?k8 ?a9 ?l9 ?d9 ?k9 ?a10 ?l10 ?d10 ?k10 ?a11 ?l11 ?d11 ?k11 ?a12 ?l12 ?d12 ?k12 ?a13 ?l13 ?d13 ?k13 ?a14 ?l14 ?d14 ?k14 ?a15 ?l15 ?d15 ?k15 ?a16 ?l16 ?d16 ?k16 ?z_len ?z_range ?z_max ?z_min ?z_sorted ?z_zip ?z_isinstance ?z_int ?z_bool ?z_list ?z_all ?z_sum ?z_set ?x_NoPieces ?ya_NoPieces ?yb_NoPieces ?yc_NoPieces ?oc_n ?oc_t ?pg_Lot ?hd_Lot ?po_Lot ?sa_Lot ?ha_Lot ?hm_Lot ?n_Lot_number ?n_Lot_since ?n_Lot_pieces ?n_Lot_cost ?mka_Lot ?mkb_Lot ?mkc_Lot ?mkd_Lot ?mea_Lot_with_more ?meb_Lot_with_more ?mea_Lot_told ?meb_Lot_told ?lamc ?lamC ?w_ki_Lot
    (case u_Lot => k_is)
    (case u_NoPieces => k_is)
    (case a0 => k_is)
    (case l0 => k_is)
    (case d0 => k_is)
    (case k0 => k_is)
    (case a1 => k_is)
    (case l1 => k_is)
    (case d1 => k_is)
    (case k1 => k_is)
    (case a2 => k_is)
    (case l2 => k_is)
    (case d2 => k_is)
    (case k2 => k_is)
    (case a3 => k_is)
    (case l3 => k_is)
    (case d3 => k_is)
    (case k3 => k_is)
    (case a4 => k_is)
    (case l4 => k_is)
    (case d4 => k_is)
    (case k4 => k_is)
    (case a5 => k_is)
    (case l5 => k_is)
    (case d5 => k_is)
    (case k5 => k_is)
    (case a6 => k_is)
    (case l6 => k_is)
    (case d6 => k_is)
    (case k6 => k_is)
    (case a7 => k_is)
    (case l7 => k_is)
    (case d7 => k_is)
    (case k7 => k_is)
    (case a8 => k_is)
    (case l8 => k_is)
    (case d8 => k_is)
    (case k8 => k_is)
    (case a9 => k_is)
    (case l9 => k_is)
    (case d9 => k_is)
    (case k9 => k_is)
    (case a10 => k_is)
    (case l10 => k_is)
    (case d10 => k_is)
    (case k10 => k_is)
    (case a11 => k_is)
    (case l11 => k_is)
    (case d11 => k_is)
    (case k11 => k_is)
    (case a12 => k_is)
    (case l12 => k_is)
    (case d12 => k_is)
    (case k12 => k_is)
    (case a13 => k_is)
    (case l13 => k_is)
    (case d13 => k_is)
    (case k13 => k_is)
    (case a14 => k_is)
    (case l14 => k_is)
    (case d14 => k_is)
    (case k14 => k_is)
    (case a15 => k_is)
    (case l15 => k_is)
    (case d15 => k_is)
    (case k15 => k_is)
    (case a16 => k_is)
    (case l16 => k_is)
    (case d16 => k_is)
    (case k16 => k_is)
    (case z_len => k_is)
    (case z_range => k_is)
    (case z_max => k_is)
    (case z_min => k_is)
    (case z_sorted => k_is)
    (case z_zip => k_is)
    (case z_isinstance => k_is)
    (case z_int => k_is)
    (case z_bool => k_is)
    (case z_list => k_is)
    (case z_all => k_is)
    (case z_sum => k_is)
    (case z_set => k_is)
    (case x_NoPieces => k_exc)
    (case ya_NoPieces => k_is)
    (case yb_NoPieces => k_is)
    (case yc_NoPieces => k_is)
    (case oc_n => k_is)
    (case oc_t => k_is)
    (case pg_Lot => k_is)
    (case hd_Lot => k_is)
    (case po_Lot => k_is)
    (case sa_Lot => k_is)
    (case ha_Lot => k_is)
    (case hm_Lot => k_is)
    (case n_Lot_number => k_is)
    (case n_Lot_since => k_is)
    (case n_Lot_pieces => k_is)
    (case n_Lot_cost => k_is)
    (case mka_Lot => k_is)
    (case mkb_Lot => k_is)
    (case mkc_Lot => k_is)
    (case mkd_Lot => k_is)
    (case mea_Lot_with_more => k_is)
    (case meb_Lot_with_more => k_is)
    (case mea_Lot_told => k_is)
    (case meb_Lot_told => k_is)
    (case lamc => exact rfl)
    (case lamC => kernel_rfl)
    (case w_ki_Lot => kit_is)
