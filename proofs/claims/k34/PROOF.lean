import PyProof.Rows.All
import Wide.All
import OpenK.AllK
import Wide.FinOn
import Lean
import PyProof.EqAt
import PyProof.EqKinds
import PyProof.NeKinds
import PyProof.TupleCall
import PySem.Challenge.RW_lotledger_k34_named_lots_gone
set_option Elab.async false
set_option linter.all false
set_option maxRecDepth 100000
set_option maxHeartbeats 4000000
namespace L2
open PySem PySem.Spec PyProof.Rows
abbrev Key := Sum Int Str
def keyIs : Key → Value → Bool
  | .inl k, v => Value.isInt k v
  | .inr x, v => Value.isStrOf x v
def keyH (w : World) : Key → Int
  | .inl k => hashInt k
  | .inr x => hashStr w x
theorem keyIs_shape : ∀ {k : Key} {v : Value}, keyIs k v = true → (∃ i t, k = Sum.inl i ∧ v = Value.int i t) ∨ (∃ x t, k = Sum.inr x ∧ v = Value.str x t)
  | .inl i, v, h => by
    obtain ⟨t, e⟩ := Value.isInt_shape (k := i) (v := v) h
    exact .inl ⟨i, t, rfl, e⟩
  | .inr x, v, h => by
    obtain ⟨t, e⟩ := Value.isStrOf_shape (x := x) (v := v) h
    exact .inr ⟨x, t, rfl, e⟩
theorem keyIs_int (i : Int) (t : Tok) : keyIs (.inl i) (.int i t) = true := by simp [keyIs, Value.isInt]
theorem keyIs_str (x : Str) (t : Tok) : keyIs (.inr x) (.str x t) = true := by simp [keyIs, Value.isStrOf]
theorem key_ll (a b : Int) : decide ((Sum.inl a : Key) = Sum.inl b) = (a == b) := by
  by_cases e : a = b
  · subst e; simp
  · have h : ¬ (Sum.inl a : Key) = Sum.inl b := fun q => e (Sum.inl.inj q)
    rw [decide_eq_false h]
    exact (beq_eq_false_iff_ne.mpr e).symm
theorem key_rr (a b : Str) : decide ((Sum.inr a : Key) = Sum.inr b) = decide (a = b) := by
  by_cases e : a = b
  · subst e; simp
  · have h : ¬ (Sum.inr a : Key) = Sum.inr b := fun q => e (Sum.inr.inj q)
    rw [decide_eq_false h, decide_eq_false e]
theorem key_lr (a : Int) (b : Str) : decide ((Sum.inl a : Key) = Sum.inr b) = false := decide_eq_false (fun q => nomatch q)
theorem key_rl (a : Str) (b : Int) : decide ((Sum.inr a : Key) = Sum.inl b) = false := decide_eq_false (fun q => nomatch q)
def mixKind (prog : Program) (w : World) : PySem.KeyKind prog w Key where
  is := keyIs
  hash := keyH w
  inj := fun v a b ha hb => by
    rcases keyIs_shape ha with ⟨i, t, rfl, rfl⟩ | ⟨x, t, rfl, rfl⟩
    · rcases keyIs_shape hb with ⟨j, u, rfl, e⟩ | ⟨y, u, rfl, e⟩
      · injection e with e1 _; rw [e1]
      · exact nomatch e
    · rcases keyIs_shape hb with ⟨j, u, rfl, e⟩ | ⟨y, u, rfl, e⟩
      · exact nomatch e
      · injection e with e1 _; rw [e1]
  byValue := fun k v h => by
    rcases keyIs_shape h with ⟨i, t, rfl, rfl⟩ | ⟨x, t, rfl, rfl⟩ <;> rfl
  pyHash := fun hv h => by
    rcases keyIs_shape hv with ⟨i, t, rfl, rfl⟩ | ⟨x, t, rfl, rfl⟩
    · exact wpAny_pyHash_int h
    · exact wpAny_pyHash_str h
  eqBool := fun hu hv h => by
    rcases keyIs_shape hu with ⟨i, t, rfl, rfl⟩ | ⟨x, t, rfl, rfl⟩
    · rcases keyIs_shape hv with ⟨j, u, rfl, rfl⟩ | ⟨y, u, rfl, rfl⟩
      · rw [key_ll] at h; exact wpAny_eqBool_int h
      · rw [key_lr] at h; exact SeqAt.EqAt.int_str i t y u _ _ _ _ h
    · rcases keyIs_shape hv with ⟨j, u, rfl, rfl⟩ | ⟨y, u, rfl, rfl⟩
      · rw [key_rl] at h; exact SeqAt.EqAt.str_int x t j u _ _ _ _ h
      · rw [key_rr] at h; exact wpAny_eqBool_str h
  «strs» := fun k x t v h => by
    rcases keyIs_shape h with ⟨i, u, rfl, e⟩ | ⟨y, u, rfl, e⟩
    · exact nomatch e
    · injection e with e1 _
      subst e1
      cases v <;> rfl
theorem mixKind_int (prog : Program) (w : World) (i : Int) (t : Tok) : (mixKind prog w).is (.inl i) (.int i t) = true := keyIs_int i t
theorem mixKind_str (prog : Program) (w : World) (x : Str) (t : Tok) : (mixKind prog w).is (.inr x) (.str x t) = true := keyIs_str x t
end L2
namespace L2
open PySem PySem.Spec PyProof.Rows
inductive V where
  | non | bl (b : Bool) | int (i : Int) | str (x : Str) | byt (b : Array UInt8) | flt (b : UInt64) | ref (a : Addr) | ty (n : String)
  deriving DecidableEq
def RelV : V → Value → Prop
  | .non, u => u = Value.none
  | .bl b, u => u = Value.bool b
  | .int i, u => ∃ t, u = Value.int i t
  | .str x, u => ∃ t, u = Value.str x t
  | .byt b, u => ∃ t, u = Value.bytes b t
  | .flt b, u => ∃ t, u = Value.float b t
  | .ref a, u => u = Value.ref a
  | .ty n, u => u = Value.type n
abbrev Vals : List V → List Value → Prop := Paired RelV
theorem Vals.length {xs : List V} {us : List Value} (r : Vals xs us) : xs.length = us.length := Paired.length r
theorem Vals.get : ∀ {xs : List V} {us : List Value} {i : Nat} {x : V}, Vals xs us → xs[i]? = some x → ∃ u, us[i]? = some u ∧ RelV x u
  | _, _, _, _, .nil, e => by simp at e
  | _, _, 0, _, .cons r _, e => by simp at e; subst e; exact ⟨_, rfl, r⟩
  | _, _, i + 1, x, .cons _ t, e => by
    obtain ⟨u, h1, h2⟩ := Vals.get (i := i) (x := x) t (by simpa using e)
    exact ⟨u, by simpa using h1, h2⟩
theorem Vals.set {x : V} {u : Value} (r : RelV x u) : ∀ {xs : List V} {us : List Value} (i : Nat), Vals xs us → Vals (xs.set i x) (us.set i u)
  | _, _, _, .nil => .nil
  | _, _, 0, .cons _ t => .cons r t
  | _, _, i + 1, .cons q t => .cons q (Vals.set r i t)
theorem Vals.append : ∀ {xs ys : List V} {us ws : List Value}, Vals xs us → Vals ys ws → Vals (xs ++ ys) (us ++ ws)
  | _, _, _, _, .nil, s => s
  | _, _, _, _, .cons r t, s => .cons r (Vals.append t s)
theorem Vals.take : ∀ {xs : List V} {us : List Value} (n : Nat), Vals xs us → Vals (xs.take n) (us.take n)
  | _, _, 0, _ => .nil
  | _, _, _ + 1, .nil => .nil
  | _, _, n + 1, .cons r t => .cons r (Vals.take n t)
theorem Vals.drop : ∀ {xs : List V} {us : List Value} (n : Nat), Vals xs us → Vals (xs.drop n) (us.drop n)
  | _, _, 0, r => r
  | _, _, _ + 1, .nil => .nil
  | _, _, n + 1, .cons _ t => Vals.drop n t
theorem Vals.none_of : ∀ {xs : List V} {us : List Value} {i : Nat}, Vals xs us → xs[i]? = none → us[i]? = none := fun {xs us i} r e => by
  have h1 := r.length
  have h2 : xs.length ≤ i := List.getElem?_eq_none_iff.mp e
  exact List.getElem?_eq_none_iff.mpr (by omega)
def RelO : Option V → Option Value → Prop
  | some v, some u => RelV v u
  | none, none => True
  | _, _ => False
def KV {κ : Type} : List (κ × V) → List (κ × Value) → Prop := Paired fun (p : κ × V) (q : κ × Value) => p.1 = q.1 ∧ RelV p.2 q.2
def kV : Key → V
  | .inl i => .int i
  | .inr x => .str x
inductive HO where
  | lst (xs : List V)
  | tup (xs : List V)
  | dK (kvs : List (Key × V)) | dT (kvs : List (List Key × V))
  | set (S : Int → Bool) (n : Nat)
  | ins (C dx : Addr) (fs : List (Str × V))
  | own (x : Addr)
  | xd (fs : List (Str × V))
  | met (f x : Addr)
  | rng (lo hi : Int)
  | frz (o : Obj) (u : HO)
  | tbl (ps : Array Value)
  | ext (φ : Heap → Prop)
abbrev Hp := Addr → Option HO
def upd (H : Hp) (a : Addr) (o : HO) : Hp := fun b => if b = a then some o else H b
theorem upd_same {H : Hp} {a : Addr} {o : HO} : upd H a o a = some o := by unfold upd; rw [if_pos rfl]
theorem upd_ne {H : Hp} {a b : Addr} {o : HO} (h : b ≠ a) : upd H a o b = H b := by unfold upd; rw [if_neg h]
theorem ne_of {H : Hp} {a b : Addr} {o u : HO} (h : H a = some o) (h' : H b = some u) (d : o ≠ u) : a ≠ b := by
  intro e; subst e; rw [h] at h'; exact d (Option.some.inj h')
theorem ne_of_none {H : Hp} {a b : Addr} {o : HO} (h : H a = some o) (h' : H b = none) : a ≠ b := by
  intro e; subst e; rw [h] at h'; cases h'
section
variable (P : Program) (w : World)
def ObjOk (H : Hp) (h : Heap) (a : Addr) : HO → Prop
  | .lst xs => xs.length ≤ sizeLine ∧ ∃ (its : List Value) (n : Nat), Vals xs its ∧ h.get? a = some { cls := .type "list", data := .seq its.toArray n }
  | .tup xs => xs.length ≤ sizeLine ∧ ∃ its : List Value, Vals xs its ∧ IsTup h a its.toArray
  | .dK kvs => kvs.length ≤ sizeLine ∧ (a == sysModules) = false ∧ ∃ vs, KV kvs vs ∧ h.DictOf (mixKind P w) a vs
  | .dT kvs => kvs.length ≤ sizeLine ∧ (a == sysModules) = false ∧ ∃ xs : List (List Key × Addr × Value),
      Paired (fun (p : List Key × V) (q : List Key × Addr × Value) => p.1 = q.1 ∧ H q.2.1 = some (.tup (p.1.map kV)) ∧ RelV p.2 q.2.2) kvs xs ∧
      ∃ o es ep, h.get? a = some o ∧ o.ExactDict ∧ o.data = .dict es ep ∧ es.toList = xs.map (entryOfKey (tupleKind (mixKind P w))) ∧ (xs.map (·.1)).Nodup
  | .set S n => h.SetOf (intKind P w) a S n
  | .ins C dx fs => H dx = some (.own a) ∧ fs.length ≤ 1000 ∧ dx ≠ a ∧ h.get? a = some (PySem.W.instObj C dx) ∧
      ∃ mA, h.Ns1 dx mA ∧ (∀ f, RelO (fs.lookup f) (mA f)) ∧ PySem.Within mA (fs.map (·.1))
  | .own _ => ∃ o, h.get? a = some o
  | .xd fs => ∃ mA, h.Ns1 a mA ∧ ∀ f, RelO (fs.lookup f) (mA f)
  | .rng lo hi => ∃ t u v, h.get? a = some { cls := .type "range", data := .fields #[.int lo t, .int hi u, .int 1 v] }
  | .frz o u => h.get? a = some o ∧ ObjOk H h a u
  | .tbl ps => h.get? a = some { cls := .none, data := .fields ps }
  | .met f x => h.get? a = some (PySem.W.methodObj (.ref f) (.ref x))
  | .ext φ => φ h ∧ (∃ o, h.get? a = some o) ∧ ∀ h1 h2 : Heap, φ h1 → (∀ o, h1.get? a = some o → h2.get? a = some o) → φ h2
def HOk (H : Hp) (h : Heap) : Prop := ∀ a o, H a = some o → ObjOk P w H h a o
end
section
variable {P : Program} {w : World} {H H' : Hp} {h h' : Heap} {a : Addr} {o : HO}
theorem ObjOk.lt (x : ObjOk P w H h a o) : a < h.objs.size := by
  cases o with
  | lst xs => obtain ⟨_, _, _, _, e⟩ := x; exact Heap.lt_size e
  | tup xs => obtain ⟨_, _, _, p⟩ := x; exact p.lt
  | dK kvs => obtain ⟨_, _, _, _, o, _, _, e, _⟩ := x; exact Heap.lt_size e
  | dT kvs => obtain ⟨_, _, _, _, o, _, _, e, _⟩ := x; exact Heap.lt_size e
  | set S n => obtain ⟨o, _, _, _, e, _⟩ := x; exact Heap.lt_size e
  | ins C dx fs => obtain ⟨_, _, _, e, _⟩ := x; exact Heap.lt_size e
  | own y => obtain ⟨_, e⟩ := x; exact Heap.lt_size e
  | xd fs => obtain ⟨_, ⟨_, _, _, e, _⟩, _⟩ := x; exact Heap.lt_size e
  | rng lo hi => obtain ⟨_, _, _, e⟩ := x; exact Heap.lt_size e
  | frz ob u => obtain ⟨e, _⟩ := x; exact Heap.lt_size e
  | tbl ps => exact Heap.lt_size (show h.get? a = some _ from x)
  | met f y => exact Heap.lt_size (show h.get? a = some _ from x)
  | ext φ => obtain ⟨_, ⟨_, e⟩, _⟩ := x; exact Heap.lt_size e
theorem Paired.mapP {α β : Type} {F G : α → β → Prop} : ∀ {l₁ : List α} {l₂ : List β}, Paired F l₁ l₂ → (∀ a b, F a b → G a b) → Paired G l₁ l₂
  | _, _, .nil, _ => .nil
  | _, _, .cons r t, f => .cons (f _ _ r) (Paired.mapP t f)
theorem ObjOk.stay (x : ObjOk P w H h a o) (k : ∀ b u, (b = a ∨ H b = some (.own a)) → h.get? b = some u → h'.get? b = some u)
    (ho : ∀ b, H b = some (.own a) → H' b = some (.own a)) (ht : ∀ b xs, H b = some (.tup xs) → H' b = some (.tup xs)) : ObjOk P w H' h' a o := by
  induction o with
  | lst xs => obtain ⟨z, its, n, r, e⟩ := x; exact ⟨z, its, n, r, k _ _ (.inl rfl) e⟩
  | tup xs => obtain ⟨z, its, r, ob, e, c⟩ := x; exact ⟨z, its, r, ob, k _ _ (.inl rfl) e, c⟩
  | dK kvs => obtain ⟨z, y, vs, r, ob, es, ep, e, c⟩ := x; exact ⟨z, y, vs, r, ob, es, ep, k _ _ (.inl rfl) e, c⟩
  | dT kvs =>
    obtain ⟨z, y, xs, r, ob, es, ep, e, c⟩ := x
    exact ⟨z, y, xs, Paired.mapP r fun p q z => ⟨z.1, ht _ _ z.2.1, z.2.2⟩, ob, es, ep, k _ _ (.inl rfl) e, c⟩
  | set S n => obtain ⟨ob, es, ep, t, e, c⟩ := x; exact ⟨ob, es, ep, t, k _ _ (.inl rfl) e, c⟩
  | ins C dx fs =>
    obtain ⟨d, z, ne, e, mA, ⟨od, es, ep, e2, c⟩, r⟩ := x
    exact ⟨ho _ d, z, ne, k _ _ (.inl rfl) e, mA, ⟨od, es, ep, k _ _ (.inr d) e2, c⟩, r⟩
  | own y => obtain ⟨ob, e⟩ := x; exact ⟨ob, k _ _ (.inl rfl) e⟩
  | xd fs => obtain ⟨mA, ⟨od, es, ep, e, c⟩, r⟩ := x; exact ⟨mA, ⟨od, es, ep, k _ _ (.inl rfl) e, c⟩, r⟩
  | rng lo hi => obtain ⟨t, u, v, e⟩ := x; exact ⟨t, u, v, k _ _ (.inl rfl) e⟩
  | frz ob u ih => obtain ⟨e, q⟩ := x; exact ⟨k _ _ (.inl rfl) e, ih q⟩
  | tbl ps =>
    have e : h.get? a = some { cls := .none, data := .fields ps } := x
    show h'.get? a = some { cls := .none, data := .fields ps }
    exact k a _ (.inl rfl) e
  | met f y =>
    have e : h.get? a = some (PySem.W.methodObj (.ref f) (.ref y)) := x
    show h'.get? a = some (PySem.W.methodObj (.ref f) (.ref y))
    exact k a _ (.inl rfl) e
  | ext φ => obtain ⟨p, ⟨o, e⟩, st⟩ := x; exact ⟨st _ _ p fun o q => k _ _ (.inl rfl) q, ⟨o, k _ _ (.inl rfl) e⟩, st⟩
theorem HOk.lt (x : HOk P w H h) (e : H a = some o) : a < h.objs.size := (x a o e).lt
theorem HOk.fresh (x : HOk P w H h) (e : h.objs.size ≤ a) : H a = none := by
  cases q : H a with
  | none => rfl
  | some u => exact absurd (Nat.lt_of_lt_of_le (x.lt q) e) (Nat.lt_irrefl _)
theorem HOk.kept (x : HOk P w H h) (k : ∀ b u, h.get? b = some u → h'.get? b = some u) : HOk P w H h' := fun a o e =>
  (x a o e).stay (fun b u _ q => k b u q) (fun _ q => q) fun _ _ q => q
theorem HOk.laid (x : HOk P w H h) (k : ∀ b u, h.get? b = some u → h'.get? b = some u) (hp : h.objs.size ≤ a) (new : ObjOk P w (upd H a o) h' a o) : HOk P w (upd H a o) h' := fun b u e => by
  have hn := x.fresh hp
  by_cases hb : b = a
  · subst hb; rw [upd_same] at e; cases e; exact new
  · rw [upd_ne hb] at e
    exact (x b u e).stay (fun c v _ q => k c v q) (fun c q => by rw [upd_ne (ne_of_none q hn)]; exact q) fun c xs q => by rw [upd_ne (ne_of_none q hn)]; exact q
end
def Rd (H : Hp) (a : Addr) (u : HO) : Prop := H a = some u ∨ ∃ o, H a = some (.frz o u)
theorem Rd.of {H : Hp} {a : Addr} {u : HO} (h : H a = some u) : Rd H a u := .inl h
theorem Rd.ok {P : Program} {w : World} {H : Hp} {h : Heap} {a : Addr} {u : HO} (r : Rd H a u) (x : HOk P w H h) : ObjOk P w H h a u := by
  rcases r with r | ⟨o, r⟩
  · exact x a u r
  · obtain ⟨_, q⟩ := x a _ r
    exact q
def Mut : Option HO → Prop
  | some (.lst _) => True
  | some (.dK _) => True
  | some (.dT _) => True
  | some (.set _ _) => True
  | some (.ins _ _ _) => True
  | some (.ext _) => True
  | _ => False
section
variable {P : Program} {w : World} {H : Hp} {h h' : Heap} {x e : Addr} {o' : HO}
theorem HOk.write (ok : HOk P w H h) (mu : Mut (H x)) (he : e = x ∨ H e = some (.own x)) (k : ∀ b u, b ≠ e → h.get? b = some u → h'.get? b = some u) (heo : ∃ u, h'.get? e = some u)
    (new : ObjOk P w (upd H x o') h' x o') : HOk P w (upd H x o') h' := fun b u q => by
  have nown : ∀ c y, H c = some (.own y) → c ≠ x := fun c y r z => by subst z; rw [r] at mu; exact mu
  have ntup : ∀ c xs, H c = some (.tup xs) → c ≠ x := fun c xs r z => by subst z; rw [r] at mu; exact mu
  by_cases hb : b = x
  · subst hb; rw [upd_same] at q; cases q; exact new
  · rw [upd_ne hb] at q
    by_cases hbe : b = e
    · have q' : H b = some (.own x) := by
        rcases he with z | z
        · exact absurd (hbe.trans z) hb
        · rw [hbe]; exact z
      rw [q] at q'; cases q'
      obtain ⟨v, hv⟩ := heo
      exact ⟨v, by rw [hbe]; exact hv⟩
    · refine (ok b u q).stay (fun c v hc r => k c v ?_ r) (fun c r => by rw [upd_ne (nown c b r)]; exact r) fun c xs r => by rw [upd_ne (ntup c xs r)]; exact r
      rcases hc with rfl | hc
      · exact hbe
      · rintro rfl
        rcases he with z | z
        · exact nown c b hc z
        · rw [hc] at z; cases z; exact hb rfl
end
structure Un (fs ex : List Addr) (H H' : Hp) (h h' : Heap) : Prop where
  keep : ∀ b o, h.get? b = some o → H b = none → b ∉ fs → b ∉ ex → h'.get? b = some o
  slot : ∀ b o, h.get? b = some o → H b = none → b ∈ fs → b ∉ ex → ∃ sl, h'.get? b = some { o with slots := sl }
  free : ∀ b o, h.get? b = some o → H b = none → b ∉ ex → H' b = none
  there : ∀ b o, h.get? b = some o → b ∉ ex → ∃ o', h'.get? b = some o'
  tups : ∀ b xs, H b = some (.tup xs) → H' b = some (.tup xs)
  frzs : ∀ b o u, H b = some (.frz o u) → H' b = some (.frz o u)
  tbls : ∀ b ps, H b = some (.tbl ps) → ∃ more, H' b = some (.tbl (ps ++ more))
section
variable {fs fs' ex ex' : List Addr} {H H1 H2 : Hp} {h h1 h2 h' : Heap} {a x e : Addr} {o : HO}
theorem Un.any (u : Un fs ex H H1 h h1) {b : Addr} {ob : Obj} (q : h.get? b = some ob) (n : H b = none) (hx : b ∉ ex) : ∃ sl, h1.get? b = some { ob with slots := sl } := by
  by_cases hb : b ∈ fs
  · exact u.slot b ob q n hb hx
  · exact ⟨ob.slots, u.keep b ob q n hb hx⟩
theorem Un.trans (a : Un fs ex H H1 h h1) (b : Un fs ex H1 H2 h1 h2) : Un fs ex H H2 h h2 where
  keep := fun c ob q n hc hx => b.keep c ob (a.keep c ob q n hc hx) (a.free c ob q n hx) hc hx
  slot := fun c ob q n hc hx => by
    obtain ⟨sl, e1⟩ := a.slot c ob q n hc hx
    obtain ⟨sl', e2⟩ := b.slot c _ e1 (a.free c ob q n hx) hc hx
    exact ⟨sl', e2⟩
  free := fun c ob q n hx => by
    obtain ⟨o', e1⟩ := a.there c ob q hx
    exact b.free c o' e1 (a.free c ob q n hx) hx
  there := fun c ob q hx => by
    obtain ⟨o', e1⟩ := a.there c ob q hx
    exact b.there c o' e1 hx
  tups := fun c xs q => b.tups c xs (a.tups c xs q)
  frzs := fun c ob xs q => b.frzs c ob xs (a.frzs c ob xs q)
  tbls := fun c ps q => by
    obtain ⟨m1, e1⟩ := a.tbls c ps q
    obtain ⟨m2, e2⟩ := b.tbls c _ e1
    exact ⟨m1 ++ m2, by rw [e2, Array.append_assoc]⟩
theorem Un.kept (k : ∀ b u, h.get? b = some u → h'.get? b = some u) : Un fs ex H H h h' :=
  ⟨fun b ob q _ _ _ => k b ob q, fun b ob q _ _ _ => ⟨ob.slots, k b ob q⟩, fun _ _ _ n _ => n, fun b ob q _ => ⟨ob, k b ob q⟩, fun _ _ q => q, fun _ _ _ q => q, fun _ ps q => ⟨#[], by rw [q]; simp⟩⟩
theorem Un.refl : Un fs ex H H h h := Un.kept fun _ _ q => q
theorem Un.laid (k : ∀ b u, h.get? b = some u → h'.get? b = some u) (hp : h.objs.size ≤ a) (hn : H a = none) : Un fs ex H (upd H a o) h h' where
  keep := fun b u q _ _ _ => k b u q
  slot := fun b u q _ _ _ => ⟨u.slots, k b u q⟩
  free := fun b u q n _ => by rw [upd_ne (Nat.ne_of_lt (Nat.lt_of_lt_of_le (Heap.lt_size q) hp))]; exact n
  there := fun b u q _ => ⟨u, k b u q⟩
  tups := fun b xs q => by rw [upd_ne (ne_of_none q hn)]; exact q
  frzs := fun b u xs q => by rw [upd_ne (ne_of_none q hn)]; exact q
  tbls := fun b ps q => ⟨#[], by rw [upd_ne (ne_of_none q hn), q]; simp⟩
theorem Un.write (mu : Mut (H x)) (he : e = x ∨ H e = some (.own x)) (k : ∀ b u, b ≠ e → h.get? b = some u → h'.get? b = some u) (heo : ∃ u, h'.get? e = some u) : Un fs ex H (upd H x o) h h' := by
  have hx : ∀ b, H b = none → b ≠ x := fun b n z => by subst z; rw [n] at mu; exact mu
  have hb : ∀ b, H b = none → b ≠ e := fun b n z => by
    subst z
    rcases he with r | r
    · exact hx b n r
    · rw [n] at r; cases r
  have hm : ∀ b u, H b = some u → ¬ Mut (some u) → b ≠ x := fun b u q nm z => by subst z; rw [q] at mu; exact nm mu
  refine ⟨fun b u q n _ _ => k b u (hb b n) q, fun b u q n _ _ => ⟨u.slots, k b u (hb b n) q⟩, fun b u q n _ => by rw [upd_ne (hx b n)]; exact n, fun b u q _ => ?_,
    fun b xs q => by rw [upd_ne (hm b _ q fun z => z)]; exact q, fun b u xs q => by rw [upd_ne (hm b _ q fun z => z)]; exact q, fun b ps q => ⟨#[], by rw [upd_ne (hm b _ q fun z => z), q]; simp⟩⟩
  by_cases hbe : b = e
  · subst hbe; exact heo
  · exact ⟨u, k b u hbe q⟩
theorem Un.mono (u : Un fs ex H H1 h h1) (hs : ∀ b ∈ fs, b ∈ fs') (hx : ∀ b ∈ ex, b ∈ ex') : Un fs' ex' H H1 h h1 :=
  ⟨fun b ob q n hb he => u.keep b ob q n (fun z => hb (hs b z)) fun z => he (hx b z), fun _ _ q n _ he => u.any q n fun z => he (hx _ z), fun b ob q n he => u.free b ob q n fun z => he (hx b z), fun b ob q he => u.there b ob q fun z => he (hx b z), u.tups, u.frzs, u.tbls⟩
end
def trk (h : Heap) (H : Hp) : List Addr := (List.range h.objs.size).filter fun a => (H a).isSome
def hidT (h : Heap) (H : Hp) : Heap := PySem.W.hideAll h (trk h H)
theorem hidT_size (h : Heap) (H : Hp) : (hidT h H).objs.size = h.objs.size := PySem.W.hideAll_size _ _
theorem hidT_get {h : Heap} {H : Hp} {b : Addr} {o : Obj} (e : h.get? b = some o) (n : H b = none) : (hidT h H).get? b = some o :=
  PySem.W.hideAll_get _ e fun hm => by
    have q : (H b).isSome = true := (List.mem_filter.mp hm).2
    rw [n] at q; simp at q
theorem of_hidT {h : Heap} {H : Hp} {b : Addr} {o : Obj} (e : (hidT h H).get? b = some o) : h.get? b = some o ∧ H b = none := by
  have e' : h.get? b = some o := PySem.W.of_hideAll (trk h H) e
  refine ⟨e', ?_⟩
  cases q : H b with
  | none => rfl
  | some x =>
    have hm : b ∈ trk h H := List.mem_filter.mpr ⟨List.mem_range.mpr (Heap.lt_size e'), by simp [q]⟩
    have z : (hidT h H).get? b = none := PySem.W.hideAll_none (trk h H) hm
    rw [z] at e; cases e
def allNews (g h : Heap) (L : Addr) : List (Addr × Obj) := (List.range h.objs.size).filterMap fun a => if a = L ∨ (g.get? a).isSome = true then none else (h.get? a).map fun o => (a, o)
def rest (g h : Heap) (L d : Addr) : List (Addr × Obj) := (allNews g h L).filter fun p => decide (p.1 ≠ d)
end L2
namespace L2
open PySem PySem.Spec PyProof.Rows
structure Mod (K : PySem.W.Frag) (mg : Str → Option Value) (base : Heap) : Prop where
  kin : K.In base
  glob : base.Ns mainGlobals mg
  blt : ∃ mb, base.Ns builtinsNs mb ∧ ∀ x : Str, x ≠ "__name__" → mb x = bootBuiltins x
  nolimit : base.NoLimit
structure Cx where
  prog : Program
  w : World
  K : PySem.W.Frag
  mg : Str → Option Value
  base : Heap
  A : Around
  N : List Str
  s₀ : Shared
  H₀ : Hp
  env : Env
  outer : List Env
  stack : List Env
  ex : List Addr
  fn : Str → Bool
  calm : Bool
  pn : List (Addr × Obj)
  xe : Value → Shared → Prop
def frs (l : List Env) : List Addr := l.filterMap (·.frame)
abbrev Cx.fs (X : Cx) : List Addr := frs X.outer
def Vis (sc : Scope) (x : Str) : Prop := sc.names.lookup x = some .local ∨ sc.names.lookup x = some .cell ∨ sc.names.lookup x = some .free
def Loc (sc : Scope) (x : Str) : Prop := sc.names.lookup x = some .local ∨ sc.names.lookup x = some .cell
def Look (env : Env) (h : Heap) (m : Str → Option Value) (x : Str) (u : Value) : Prop :=
  (env.kindOf x = some .local ∧ m x = some u) ∨ ((env.kindOf x = some .cell ∨ env.kindOf x = some .free) ∧ ∃ c, env.cells.lookup x = some c ∧ h.IsCell c (some u))
structure Cx.Ok (X : Cx) : Prop where
  mod : Mod X.K X.mg X.base
  kind : X.env.scope.kind = .function
  glob : X.env.globals = mainGlobals
  blt : X.env.builtins = builtinsNs
  above : X.s₀.heap.objs.size ≤ X.env.locals
  inj : ∀ x y c, X.env.cells.lookup x = some c → X.env.cells.lookup y = some c → x = y
  has : ∀ x, (X.env.kindOf x = some .cell ∨ X.env.kindOf x = some .free) → ∃ c, X.env.cells.lookup x = some c
  cab : ∀ x c, X.fn x = true → X.env.cells.lookup x = some c → X.s₀.heap.objs.size ≤ c
  hd : X.calm = true → X.A.handled = none
  frames : X.A.frames = some X.stack
  stk : X.stack = X.outer ∨ (X.stack = X.env :: X.outer ∧ X.env.frame = some X.env.locals)
  exf : ∀ b ∈ X.ex, b ≠ X.env.locals ∧ ∀ x c, X.env.cells.lookup x = some c → c ≠ b
  bs : ∀ b o, X.base.get? b = some o → X.s₀.heap.get? b = some o ∧ X.H₀ b = none
  bsz : X.base.objs.size ≤ X.s₀.heap.objs.size
  noex : ∀ b o, X.base.get? b = some o → b ∉ X.ex
  exfs : ∀ b ∈ X.ex, b ∉ X.fs
  funs : X.s₀.heap.FunFrames X.base X.outer
  frf : ∀ b ∈ X.fs, X.H₀ b = none
structure Inv (X : Cx) (pins : List (Addr × Obj)) (σ : List (Option V)) (H : Hp) (s : Shared) : Prop where
  ok : X.Ok
  os : s.os = X.s₀.os
  bare : AllBare s.gens
  base : Un X.fs X.ex X.H₀ H X.s₀.heap s.heap
  loc : ∃ m, s.heap.Ns X.env.locals m ∧ ∀ (i : Nat) (x : Str) (v : V), X.N[i]? = some x → σ[i]? = some (some v) → Vis X.env.scope x → ∃ u, RelV v u ∧ Look X.env s.heap m x u
  cell : ∀ x c, X.env.cells.lookup x = some c → ∃ v, s.heap.IsCell c v
  free : H X.env.locals = none
  freeC : ∀ x c, X.env.cells.lookup x = some c → H c = none
  pin : ∀ p ∈ X.pn ++ pins, s.heap.get? p.1 = some p.2 ∧ H p.1 = none ∧ p.1 ≠ X.env.locals ∧ p.1 ∉ X.fs ∧ ∀ v, p.2.data ≠ .cell v
  hok : HOk X.prog X.w H s.heap
  len : σ.length = X.N.length
section
variable {X : Cx} {pins : List (Addr × Obj)} {σ : List (Option V)} {H H' : Hp} {s : Shared} {h' : Heap}
theorem Cx.Ok.nofr (ok : X.Ok) {b : Addr} {o : Obj} (e : X.base.get? b = some o) : b ∉ X.fs := fun hb => by
  have := (ok.funs.mem hb).1
  rw [e] at this; cases this
theorem Inv.bs (I : Inv X pins σ H s) : ∀ b o, X.base.get? b = some o → s.heap.get? b = some o ∧ H b = none := fun b o e =>
  ⟨I.base.keep b o (I.ok.bs b o e).1 (I.ok.bs b o e).2 (I.ok.nofr e) (I.ok.noex b o e), I.base.free b o (I.ok.bs b o e).1 (I.ok.bs b o e).2 (I.ok.noex b o e)⟩
theorem Inv.bk (I : Inv X pins σ H s) : ∀ b o, X.base.get? b = some o → s.heap.get? b = some o := fun b o e => (I.bs b o e).1
theorem Inv.mod (I : Inv X pins σ H s) : Mod X.K X.mg X.base := I.ok.mod
theorem Inv.kIn (I : Inv X pins σ H s) : X.K.In s.heap := I.ok.mod.kin.keeps I.bk
theorem Inv.nolimit (I : Inv X pins σ H s) : s.heap.NoLimit := I.ok.mod.nolimit.keeps I.bk
theorem Inv.fr (I : Inv X pins σ H s) : ∃ m, Fr X.base X.env.locals s.heap m :=
  let ⟨m, hn, _⟩ := I.loc
  ⟨m, hn, I.bk, Nat.le_trans I.ok.bsz I.ok.above⟩
theorem Inv.lt (I : Inv X pins σ H s) : X.env.locals < s.heap.objs.size := let ⟨_, hn, _⟩ := I.loc; hn.lt
theorem Inv.sz (I : Inv X pins σ H s) : X.s₀.heap.objs.size ≤ s.heap.objs.size := Nat.le_trans I.ok.above (Nat.le_of_lt I.lt)
theorem Inv.nofs (I : Inv X pins σ H s) {a : Addr} (h : s.heap.objs.size ≤ a) : a ∉ X.fs := fun hb => by
  obtain ⟨_, o, ho, _⟩ := I.ok.funs.mem hb
  exact absurd (Nat.lt_of_lt_of_le (Heap.lt_size ho) (Nat.le_trans I.sz h)) (Nat.lt_irrefl _)
theorem Inv.cne (I : Inv X pins σ H s) : ∀ x c, X.env.cells.lookup x = some c → c ≠ X.env.locals := fun x c e z => by
  obtain ⟨v, o, ho, hd⟩ := I.cell x c e
  obtain ⟨m, ⟨o', es, ep, ho', hd', _⟩, _⟩ := I.loc
  rw [z, ho'] at ho; cases ho; rw [hd'] at hd; cases hd
theorem Inv.funs (I : Inv X pins σ H s) : s.heap.FunFrames X.base X.outer := by
  have all : ∀ (l : List Env), (∀ b ∈ frs l, b ∈ X.fs) → X.s₀.heap.FunFrames X.base l → s.heap.FunFrames X.base l := by
    intro l
    induction l with
    | nil => intro _ _; trivial
    | cons env r ih =>
      intro hs hl
      obtain ⟨hk, ⟨L, o, hf, hn, ho, hd⟩, hr⟩ := hl
      have hL : L ∈ X.fs := hs L (by unfold frs; rw [List.filterMap_cons, hf]; exact List.mem_cons_self)
      obtain ⟨sl, e⟩ := I.base.slot L o ho (I.ok.frf L hL) hL fun z => I.ok.exfs L z hL
      exact ⟨hk, ⟨L, _, hf, hn, e, hd⟩, ih (fun b hb => hs b (by unfold frs; rw [List.filterMap_cons, hf]; exact List.mem_cons_of_mem _ hb)) hr⟩
  exact all X.outer (fun _ hb => hb) I.ok.funs
theorem Inv.stack (I : Inv X pins σ H s) : s.heap.FunFrames X.base X.stack := by
  rcases I.ok.stk with e | ⟨e, hf⟩
  · rw [e]; exact I.funs
  · rw [e]
    obtain ⟨m, hn, _⟩ := I.loc
    refine .cons (by rw [I.ok.kind]; decide) hf hn ?_ I.funs
    exact Heap.get?_none_of_le (Nat.le_trans I.ok.bsz I.ok.above)
theorem Inv.stkSub (I : Inv X pins σ H s) : ∀ b ∈ frs X.stack, b ∈ X.env.locals :: X.fs := fun b hb => by
  rcases I.ok.stk with e | ⟨e, hf⟩
  · rw [e] at hb; exact List.mem_cons_of_mem _ hb
  · rw [e] at hb
    unfold frs at hb
    rw [List.filterMap_cons, hf] at hb
    exact hb
theorem Inv.stkFree (I : Inv X pins σ H s) : ∀ b ∈ frs X.stack, H b = none := fun b hb => by
  rcases List.mem_cons.mp (I.stkSub b hb) with e | hb
  · rw [e]; exact I.free
  · obtain ⟨_, o, ho, _⟩ := I.ok.funs.mem hb
    exact I.base.free b o ho (I.ok.frf b hb) fun z => I.ok.exfs b z hb
theorem Inv.step {g' : Array GenState} {t' : Nat} {d' : Drawn} {ch : List Addr} (I : Inv X pins σ H s)
    (hch : ∀ b ∈ ch, (b ∈ X.ex ∨ X.s₀.heap.objs.size ≤ b) ∧ b ≠ X.env.locals ∧ (∀ x c, X.env.cells.lookup x = some c → c ≠ b) ∧ ∀ p ∈ X.pn ++ pins, p.1 ≠ b)
    (keep : ∀ b o, b ≠ X.env.locals → b ∉ X.fs → b ∉ ch → s.heap.get? b = some o → H b = none → h'.get? b = some o)
    (slot : ∀ b o, b ≠ X.env.locals → b ∈ X.fs → b ∉ ch → s.heap.get? b = some o → H b = none → ∃ sl, h'.get? b = some { o with slots := sl }) (free : ∀ b o, b ∉ ch → s.heap.get? b = some o → H b = none → H' b = none)
    (there : ∀ b o, b ∉ ch → s.heap.get? b = some o → ∃ o', h'.get? b = some o')
    (tups : ∀ b xs, H b = some (.tup xs) → H' b = some (.tup xs)) (frzs : ∀ b o u, H b = some (.frz o u) → H' b = some (.frz o u)) (tbls : ∀ b ps, H b = some (.tbl ps) → ∃ more, H' b = some (.tbl (ps ++ more)))
    (ns : ∀ m, s.heap.Ns X.env.locals m → h'.Ns X.env.locals m) (hok : HOk X.prog X.w H' h') (hg : AllBare g') :
    Inv X pins σ H' { s with heap := h', gens := g', drawn := d', toks := t' } := by
  have neL : ∀ b o, X.s₀.heap.get? b = some o → b ≠ X.env.locals := fun b o e => Nat.ne_of_lt (Nat.lt_of_lt_of_le (Heap.lt_size e) I.ok.above)
  have neC : ∀ b o, X.s₀.heap.get? b = some o → b ∉ X.ex → b ∉ ch := fun b o e hx hb => by
    rcases (hch b hb).1 with z | z
    · exact hx z
    · exact absurd (Nat.lt_of_lt_of_le (Heap.lt_size e) z) (Nat.lt_irrefl _)
  have cellK : ∀ x c, X.env.cells.lookup x = some c → ∀ v, s.heap.IsCell c v → h'.IsCell c v := fun x c e v ⟨o, ho, hd⟩ => by
    have nch : c ∉ ch := fun z => (hch c z).2.2.1 x c e rfl
    by_cases hc : c ∈ X.fs
    · obtain ⟨sl, q⟩ := slot c o (I.cne x c e) hc nch ho (I.freeC x c e)
      exact ⟨_, q, hd⟩
    · exact ⟨o, keep c o (I.cne x c e) hc nch ho (I.freeC x c e), hd⟩
  refine ⟨I.ok, I.os, hg, ⟨fun b o e n hb hx => ?_, fun b o e n hb hx => ?_, fun b o e n hx => ?_, fun b o e hx => ?_, fun b xs e => tups b xs (I.base.tups b xs e), fun b o xs e => frzs b o xs (I.base.frzs b o xs e), fun b ps e => ?_⟩, ?_, fun x c e => ?_, ?_, fun x c e => ?_, fun p hp => ?_, hok, I.len⟩
  · exact keep b o (neL b o e) hb (neC b o e hx) (I.base.keep b o e n hb hx) (I.base.free b o e n hx)
  · obtain ⟨sl, e1⟩ := I.base.slot b o e n hb hx
    obtain ⟨sl', e2⟩ := slot b _ (neL b o e) hb (neC b o e hx) e1 (I.base.free b o e n hx)
    exact ⟨sl', e2⟩
  · obtain ⟨o', e1⟩ := I.base.there b o e hx
    exact free b o' (neC b o e hx) e1 (I.base.free b o e n hx)
  · obtain ⟨o', e1⟩ := I.base.there b o e hx
    exact there b o' (neC b o e hx) e1
  · obtain ⟨m1, e1⟩ := I.base.tbls b ps e
    obtain ⟨m2, e2⟩ := tbls b _ e1
    exact ⟨m1 ++ m2, by rw [e2, Array.append_assoc]⟩
  · obtain ⟨m, hn, hl⟩ := I.loc
    refine ⟨m, ns m hn, fun i x v e1 e2 e3 => ?_⟩
    obtain ⟨u, r, l⟩ := hl i x v e1 e2 e3
    refine ⟨u, r, ?_⟩
    rcases l with l | ⟨k, c, e, z⟩
    · exact .inl l
    · exact .inr ⟨k, c, e, cellK x c e _ z⟩
  · obtain ⟨v, z⟩ := I.cell x c e
    exact ⟨v, cellK x c e v z⟩
  · obtain ⟨m, ⟨o, _, _, ho, _⟩, _⟩ := I.loc
    exact free _ o (fun z => (hch _ z).2.1 rfl) ho I.free
  · obtain ⟨v, o, ho, hd⟩ := I.cell x c e
    exact free c o (fun z => (hch c z).2.2.1 x c e rfl) ho (I.freeC x c e)
  · obtain ⟨e, n, ne, nf, d⟩ := I.pin p hp
    have nch : p.1 ∉ ch := fun z => (hch p.1 z).2.2.2 p hp rfl
    exact ⟨keep p.1 p.2 ne nf nch e n, free p.1 p.2 nch e n, ne, nf, d⟩
theorem Inv.un {t' : Nat} (I : Inv X pins σ H s) (u : Un X.fs [] H H' s.heap h') (hok : HOk X.prog X.w H' h') : Inv X pins σ H' { s with heap := h', toks := t' } := by
  obtain ⟨m, ⟨o, es, ep, ho, r⟩, _⟩ := id I.loc
  obtain ⟨sl, hL⟩ := u.any ho I.free (by simp)
  exact I.step (g' := s.gens) (d' := s.drawn) (ch := []) (fun _ z => nomatch z) (fun b o _ hb _ e n => u.keep b o e n hb (by simp)) (fun b o _ hb _ e n => u.slot b o e n hb (by simp)) (fun b o _ e n => u.free b o e n (by simp)) (fun b o _ e => u.there b o e (by simp)) u.tups u.frzs u.tbls (fun m' hm => by
    obtain ⟨o', es', ep', ho', r'⟩ := hm
    rw [ho] at ho'; cases ho'
    exact ⟨_, es', ep', hL, r'⟩) hok I.bare
theorem Inv.call {g' : Array GenState} {t' : Nat} {d' : Drawn} {ch : List Addr} (I : Inv X pins σ H s) (u : Un (frs X.stack) ch H H' s.heap h') (hok : HOk X.prog X.w H' h') (hg : AllBare g')
    (hch : ∀ b ∈ ch, (b ∈ X.ex ∨ X.s₀.heap.objs.size ≤ b) ∧ b ≠ X.env.locals ∧ (∀ x c, X.env.cells.lookup x = some c → c ≠ b) ∧ ∀ p ∈ X.pn ++ pins, p.1 ≠ b) :
    Inv X pins σ H' { s with heap := h', gens := g', drawn := d', toks := t' } := by
  obtain ⟨m, ⟨o, es, ep, ho, r⟩, _⟩ := id I.loc
  obtain ⟨sl, hL⟩ := u.any ho I.free fun z => (hch _ z).2.1 rfl
  exact I.step (ch := ch) hch (fun b o hL hb hc e n => u.keep b o e n (fun z => (List.mem_cons.mp (I.stkSub b z)).elim hL hb) hc) (fun b o _ _ hc e n => u.any e n hc) (fun b o hc e n => u.free b o e n hc) (fun b o hc e => u.there b o e hc) u.tups u.frzs u.tbls (fun m' hm => by
    obtain ⟨o', es', ep', ho', r'⟩ := hm
    rw [ho] at ho'; cases ho'
    exact ⟨_, es', ep', hL, r'⟩) hok hg
theorem Inv.turned {t' : Nat} {it : Addr} (I : Inv X pins σ H s) (k : ∀ b o, b ≠ it → s.heap.get? b = some o → h'.get? b = some o) (hn : H it = none) (hL : it ≠ X.env.locals)
    (h1 : it ∈ X.ex ∨ X.s₀.heap.objs.size ≤ it) (h2 : ∀ x c, X.env.cells.lookup x = some c → c ≠ it) (h3 : ∀ p ∈ X.pn ++ pins, p.1 ≠ it) : Inv X pins σ H { s with heap := h', toks := t' } := by
  have nit : ∀ b u, H b = some u → b ≠ it := fun b u e z => by rw [z, hn] at e; cases e
  refine I.step (g' := s.gens) (d' := s.drawn) (ch := [it]) (fun b hb => ?_) (fun b o _ _ hc e _ => k b o (fun z => hc (by simp [z])) e) (fun b o _ _ hc e _ => ⟨o.slots, k b o (fun z => hc (by simp [z])) e⟩) (fun _ _ _ _ n => n)
    (fun b o hc e => ⟨o, k b o (fun z => hc (by simp [z])) e⟩) (fun _ _ e => e) (fun _ _ _ e => e) (fun b ps e => ⟨#[], by rw [e]; simp⟩) (fun m hm => ?_) (fun b u e => ?_) I.bare
  · have e : b = it := by simpa using hb
    subst e
    exact ⟨h1, hL, h2, h3⟩
  · obtain ⟨o, es, ep, ho, r⟩ := hm
    exact ⟨o, es, ep, k _ o (Ne.symm hL) ho, r⟩
  · refine (I.hok b u e).stay (fun c v hc q => k c v ?_ q) (fun _ q => q) fun _ _ q => q
    rcases hc with z | z
    · rw [z]; exact nit b u e
    · exact nit c _ z
theorem Inv.tok (I : Inv X pins σ H s) (t : Nat) : Inv X pins σ H { s with toks := t } := I.un (h' := s.heap) (t' := t) Un.refl I.hok
theorem Inv.kept {t' : Nat} (I : Inv X pins σ H s) (k : ∀ b u, s.heap.get? b = some u → h'.get? b = some u) : Inv X pins σ H { s with heap := h', toks := t' } := I.un (Un.kept k) (I.hok.kept k)
theorem Inv.laid {a : Addr} {o : HO} {t' : Nat} (I : Inv X pins σ H s) (k : ∀ b u, s.heap.get? b = some u → h'.get? b = some u) (hp : s.heap.objs.size ≤ a) (new : ObjOk X.prog X.w (upd H a o) h' a o) :
    Inv X pins σ (upd H a o) { s with heap := h', toks := t' } := I.un (Un.laid k hp (I.hok.fresh hp)) (I.hok.laid k hp new)
theorem Inv.write {x e : Addr} {o : HO} {t' : Nat} (I : Inv X pins σ H s) (mu : Mut (H x)) (he : e = x ∨ H e = some (.own x)) (k : ∀ b u, b ≠ e → s.heap.get? b = some u → h'.get? b = some u) (heo : ∃ u, h'.get? e = some u)
    (new : ObjOk X.prog X.w (upd H x o) h' x o) : Inv X pins σ (upd H x o) { s with heap := h', toks := t' } := I.un (Un.write mu he k heo) (I.hok.write mu he k heo new)
theorem Inv.pins_of {pins' : List (Addr × Obj)} (I : Inv X pins σ H s) (h : ∀ p ∈ pins', s.heap.get? p.1 = some p.2 ∧ H p.1 = none ∧ p.1 ≠ X.env.locals ∧ p.1 ∉ X.fs ∧ ∀ v, p.2.data ≠ .cell v) : Inv X pins' σ H s :=
  ⟨I.ok, I.os, I.bare, I.base, I.loc, I.cell, I.free, I.freeC, fun p hp => (List.mem_append.mp hp).elim (fun z => I.pin p (List.mem_append_left _ z)) (h p), I.hok, I.len⟩
theorem nodup_ix {N : List Str} (hN : N.Nodup) {i j : Nat} {x : Str} (a : N[i]? = some x) (b : N[j]? = some x) : i = j := by
  obtain ⟨h1, e1⟩ := List.getElem?_eq_some_iff.mp a
  obtain ⟨h2, e2⟩ := List.getElem?_eq_some_iff.mp b
  exact (List.getElem_inj hN).mp (e1.trans e2.symm)
theorem store_ok2 {M : Model} {A : Around} {E : Value → Shared → Prop} {i : Nat} {x : Str} {v : V} {u : Value} {Q : Unit → Shared → Prop} (I : Inv X pins σ H s) (hN : X.N.Nodup) (hi : X.N[i]? = some x) (hx : Loc X.env.scope x) (r : RelV v u)
    (h : ∀ s', Inv X pins (σ.set i (some v)) H s' → (∃ a, Heap.SameBut a s.heap s'.heap ∧ (a = X.env.locals ∨ X.env.cells.lookup x = some a)) → Q () s') (hf : X.fn x = true ∨ X.env.scope.names.lookup x = some .local := by first | exact .inl rfl | exact .inr rfl | assumption) : wpAny M A (storeName X.env x u) Q E s := by
  obtain ⟨m, hn, hl⟩ := id I.loc
  have hcls : (X.env.scope.kind == .class || (X.env.scope.kind == .module && X.env.locals != X.env.globals)) = false := by rw [I.ok.kind]; rfl
  have hiσ : i < σ.length := by rw [I.len]; exact (List.getElem?_eq_some_iff.mp hi).1
  have cne := I.cne
  have tracked : ∀ {a : Addr} {h' : Heap}, (∃ o, s.heap.get? a = some o ∧ H a = none) → Heap.SameBut a s.heap h' → HOk X.prog X.w H h' := fun {a h'} ha hs b ob e => by
    obtain ⟨_, _, hfree⟩ := ha
    refine (I.hok b ob e).stay (fun c w' hc q => (hs.2 c ?_).trans q) (fun _ q => q) fun _ _ q => q
    rintro rfl
    rcases hc with rfl | hc
    · rw [hfree] at e; cases e
    · rw [hfree] at hc; cases hc
  rcases hx with hk | hk
  · refine wpAny_storeName_local hk hn (fun h' hn' hs => ?_) hcls
    obtain ⟨oL, _, _, hoL, _⟩ := id hn
    refine h _ ⟨I.ok, I.os, I.bare, ⟨fun b o e n hb hx => ?_, fun b o e n hb hx => ?_, I.base.free, fun b o e hx => ?_, I.base.tups, I.base.frzs, I.base.tbls⟩, ⟨_, hn', fun j y v' e1 e2 e3 => ?_⟩, fun y c e => ?_, I.free, I.freeC, fun p hp => ?_, tracked ⟨oL, hoL, I.free⟩ hs, by simpa using I.len⟩ ⟨_, hs, .inl rfl⟩
    · exact (hs.2 b (Nat.ne_of_lt (Nat.lt_of_lt_of_le (Heap.lt_size e) I.ok.above))).trans (I.base.keep b o e n hb hx)
    · obtain ⟨sl, e1⟩ := I.base.slot b o e n hb hx
      exact ⟨sl, (hs.2 b (Nat.ne_of_lt (Nat.lt_of_lt_of_le (Heap.lt_size e) I.ok.above))).trans e1⟩
    · obtain ⟨o', e1⟩ := I.base.there b o e hx
      exact ⟨o', (hs.2 b (Nat.ne_of_lt (Nat.lt_of_lt_of_le (Heap.lt_size e) I.ok.above))).trans e1⟩
    · by_cases hj : j = i
      · subst hj
        rw [hi] at e1; cases e1
        rw [List.getElem?_set_self hiσ] at e2
        cases e2
        exact ⟨u, r, .inl ⟨hk, by simp⟩⟩
      · rw [List.getElem?_set_ne (Ne.symm hj)] at e2
        obtain ⟨u', r', q⟩ := hl j y v' e1 e2 e3
        refine ⟨u', r', ?_⟩
        rcases q with ⟨k, e⟩ | ⟨k, c, e, z⟩
        · refine .inl ⟨k, ?_⟩
          have : y ≠ x := fun e => hj (nodup_ix hN e1 (e ▸ hi))
          simp [this, e]
        · exact .inr ⟨k, c, e, z.sameBut hs (cne y c e)⟩
    · obtain ⟨w', z⟩ := I.cell y c e
      exact ⟨w', z.sameBut hs (cne y c e)⟩
    · obtain ⟨e, n, ne, nf, d⟩ := I.pin p hp
      exact ⟨(hs.2 p.1 ne).trans e, n, ne, nf, d⟩
  · have hfn : X.fn x = true := by
      rcases hf with z | z
      · exact z
      · rw [z] at hk; cases hk
    obtain ⟨c, hc⟩ := I.ok.has x (.inl hk)
    obtain ⟨w', z⟩ := I.cell x c hc
    refine wpAny_storeName_cell I.ok.kind hk hc z (fun h' hc' hs => ?_)
    obtain ⟨oc, hoc, hocd⟩ := id z
    refine h { s with heap := h' } ⟨I.ok, I.os, I.bare, ⟨fun b o e n hb hx => ?_, fun b o e n hb hx => ?_, I.base.free, fun b o e hx => ?_, I.base.tups, I.base.frzs, I.base.tbls⟩, ⟨m, hn.sameBut hs (Ne.symm (cne x c hc)), fun j y v' e1 e2 e3 => ?_⟩, fun y c' e => ?_, I.free, I.freeC, fun p hp => ?_, tracked ⟨oc, hoc, I.freeC x c hc⟩ hs, by simpa using I.len⟩ ⟨c, hs, .inr hc⟩
    · exact (hs.2 b (Nat.ne_of_lt (Nat.lt_of_lt_of_le (Heap.lt_size e) (I.ok.cab x c hfn hc)))).trans (I.base.keep b o e n hb hx)
    · obtain ⟨sl, e1⟩ := I.base.slot b o e n hb hx
      exact ⟨sl, (hs.2 b (Nat.ne_of_lt (Nat.lt_of_lt_of_le (Heap.lt_size e) (I.ok.cab x c hfn hc)))).trans e1⟩
    · obtain ⟨o', e1⟩ := I.base.there b o e hx
      exact ⟨o', (hs.2 b (Nat.ne_of_lt (Nat.lt_of_lt_of_le (Heap.lt_size e) (I.ok.cab x c hfn hc)))).trans e1⟩
    · by_cases hj : j = i
      · subst hj
        rw [hi] at e1; cases e1
        rw [List.getElem?_set_self hiσ] at e2
        cases e2
        exact ⟨u, r, .inr ⟨.inl hk, c, hc, hc'⟩⟩
      · rw [List.getElem?_set_ne (Ne.symm hj)] at e2
        obtain ⟨u', r', q⟩ := hl j y v' e1 e2 e3
        refine ⟨u', r', ?_⟩
        rcases q with q | ⟨k, c', e, z'⟩
        · exact .inl q
        · refine .inr ⟨k, c', e, z'.sameBut hs ?_⟩
          rintro rfl
          exact hj (nodup_ix hN e1 (I.ok.inj _ _ _ e hc ▸ hi))
    · by_cases hcc : c' = c
      · subst hcc; exact ⟨_, hc'⟩
      · obtain ⟨w2, z2⟩ := I.cell y c' e
        exact ⟨w2, z2.sameBut hs hcc⟩
    · obtain ⟨e, n, ne, nf, d⟩ := I.pin p hp
      refine ⟨(hs.2 p.1 ?_).trans e, n, ne, nf, d⟩
      intro q
      rw [q, hoc] at e
      have q' : oc = p.2 := Option.some.inj e
      exact d w' (by rw [← q']; exact hocd)
theorem store_ok {M : Model} {A : Around} {E : Value → Shared → Prop} {i : Nat} {x : Str} {v : V} {u : Value} {Q : Unit → Shared → Prop} (I : Inv X pins σ H s) (hN : X.N.Nodup) (hi : X.N[i]? = some x) (hx : Loc X.env.scope x) (r : RelV v u)
    (h : ∀ s', Inv X pins (σ.set i (some v)) H s' → Q () s') (hf : X.fn x = true ∨ X.env.scope.names.lookup x = some .local := by first | exact .inl rfl | exact .inr rfl | assumption) : wpAny M A (storeName X.env x u) Q E s :=
  store_ok2 I hN hi hx r (fun s' I' _ => h s' I') hf
theorem Inv.call' {s' : Shared} {ch : List Addr} (I : Inv X pins σ H s) (ho : s'.os = s.os) (u : Un (frs X.stack) ch H H' s.heap s'.heap) (hok : HOk X.prog X.w H' s'.heap) (hg : AllBare s'.gens)
    (hch : ∀ b ∈ ch, (b ∈ X.ex ∨ X.s₀.heap.objs.size ≤ b) ∧ b ≠ X.env.locals ∧ (∀ x c, X.env.cells.lookup x = some c → c ≠ b) ∧ ∀ p ∈ X.pn ++ pins, p.1 ≠ b) : Inv X pins σ H' s' := by
  obtain ⟨h', g', d', t', o'⟩ := s'
  have e : o' = s.os := ho
  subst e
  exact I.call (g' := g') (t' := t') (d' := d') u hok hg hch
end
abbrev XK := Value → Option Addr → Hp → Prop
abbrev St := List (Option V)
abbrev VK := V → Hp → Prop
abbrev TE := St → Hp → VK → Prop
abbrev TT := St → Hp → (Bool → Hp → Prop) → Prop
abbrev TA := St → Hp → (List V → Hp → Prop) → Prop
structure Ends where
  nx : St → Hp → Prop
  rt : VK
  bk : St → Hp → Prop := fun _ _ => False
  ct : St → Hp → Prop := fun _ _ => False
abbrev TS := Ends → St → Hp → Prop
def EP (X : Cx) (pins : List (Addr × Obj)) (σ : St) (Q : VK) (u : Value) (s' : Shared) : Prop := ∃ v H', Inv X pins σ H' s' ∧ RelV v u ∧ Q v H'
def TP (X : Cx) (pins : List (Addr × Obj)) (σ : St) (Q : Bool → Hp → Prop) (b : Bool) (s' : Shared) : Prop := ∃ H', Inv X pins σ H' s' ∧ Q b H'
def AP (X : Cx) (pins : List (Addr × Obj)) (σ : St) (Q : List V → Hp → Prop) (us : List Value) (s' : Shared) : Prop := ∃ vs H', Inv X pins σ H' s' ∧ Vals vs us ∧ Q vs H'
def SP (X : Cx) (pins : List (Addr × Obj)) (D : Ends) (f : Flow) (s' : Shared) : Prop :=
  match f with
  | .next => ∃ σ' H', Inv X pins σ' H' s' ∧ D.nx σ' H'
  | .brk => ∃ σ' H', Inv X pins σ' H' s' ∧ D.bk σ' H'
  | .cont => ∃ σ' H', Inv X pins σ' H' s' ∧ D.ct σ' H'
  | .ret u => ∃ v σ' H', Inv X pins σ' H' s' ∧ RelV v u ∧ D.rt v H'
def PE (X : Cx) (e : Expr) (t : TE) : Prop :=
  ∀ (pins : List (Addr × Obj)) (s : Shared) (σ : St) (H : Hp) (Q : VK), Inv X pins σ H s → t σ H Q → wpAny (model X.prog X.w) X.A (eval e X.env) (EP X pins σ Q) X.xe s
def PT (X : Cx) (e : Expr) (t : TT) : Prop :=
  ∀ (pins : List (Addr × Obj)) (s : Shared) (σ : St) (H : Hp) (Q : Bool → Hp → Prop), Inv X pins σ H s → t σ H Q → wpAny (model X.prog X.w) X.A (isTrue e X.env (eval e X.env)) (TP X pins σ Q) X.xe s
def PW (X : Cx) (e : Expr) (t : TT) : Prop :=
  ∀ (whole : Sem Value) (pins : List (Addr × Obj)) (s : Shared) (σ : St) (H : Hp) (Q : Bool → Hp → Prop), Inv X pins σ H s → t σ H Q → wpAny (model X.prog X.w) X.A (isTrue e X.env whole) (TP X pins σ Q) X.xe s
theorem PW.pt {X : Cx} {e : Expr} {t : TT} (h : PW X e t) : PT X e t := h _
def PA (X : Cx) (es : List Expr) (t : TA) : Prop :=
  ∀ (pos : Pos) (pins : List (Addr × Obj)) (s : Shared) (σ : St) (H : Hp) (Q : List V → Hp → Prop), Inv X pins σ H s → t σ H Q → wpAny (model X.prog X.w) X.A (spliced (backTo pos (starEach es X.env))) (AP X pins σ Q) X.xe s
def PS (X : Cx) (st : Stmt) (t : TS) : Prop :=
  ∀ (pins : List (Addr × Obj)) (s : Shared) (σ : St) (H : Hp) (D : Ends), Inv X pins σ H s → t D σ H → wpAny (model X.prog X.w) X.A (exec st X.env) (SP X pins D) X.xe s
def PSs (X : Cx) (st : List Stmt) (t : TS) : Prop :=
  ∀ (pins : List (Addr × Obj)) (s : Shared) (σ : St) (H : Hp) (D : Ends), Inv X pins σ H s → t D σ H → wpAny (model X.prog X.w) X.A (execs st X.env) (SP X pins D) X.xe s
theorem thn {α : Type} {t : Sem α} {Q Q' : α → Shared → Prop} {M : Model} {A : Around} {E : Value → Shared → Prop} {s : Shared} (h : wpAny M A t Q E s) (hQ : ∀ a s, Q a s → Q' a s) : wpAny M A t Q' E s := wpAny_mono h hQ fun _ _ x => x
end L2
namespace L2
open PySem PySem.Spec PyProof.Rows
section
variable {X : Cx}
def tVar (i : Nat) : TE := fun σ H Q => ∃ v, σ[i]? = some (some v) ∧ Q v H
def tC (v : V) : TE := fun _ H Q => Q v H
theorem pe_var {i : Nat} {x : Str} {pos : Pos} (hN : X.N[i]? = some x) (hv : Vis X.env.scope x) (hd : (x == ("__debug__" : Str)) = false := by decide) (hcd : (x == ("__classdict__" : Str)) = false := by decide) : PE X (.Name x pos) (tVar i) := by
  intro pins s σ H Q I h
  obtain ⟨v, e, h⟩ := h
  obtain ⟨m, hn, hl⟩ := I.loc
  obtain ⟨u, r, l⟩ := hl i x v hN e hv
  have fin : EP X pins σ Q u s := ⟨v, H, I, r, h⟩
  rcases l with ⟨hk, hm⟩ | ⟨hk, c, hc, hcell⟩
  · exact wpAny_Name (wpAny_loadName_local I.ok.kind hk hn hm fin) hd
  · rcases hk with hk | hk
    · exact wpAny_Name (wpAny_loadName_cell I.ok.kind hk hc hcell fin) hd
    · exact wpAny_Name (wpAny_loadName_free I.ok.kind hk hc hcell fin hcd) hd
theorem pe_int {i j pos} : PE X (.Constant (.int i) j pos) (tC (.int i)) := fun _ _ _ H _ I h => wpAny_Constant_int ⟨.int i, H, I.tok _, ⟨_, rfl⟩, h⟩
theorem pe_bl {b j pos} : PE X (.Constant (.bool b) j pos) (tC (.bl b)) := fun _ _ _ H _ I h => Constant_bool ⟨.bl b, H, I, rfl, h⟩
theorem pe_non {j pos} : PE X (.Constant .none j pos) (tC .non) := fun _ _ _ H _ I h => Constant_none ⟨.non, H, I, rfl, h⟩
theorem pe_str {x j pos} : PE X (.Constant (.str x) j pos) (tC (.str x)) := fun _ _ _ H _ I h => Calls.Constant_str ⟨.str x, H, I.tok _, ⟨_, rfl⟩, h⟩
def Gl (X : Cx) (x : Str) : Prop := X.env.kindOf x = some .globalImplicit
theorem ld_glob {E : Value → Shared → Prop} {pins : List (Addr × Obj)} {s : Shared} {σ : St} {H : Hp} {x : Str} {u : Value} {pos : Pos} {Q : Value → Shared → Prop} (I : Inv X pins σ H s) (hg : Gl X x) (hm : X.mg x = some u) (h : Q u s)
    (hd : (x == ("__debug__" : Str)) = false := by decide) : wpAny (model X.prog X.w) X.A (eval (.Name x pos) X.env) Q E s :=
  Calls.Name_function_global I.ok.kind hg (Calls.loadGlobal_global (by rw [I.ok.glob]; exact I.mod.glob.keeps I.bk) hm h) hd
theorem ld_blt {E : Value → Shared → Prop} {pins : List (Addr × Obj)} {s : Shared} {σ : St} {H : Hp} {x : Str} {u : Value} {pos : Pos} {Q : Value → Shared → Prop} (I : Inv X pins σ H s) (hg : Gl X x) (hm : X.mg x = none) (hv : bootBuiltins x = some u) (h : Q u s)
    (hn : x ≠ "__name__" := by decide) (hd : (x == ("__debug__" : Str)) = false := by decide) : wpAny (model X.prog X.w) X.A (eval (.Name x pos) X.env) Q E s := by
  obtain ⟨mb, h1, h2⟩ := I.mod.blt
  exact Calls.Name_function_global I.ok.kind hg (Calls.loadGlobal_builtin (by rw [I.ok.glob]; exact I.mod.glob.keeps I.bk) hm (by rw [I.ok.blt]; exact h1.keeps I.bk) ((h2 x hn).trans hv) h) hd
theorem pe_glob {x : Str} {v : V} {u : Value} {pos : Pos} (hg : Gl X x) (hm : X.mg x = some u) (r : RelV v u) (hd : (x == ("__debug__" : Str)) = false := by decide) : PE X (.Name x pos) (tC v) :=
  fun _ _ _ H _ I h => ld_glob I hg hm ⟨v, H, I, r, h⟩ hd
theorem pe_bltn {x : Str} {v : V} {u : Value} {pos : Pos} (hg : Gl X x) (hm : X.mg x = none) (hv : bootBuiltins x = some u) (r : RelV v u) (hn : x ≠ "__name__" := by decide) (hd : (x == ("__debug__" : Str)) = false := by decide) : PE X (.Name x pos) (tC v) :=
  fun _ _ _ H _ I h => ld_blt I hg hm hv ⟨v, H, I, r, h⟩ hn hd
variable {a b : Expr} {ta tb : TE} {pos : Pos}
def tB (t : TE) : TT := fun σ H Q => t σ H fun x H1 => ∃ c, x = .bl c ∧ Q c H1
theorem pt_val {e : Expr} {t : TE} (h : PE X e t) (he : ∀ whole, isTrue e X.env whole = (do let v ← whole; standAt e.pos; holding [v] (truthy v)) := by intro _; rfl) : PT X e (tB t) := by
  intro pins s σ H Q I hw
  refine isTrue_plain (thn (h pins s σ H _ I hw) fun v s1 ⟨x, H1, I1, r1, q1⟩ => ?_) (he _)
  obtain ⟨d, rfl, q⟩ := q1
  cases r1
  exact wpAny_truthy_bool ⟨H1, I1, q⟩
variable {tA tB' : TT} {rest : List Expr}
def tAnd (t u : TT) : TT := fun σ H Q => t σ H fun c H1 => if c = true then u σ H1 Q else Q false H1
def tOr (t u : TT) : TT := fun σ H Q => t σ H fun c H1 => if c = true then Q true H1 else u σ H1 Q
def tNot (t : TT) : TT := fun σ H Q => t σ H fun c H1 => Q (!c) H1
theorem pw_or1 (ha : PT X a tA) : PW X (.BoolOp .Or [a] pos) tA := by
  intro wh pins s σ H Q I h
  refine isTrue_or (thn (ha pins s σ H Q I h) fun c s1 e => ?_)
  cases c with
  | false => exact isTrue_or_nil e
  | true => exact e
theorem pw_or (ha : PT X a tA) (hb : PW X (.BoolOp .Or (b :: rest) pos) tB') : PW X (.BoolOp .Or (a :: b :: rest) pos) (tOr tA tB') := by
  intro wh pins s σ H Q I h
  refine isTrue_or (thn (ha pins s σ H _ I h) fun c s1 ⟨H1, I1, q1⟩ => ?_)
  cases c with
  | true => exact ⟨H1, I1, q1⟩
  | false => exact hb wh pins s1 σ H1 Q I1 q1
theorem pt_not (ha : PT X a tA) : PT X (.UnaryOp .Not a pos) (tNot tA) := by
  intro pins s σ H Q I h
  exact isTrue_not (ha pins s σ H (fun c H1 => Q (!c) H1) I h)
def tAndV (ta tb : TE) : TE := fun σ H Q => ta σ H fun x H1 => ∃ c, x = .bl c ∧ if c = true then tb σ H1 Q else Q (.bl false) H1
def tOrV (ta tb : TE) : TE := fun σ H Q => ta σ H fun x H1 => ∃ c, x = .bl c ∧ if c = true then Q (.bl true) H1 else tb σ H1 Q
def tNotV (ta : TE) : TE := fun σ H Q => ta σ H fun x H1 => ∃ c, x = .bl c ∧ Q (.bl (!c)) H1
theorem pe_one {op} {t : TE} (h : PE X a t) : PE X (.BoolOp op [a] pos) t := fun pins s σ H Q I hw => BoolOp_one (h pins s σ H Q I hw)
theorem pe_and (ha : PE X a ta) (hb : PE X (.BoolOp .And (b :: rest) pos) tb) : PE X (.BoolOp .And (a :: b :: rest) pos) (tAndV ta tb) := by
  intro pins s σ H Q I h
  refine BoolOp_and (thn (ha pins s σ H _ I h) fun v s1 ⟨x, H1, I1, r1, q1⟩ => ?_)
  obtain ⟨c, rfl, q1⟩ := q1
  cases r1
  refine wpAny_truthy_bool ?_
  cases c with
  | true => exact hb pins s1 σ H1 Q I1 q1
  | false => exact ⟨.bl false, H1, I1, rfl, q1⟩
theorem pe_or (ha : PE X a ta) (hb : PE X (.BoolOp .Or (b :: rest) pos) tb) : PE X (.BoolOp .Or (a :: b :: rest) pos) (tOrV ta tb) := by
  intro pins s σ H Q I h
  refine BoolOp_or (thn (ha pins s σ H _ I h) fun v s1 ⟨x, H1, I1, r1, q1⟩ => ?_)
  obtain ⟨c, rfl, q1⟩ := q1
  cases r1
  refine wpAny_truthy_bool ?_
  cases c with
  | false => exact hb pins s1 σ H1 Q I1 q1
  | true => exact ⟨.bl true, H1, I1, rfl, q1⟩
theorem pe_not (ha : PE X a ta) : PE X (.UnaryOp .Not a pos) (tNotV ta) := by
  intro pins s σ H Q I h
  refine UnaryOp_ (thn (ha pins s σ H _ I h) fun v s1 ⟨x, H1, I1, r1, q1⟩ => ?_)
  obtain ⟨c, rfl, q1⟩ := q1
  cases r1
  exact not_of (wpAny_truthy_bool ⟨.bl (!c), H1, I1, rfl, q1⟩)
def tIf (t : TT) (ta tb : TE) : TE := fun σ H Q => t σ H fun c H1 => if c = true then ta σ H1 Q else tb σ H1 Q
theorem pe_ifExp {c : Expr} (hc : PT X c tA) (ha : PE X a ta) (hb : PE X b tb) : PE X (.IfExp c a b pos) (tIf tA ta tb) := by
  intro pins s σ H Q I h
  refine wpAny_IfExp (thn (hc pins s σ H _ I h) fun d s1 ⟨H1, I1, q1⟩ => ?_)
  cases d with
  | true => exact ha pins s1 σ H1 Q I1 q1
  | false => exact hb pins s1 σ H1 Q I1 q1
end
end L2
namespace L2
open PySem PySem.Spec PyProof.Rows
def SqL (K : PySem.W.Frag) (H : Hp) (a : Addr) (xs : List V) : Prop :=
  Rd H a (.lst xs) ∨
    ∃ (o : Obj) (its : Array Value) (n : Nat), K.lookup a = some o ∧ o.cls = .type "list" ∧ o.dict = none ∧ o.data = .seq its n ∧ its.size ≤ sizeLine ∧ Vals xs its.toList
def SqT (K : PySem.W.Frag) (H : Hp) (a : Addr) (xs : List V) : Prop :=
  Rd H a (.tup xs) ∨
    ∃ (o : Obj) (its : Array Value) (n : Nat), K.lookup a = some o ∧ o.cls = .type "tuple" ∧ o.data = .seq its n ∧ its.size ≤ sizeLine ∧ Vals xs its.toList
def absV : Value → Option V
  | .none => some .non
  | .bool b => some (.bl b)
  | .int i _ => some (.int i)
  | .str x _ => some (.str x)
  | .bytes b _ => some (.byt b)
  | .float b _ => some (.flt b)
  | .ref a => some (.ref a)
  | .type n => some (.ty n)
  | _ => none
theorem RelV.abs {x : V} {u : Value} (r : RelV x u) : absV u = some x := by
  cases x with
  | non => cases r; rfl
  | bl _ => cases r; rfl
  | int _ => obtain ⟨t, rfl⟩ := r; rfl
  | str _ => obtain ⟨t, rfl⟩ := r; rfl
  | byt _ => obtain ⟨t, rfl⟩ := r; rfl
  | flt _ => obtain ⟨t, rfl⟩ := r; rfl
  | ref _ => cases r; rfl
  | ty _ => cases r; rfl
theorem RelV.inj {x y : V} {u : Value} (r : RelV x u) (q : RelV y u) : x = y := Option.some.inj (r.abs.symm.trans q.abs)
theorem Vals.inj : ∀ {xs ys : List V} {us : List Value}, Vals xs us → Vals ys us → xs = ys
  | _, _, _, .nil, .nil => rfl
  | _, _, _, .cons r t, .cons r' t' => by rw [r.inj r', Vals.inj t t']
section
variable {X : Cx} {pins : List (Addr × Obj)} {σ : St} {H : Hp} {s : Shared} {a : Addr} {xs ys : List V}
theorem SqL.of {K : PySem.W.Frag} (h : H a = some (.lst xs)) : SqL K H a xs := .inl (.inl h)
theorem SqT.of {K : PySem.W.Frag} (h : H a = some (.tup xs)) : SqT K H a xs := .inl (.inl h)
theorem Inv.list (I : Inv X pins σ H s) (h : SqL X.K H a xs) : ∃ its : List Value, Vals xs its ∧ PlainL s.heap a its.toArray ∧ xs.length ≤ sizeLine := by
  rcases h with h | ⟨o, its, n, hk, hc, hd, hs, hz, r⟩
  · obtain ⟨z, its, n, r, e⟩ := h.ok I.hok
    exact ⟨its, r, ⟨_, n, e, rfl, rfl, rfl⟩, z⟩
  · refine ⟨its.toList, r, ⟨o, n, I.kIn a o hk, hc, hd, by simpa using hs⟩, ?_⟩
    have e := r.length
    simp only [Array.length_toList] at e
    omega
theorem Inv.tuple (I : Inv X pins σ H s) (h : SqT X.K H a xs) : ∃ its : List Value, Vals xs its ∧ IsTup s.heap a its.toArray ∧ xs.length ≤ sizeLine := by
  rcases h with h | ⟨o, its, n, hk, hc, hs, hz, r⟩
  · obtain ⟨z, its, r, p⟩ := h.ok I.hok
    exact ⟨its, r, p, z⟩
  · refine ⟨its.toList, r, ⟨o, I.kIn a o hk, hc, n, by simpa using hs⟩, ?_⟩
    have e := r.length
    simp only [Array.length_toList] at e
    omega
theorem Inv.list_inj (I : Inv X pins σ H s) (h : SqL X.K H a xs) (h' : SqL X.K H a ys) : xs = ys := by
  obtain ⟨its, r, ⟨o, n, e, _, _, d⟩, _⟩ := I.list h
  obtain ⟨its', r', ⟨o', n', e', _, _, d'⟩, _⟩ := I.list h'
  rw [e] at e'; cases e'
  rw [d] at d'
  injection d' with d1 _
  have : its = its' := by simpa using congrArg Array.toList d1
  subst this
  exact r.inj r'
theorem Inv.tuple_inj (I : Inv X pins σ H s) (h : SqT X.K H a xs) (h' : SqT X.K H a ys) : xs = ys := by
  obtain ⟨its, r, ⟨o, e, _, n, d⟩, _⟩ := I.tuple h
  obtain ⟨its', r', ⟨o', e', _, n', d'⟩, _⟩ := I.tuple h'
  rw [e] at e'; cases e'
  rw [d] at d'
  injection d' with d1 _
  have : its = its' := by simpa using congrArg Array.toList d1
  subst this
  exact r.inj r'
end
abbrev Cx.wish (X : Cx) (E : Value → Shared → Prop) : Cx := { X with xe := E }
abbrev Cx.nox (X : Cx) : Cx := X.wish fun _ _ => False
theorem Cx.Ok.wish {X : Cx} (ok : X.Ok) (E : Value → Shared → Prop) : (X.wish E).Ok :=
  ⟨ok.mod, ok.kind, ok.glob, ok.blt, ok.above, ok.inj, ok.has, ok.cab, ok.hd, ok.frames, ok.stk, ok.exf, ok.bs, ok.bsz, ok.noex, ok.exfs, ok.funs, ok.frf⟩
theorem Cx.Ok.unwish {X : Cx} {E : Value → Shared → Prop} (ok : (X.wish E).Ok) : X.Ok :=
  ⟨ok.mod, ok.kind, ok.glob, ok.blt, ok.above, ok.inj, ok.has, ok.cab, ok.hd, ok.frames, ok.stk, ok.exf, ok.bs, ok.bsz, ok.noex, ok.exfs, ok.funs, ok.frf⟩
section
variable {X : Cx} {pins : List (Addr × Obj)} {σ : St} {H : Hp} {s : Shared} {E : Value → Shared → Prop}
theorem Inv.wish (I : Inv X pins σ H s) (E : Value → Shared → Prop) : Inv (X.wish E) pins σ H s := ⟨I.ok.wish E, I.os, I.bare, I.base, I.loc, I.cell, I.free, I.freeC, I.pin, I.hok, I.len⟩
theorem Inv.unwish (I : Inv (X.wish E) pins σ H s) : Inv X pins σ H s := ⟨I.ok.unwish, I.os, I.bare, I.base, I.loc, I.cell, I.free, I.freeC, I.pin, I.hok, I.len⟩
theorem SP.unwish {D : Ends} {f : Flow} {s' : Shared} (h : SP (X.wish E) pins D f s') : SP X pins D f s' := by
  cases f with
  | next => obtain ⟨σ', H', I, q⟩ := h; exact ⟨σ', H', I.unwish, q⟩
  | brk => obtain ⟨σ', H', I, q⟩ := h; exact ⟨σ', H', I.unwish, q⟩
  | cont => obtain ⟨σ', H', I, q⟩ := h; exact ⟨σ', H', I.unwish, q⟩
  | ret u => obtain ⟨v, σ', H', I, r, q⟩ := h; exact ⟨v, σ', H', I.unwish, r, q⟩
theorem PE.nox {e : Expr} {t : TE} (h : PE X.nox e t) : PE X e t := fun pins s σ H Q I hw =>
  wpAny_mono (h pins s σ H Q (I.wish _) hw) (fun _ _ ⟨v, H', I', r, q⟩ => ⟨v, H', I'.unwish, r, q⟩) fun _ _ z => False.elim z
theorem PT.nox {e : Expr} {t : TT} (h : PT X.nox e t) : PT X e t := fun pins s σ H Q I hw =>
  wpAny_mono (h pins s σ H Q (I.wish _) hw) (fun _ _ ⟨H', I', q⟩ => ⟨H', I'.unwish, q⟩) fun _ _ z => False.elim z
theorem PSs.nox {st : List Stmt} {t : TS} (h : PSs X.nox st t) : PSs X st t := fun pins s σ H D I hw =>
  wpAny_mono (h pins s σ H D (I.wish _) hw) (fun _ _ q => q.unwish) fun _ _ z => False.elim z
end
section
variable {X : Cx} {st : Stmt} {rest : List Stmt} {t u : TS} {e : Expr} {te : TE} {pos : Pos}
def tNext : TS := fun D σ H => D.nx σ H
def tSeq (t u : TS) : TS := fun D σ H => t { D with nx := u D } σ H
theorem pss_nil : PSs X [] tNext := fun _ _ σ H _ I h => wpAny_execs_nil ⟨σ, H, I, h⟩
theorem pss_cons (h1 : PS X st t) (h2 : PSs X rest u) : PSs X (st :: rest) (tSeq t u) := by
  intro pins s σ H D I h
  refine wpAny_execs_cons (thn (h1 pins s σ H { D with nx := u D } I h) fun f s1 q => ?_)
  cases f with
  | next =>
    obtain ⟨σ', H', I', q⟩ := q
    exact h2 pins s1 σ' H' D I' q
  | ret v => exact q
  | brk => exact q
  | cont => exact q
theorem pss_one (h1 : PS X st t) : PSs X [st] t := by
  intro pins s σ H D I h
  refine wpAny_execs_cons (thn (h1 pins s σ H D I h) fun f s1 q => ?_)
  cases f with
  | next => exact wpAny_execs_nil q
  | ret v => exact q
  | brk => exact q
  | cont => exact q
def tBreak : TS := fun D σ H => D.bk σ H
def tCont : TS := fun D σ H => D.ct σ H
theorem ps_break : PS X (.Break pos) tBreak := fun _ _ σ H _ I h => wpAny_Break ⟨σ, H, I, h⟩
theorem Inv.quiet {pins : List (Addr × Obj)} {σ : St} {H : Hp} {s : Shared} (I : Inv X pins σ H s) : interactive X.env = false := by simp [interactive, I.ok.kind]
def tDrop (te : TE) : TS := fun D σ H => te σ H fun _ H1 => D.nx σ H1
theorem ps_expr (he : PE X e te) (hs : swapsWith e none pos.line X.env = pure false := by rfl) : PS X (.Expr e pos) (tDrop te) := by
  intro pins s σ H D I h
  exact wpAny_Expr_any (thn (he pins s σ H _ I h) fun v s1 ⟨x, H1, I1, r1, q1⟩ => ⟨σ, H1, I1, q1⟩) I.quiet hs
def tRet (te : TE) : TS := fun D σ H => te σ H D.rt
theorem ps_ret (he : PE X e te) : PS X (.Return (some e) pos) (tRet te) := by
  intro pins s σ H D I h
  exact wpAny_Return_some (thn (he pins s σ H _ I h) fun v s1 ⟨x, H1, I1, r1, q1⟩ => ⟨x, σ, H1, I1, r1, q1⟩)
def tRetN : TS := fun D _ H => D.rt .non H
def tIfS (c : TT) (t u : TS) : TS := fun D σ H => c σ H fun b H1 => if b = true then t D σ H1 else u D σ H1
theorem ps_if {c : Expr} {a b : List Stmt} {tc : TT} (hc : PT X c tc) (ha : PSs X a t) (hb : PSs X b u) : PS X (.If c a b pos) (tIfS tc t u) := by
  intro pins s σ H D I h
  refine wpAny_If (thn (hc pins s σ H _ I h) fun d s1 ⟨H1, I1, q1⟩ => ?_)
  cases d with
  | true => exact ha pins s1 σ H1 D I1 q1
  | false => exact hb pins s1 σ H1 D I1 q1
def tNever : TS := fun _ _ _ => False
theorem ps_never : PS X st tNever := fun _ _ _ _ _ _ h => h.elim
end
abbrev TG := V → St → Hp → (St → Hp → Prop) → Prop
abbrev TGs := List V → St → Hp → (St → Hp → Prop) → Prop
def PG (X : Cx) (target : Expr) (t : TG) : Prop :=
  ∀ (pins : List (Addr × Obj)) (s : Shared) (σ : St) (H : Hp) (v : V) (u : Value) (Q : St → Hp → Prop), Inv X pins σ H s → RelV v u → t v σ H Q →
    wpAny (model X.prog X.w) X.A (assign target X.env u) (fun _ s' => ∃ σ' H', Inv X pins σ' H' s' ∧ Q σ' H') X.xe s
def PGs (X : Cx) (ts : List Expr) (t : TGs) : Prop :=
  ∀ (pins : List (Addr × Obj)) (s : Shared) (σ : St) (H : Hp) (vs : List V) (us : List Value) (Q : St → Hp → Prop), Inv X pins σ H s → Vals vs us → t vs σ H Q →
    wpAny (model X.prog X.w) X.A (assignInOrder ((assignEach ts X.env).map (·.2)) us) (fun _ s' => ∃ σ' H', Inv X pins σ' H' s' ∧ Q σ' H') X.xe s
section
variable {X : Cx} {pos : Pos}
def gName (i : Nat) : TG := fun v σ H Q => Q (σ.set i (some v)) H
theorem pg_name {i : Nat} {x : Str} (hN : X.N.Nodup) (hi : X.N[i]? = some x) (hx : Loc X.env.scope x) (hf : X.fn x = true ∨ X.env.scope.names.lookup x = some .local := by first | exact .inl rfl | exact .inr rfl | assumption) : PG X (.Name x pos) (gName i) := by
  intro pins s σ H v u Q I r h
  exact wpAny_assign_Name (store_ok I hN hi hx r (fun s' I' => ⟨_, H, I', h⟩) hf)
def gNil : TGs := fun vs σ H Q => vs = [] ∧ Q σ H
def gCons (t : TG) (u : TGs) : TGs := fun vs σ H Q => ∃ v r, vs = v :: r ∧ t v σ H fun σ' H' => u r σ' H' Q
theorem pgs_nil : PGs X [] gNil := by
  intro pins s σ H vs us Q I r h
  obtain ⟨e, h⟩ := h
  subst e
  cases r
  exact assignInOrder_nil ⟨σ, H, I, h⟩
theorem pgs_cons {e : Expr} {es : List Expr} {t : TG} {u : TGs} (h1 : PG X e t) (h2 : PGs X es u)
    (hs : (assignEach (e :: es) X.env).map (·.2) = assign e X.env :: (assignEach es X.env).map (·.2) := by rfl) : PGs X (e :: es) (gCons t u) := by
  intro pins s σ H vs us Q I r h
  obtain ⟨v, vr, e1, h⟩ := h
  subst e1
  cases r with
  | cons r rr =>
    rw [hs]
    refine assignInOrder_cons (thn (h1 pins s σ H _ _ _ I r h) fun _ s1 ⟨σ1, H1, I1, q1⟩ => ?_)
    exact h2 pins s1 σ1 H1 _ _ Q I1 rr q1
def gTup (K : PySem.W.Frag) (n : Nat) (t : TGs) : TG := fun v σ H Q => ∃ a xs, v = .ref a ∧ SqT K H a xs ∧ xs.length = n ∧ t xs σ H Q
theorem pg_tup {es : List Expr} {k : Nat} {t : TGs} {n : Nat} (hc : X.calm = true) (h : PGs X es t)
    (hn : (assignEach es X.env).length = n := by rfl) (hst : (assignEach es X.env).findIdx? (·.1) = none := by rfl) : PG X (.Tuple es k pos) (gTup X.K n t) := by
  intro pins s σ H v u Q I r hw
  obtain ⟨a, xs, e1, hq, hl, hw⟩ := hw
  subst e1
  cases r
  obtain ⟨its, rv, ht, hz⟩ := I.tuple hq
  refine assign_Tuple_tuple (I.ok.hd hc) ht (by simp [hn, ← hl, rv.length]) hst fun h' hx => ?_
  have I1 : Inv X pins σ H { s with heap := h' } := I.kept (t' := s.toks) fun b o e => hx b o (Nat.ne_of_lt (Heap.lt_size e)) e
  exact h pins _ σ H xs _ Q I1 (by simpa using rv) hw
def tAsg (te : TE) (g : TG) : TS := fun D σ H => te σ H fun x H1 => g x σ H1 D.nx
theorem ps_asg {tg e : Expr} {te : TE} {g : TG} (he : PE X e te) (hg : PG X tg g) (hs : swapsWithSole [tg] e pos.line X.env = pure false := by rfl) (hw : swappedStores [tg] e X.env = pure none := by rfl)
    (h1 : (assignEach [tg] X.env).map (·.2) = [assign tg X.env] := by rfl) : PS X (.Assign [tg] e pos) (tAsg te g) := by
  intro pins s σ H D I h
  refine wpAny_Assign_stores (thn (he pins s σ H _ I h) fun v s1 ⟨x, H1, I1, r1, q1⟩ => ?_) hs hw
  rw [h1]
  exact thn (hg pins s1 σ H1 x v _ I1 r1 q1) fun _ s2 q => q
theorem ps_set {i : Nat} {x : Str} {e : Expr} {te : TE} {pos' : Pos} (hN : X.N.Nodup) (hi : X.N[i]? = some x) (hx : Loc X.env.scope x) (he : PE X e te) (hs : swapsWith e (some (.Name x pos')) pos.line X.env = pure false := by rfl) (hf : X.fn x = true ∨ X.env.scope.names.lookup x = some .local := by first | exact .inl rfl | exact .inr rfl | assumption) :
    PS X (.Assign [.Name x pos'] e pos) (tAsg te (gName i)) := by
  intro pins s σ H D I h
  refine wpAny_Assign_Name (thn (he pins s σ H _ I h) fun v s1 ⟨y, H1, I1, r1, q1⟩ => ?_) hs
  exact store_ok I1 hN hi hx r1 (fun s2 I2 => ⟨_, H1, I2, q1⟩) hf
end
section
variable {X : Cx} {pos : Pos}
def tWhile (c : TT) (tb : TS) : TS := fun D σ H => ∃ W : Nat → St → Hp → Prop, (∃ m, W m σ H) ∧ ∀ m σ H, W m σ H →
  c σ H fun b H1 => if b = true then ∃ N : St → Hp → Prop, (∀ σ' H', N σ' H' → ∃ m', m' < m ∧ W m' σ' H') ∧ tb { D with nx := N, ct := N, bk := D.nx } σ H1 else D.nx σ H1
theorem ps_while {c : Expr} {body : List Stmt} {tc : TT} {tb : TS} (hp : PassesOwn (model X.prog X.w) X.A X.env X.xe) (hc : PT X c tc) (hb : PSs X body tb) : PS X (.While c body [] pos) (tWhile tc tb) := by
  intro pins s σ H D I h
  obtain ⟨W, ⟨m0, w0⟩, turn⟩ := h
  refine wpAny_While (codeAny_whileLoop (fun n s' => ∃ σ' H', Inv X pins σ' H' s' ∧ W n σ' H') ?_ m0 ⟨σ, H, I, w0⟩)
  rintro n s1 ⟨σ1, H1, I1, w1⟩
  refine wpAny_passesOwn hp (thn (hc pins s1 σ1 H1 _ I1 (turn n σ1 H1 w1)) fun b s2 ⟨H2, I2, q2⟩ => ?_)
  cases b with
  | true =>
    obtain ⟨N, hN, q2⟩ := q2
    rw [if_pos rfl]
    refine wpAny_passesOwn hp (thn (hb pins s2 σ1 H2 _ I2 q2) fun f s3 q3 => ?_)
    cases f with
    | next =>
      obtain ⟨σ3, H3, I3, n3⟩ := q3
      obtain ⟨m', hm, w3⟩ := hN σ3 H3 n3
      exact ⟨m', hm, σ3, H3, I3, w3⟩
    | cont =>
      obtain ⟨σ3, H3, I3, n3⟩ := q3
      obtain ⟨m', hm, w3⟩ := hN σ3 H3 n3
      exact ⟨m', hm, σ3, H3, I3, w3⟩
    | brk => exact q3
    | ret v => exact q3
  | false =>
    rw [if_neg Bool.false_ne_true]
    exact wpAny_execs_nil ⟨σ1, H2, I2, q2⟩
end
structure It where
  go : Nat → Hp → Prop
  yld : Nat → Hp → V → Hp → Prop
  stop : Nat → Hp → Prop
def FpOk (X : Cx) (pins : List (Addr × Obj)) (H : Hp) (b : Addr) : Prop :=
  H b = none ∧ b ≠ X.env.locals ∧ b ∉ X.fs ∧ (b ∈ X.ex ∨ X.s₀.heap.objs.size ≤ b) ∧ (∀ x c, X.env.cells.lookup x = some c → c ≠ b) ∧ ∀ p ∈ X.pn ++ pins, p.1 ≠ b
theorem Inv.fpOk {X : Cx} {pins : List (Addr × Obj)} {σ : St} {H H' : Hp} {s : Shared} {b : Addr} (I : Inv X pins σ H s) (hb : s.heap.objs.size ≤ b) (hn : H' b = none) : FpOk X pins H' b := by
  refine ⟨hn, Nat.ne_of_gt (Nat.lt_of_lt_of_le I.lt hb), I.nofs hb, .inr (Nat.le_trans I.sz hb), fun x c e z => ?_, fun p hp z => ?_⟩
  · obtain ⟨v, q⟩ := I.cell x c e
    exact absurd (Nat.lt_of_lt_of_le q.lt (by rw [z]; exact hb)) (Nat.lt_irrefl _)
  · exact absurd (Nat.lt_of_lt_of_le (Heap.lt_size (I.pin p hp).1) (by rw [z]; exact hb)) (Nat.lt_irrefl _)
structure Turn (P : Program) (w : World) (K : PySem.W.Frag) (tg : Expr) (J : It) (fp : List Addr) (it : Addr) (tn : Nat → Heap → Prop) : Prop where
  mem : it ∈ fp
  obj : ∀ i h, tn i h → ∀ b ∈ fp, ∃ o, h.get? b = some o ∧ ∀ v, o.data ≠ .cell v
  keep : ∀ i h h', tn i h → (∀ b ∈ fp, ∀ o, h.get? b = some o → h'.get? b = some o) → tn i h'
  item : ∀ (X : Cx), X.prog = P → X.w = w → X.K = K → X.calm = true → ∀ (i : Nat) (pins : List (Addr × Obj)) (s : Shared) (σ : St) (H : Hp) (E : Value → Shared → Prop), Inv X pins σ H s → (∀ b ∈ fp, FpOk X pins H b) → tn i s.heap → J.go i H →
    wpAny (model P w) X.A (pyNext (.ref it)) (fun r s1 => ∃ u, r = some u ∧
      wpAny (model P w) X.A (letOwnedTupleGo tg (.ref it) u) (fun _ s2 => ∃ x H', Inv X pins σ H' s2 ∧ RelV x u ∧ J.yld i H x H' ∧ tn (i + 1) s2.heap ∧ ∀ b ∈ fp, H' b = none) E s1) E s
  done : ∀ (X : Cx), X.prog = P → X.w = w → X.K = K → X.calm = true → ∀ (i : Nat) (pins : List (Addr × Obj)) (s : Shared) (σ : St) (H : Hp) (E : Value → Shared → Prop), Inv X pins σ H s → (∀ b ∈ fp, FpOk X pins H b) → tn i s.heap → J.stop i H →
    wpAny (model P w) X.A (pyNext (.ref it)) (fun r s1 => r = none ∧ Inv X pins σ H s1) E s
  self : ∀ (A : Around) (i : Nat) (s : Shared) (Q : Value → Shared → Prop) (E : Value → Shared → Prop), tn i s.heap → Q (.ref it) s → wpAny (model P w) A (pyIter (.ref it)) Q E s
abbrev TI := St → Hp → (It → Hp → Prop) → Prop
def PIE (X : Cx) (pins : List (Addr × Obj)) (σ : St) (tg : Expr) (R : It → Hp → Prop) (itv : Value) (s2 : Shared) : Prop :=
  ∃ (it : Addr) (fp : List Addr) (tn : Nat → Heap → Prop) (J : It) (H' : Hp), itv = .ref it ∧ Inv X pins σ H' s2 ∧ Turn X.prog X.w X.K tg J fp it tn ∧ tn 0 s2.heap ∧ (∀ b ∈ fp, FpOk X pins H' b) ∧ R J H'
def PI (X : Cx) (tg iter : Expr) (wi : TI) : Prop :=
  ∀ (pins : List (Addr × Obj)) (s : Shared) (σ : St) (H : Hp) (R : It → Hp → Prop), Inv X pins σ H s → wi σ H R →
    wpAny (model X.prog X.w) X.A (eval iter X.env) (fun v s1 => wpAny (model X.prog X.w) X.A (pyIter v) (PIE X pins σ tg R) X.xe s1) X.xe s
theorem go_of {M : Model} {A : Around} {E : Value → Shared → Prop} {s : Shared} {tg : Expr} {it : Addr} {u : Value} {o : Obj} {n : String} {vs : Array Value} {Q : Unit → Shared → Prop} (ho : s.heap.get? it = some o) (hc : o.cls = .type n) (hd : o.data = .fields vs)
    (hn : ["enumerate", "zip", "dict_itemiterator", "dict_reverseitemiterator", "odict_iterator", "itertools.zip_longest", "itertools.pairwise"].contains n = false) (hQ : Q () s) : wpAny M A (letOwnedTupleGo tg (.ref it) u) Q E s := by
  unfold letOwnedTupleGo
  cases tg <;> first
    | exact wpAny_pure hQ
    | (cases u <;> first
        | exact wpAny_pure hQ
        | (refine wpAny_bind (wpAny_load ho ?_)
           rw [hc, hd]
           show wpAny M A (if (["enumerate", "zip", "dict_itemiterator", "dict_reverseitemiterator", "odict_iterator", "itertools.zip_longest", "itertools.pairwise"].contains n && vs[0]? == some (rawInt _)) = true then _ else _) Q E s
           rw [if_neg (by intro h; rw [hn, Bool.false_and] at h; cases h)]
           exact wpAny_pure hQ))
def Itl (K : PySem.W.Frag) (a : Addr) : It :=
  ⟨fun i H => ∃ xs x, SqL K H a xs ∧ xs[i]? = some x, fun i H x H' => H' = H ∧ ∀ xs, SqL K H a xs → xs[i]? = some x, fun i H => ∃ xs, SqL K H a xs ∧ xs.length ≤ i⟩
def Itt (K : PySem.W.Frag) (a : Addr) : It :=
  ⟨fun i H => ∃ xs x, SqT K H a xs ∧ xs[i]? = some x, fun i H x H' => H' = H ∧ ∀ xs, SqT K H a xs → xs[i]? = some x, fun i H => ∃ xs, SqT K H a xs ∧ xs.length ≤ i⟩
def Itr (lo : Int) (n : Nat) : It := ⟨fun i _ => i < n, fun i H x H' => H' = H ∧ x = .int (lo + i), fun i _ => n ≤ i⟩
theorem turn_list {P : Program} {w : World} {K : PySem.W.Frag} {tg : Expr} (a it : Addr) : Turn P w K tg (Itl K a) [it] it (fun i h => h.IsListIter it a i) where
  mem := by simp
  obj := fun i h st b hb => by
    have e : b = it := by simpa using hb
    subst e
    obtain ⟨o, e, c, d⟩ := st
    exact ⟨o, e, fun v z => by rw [d] at z; cases z⟩
  keep := fun i h h' st k => st.at fun o e => k it (by simp) o e
  item := by
    intro X hP hw hK hc i pins s σ H E I hf st hg
    subst hP hw hK
    obtain ⟨xs, x, hq, hx⟩ := hg
    obtain ⟨its, rv, p, hz⟩ := I.list hq
    obtain ⟨u, hu, ru⟩ := rv.get hx
    obtain ⟨f0, f1, f2, f3, f4, f5⟩ := hf it (by simp)
    refine wpAny_pyNext_list_item st p.isList (x := u) (by simpa using hu) fun h' st' sb => ?_
    have I1 : Inv X pins σ H { s with heap := h' } := I.turned (t' := s.toks) (fun b o hb e => (sb.2 b hb).trans e) f0 f1 f3 f4 f5
    obtain ⟨o, e, c, d⟩ := id st'
    exact ⟨u, rfl, go_of (s := { s with heap := h' }) e c d (by decide) ⟨x, H, I1, ru, ⟨rfl, fun ys hy => by rw [I.list_inj hy hq]; exact hx⟩, st', fun b hb => (hf b hb).1⟩⟩
  done := by
    intro X hP hw hK hc i pins s σ H E I hf st hg
    subst hP hw hK
    obtain ⟨xs, hq, hx⟩ := hg
    obtain ⟨its, rv, p, hz⟩ := I.list hq
    obtain ⟨f0, f1, f2, f3, f4, f5⟩ := hf it (by simp)
    have hl := rv.length
    exact wpAny_pyNext_list_end (I.ok.hd hc) st p.isList (by simp; omega) fun h' eb => ⟨rfl, I.turned (t' := s.toks) (fun b o hb e => eb b o hb e) f0 f1 f3 f4 f5⟩
  self := fun _ _ _ _ _ st h => wpAny_pyIter_listiter st h
theorem turn_tuple {P : Program} {w : World} {K : PySem.W.Frag} {tg : Expr} (a it : Addr) : Turn P w K tg (Itt K a) [it] it (fun i h => h.IsTupleIter it a i) where
  mem := by simp
  obj := fun i h st b hb => by
    have e : b = it := by simpa using hb
    subst e
    obtain ⟨o, e, c, d⟩ := st
    exact ⟨o, e, fun v z => by rw [d] at z; cases z⟩
  keep := fun i h h' st k => st.at fun o e => k it (by simp) o e
  item := by
    intro X hP hw hK hc i pins s σ H E I hf st hg
    subst hP hw hK
    obtain ⟨xs, x, hq, hx⟩ := hg
    obtain ⟨its, rv, p, hz⟩ := I.tuple hq
    obtain ⟨u, hu, ru⟩ := rv.get hx
    obtain ⟨f0, f1, f2, f3, f4, f5⟩ := hf it (by simp)
    refine wpAny_pyNext_tuple_item st (show s.heap.IsTuple a its.toArray from p) (x := u) (by simpa using hu) fun h' st' sb => ?_
    have I1 : Inv X pins σ H { s with heap := h' } := I.turned (t' := s.toks) (fun b o hb e => (sb.2 b hb).trans e) f0 f1 f3 f4 f5
    obtain ⟨o, e, c, d⟩ := id st'
    exact ⟨u, rfl, go_of (s := { s with heap := h' }) e c d (by decide) ⟨x, H, I1, ru, ⟨rfl, fun ys hy => by rw [I.tuple_inj hy hq]; exact hx⟩, st', fun b hb => (hf b hb).1⟩⟩
  done := by
    intro X hP hw hK hc i pins s σ H E I hf st hg
    subst hP hw hK
    obtain ⟨xs, hq, hx⟩ := hg
    obtain ⟨its, rv, p, hz⟩ := I.tuple hq
    obtain ⟨f0, f1, f2, f3, f4, f5⟩ := hf it (by simp)
    have hl := rv.length
    exact wpAny_pyNext_tuple_end (I.ok.hd hc) st (show s.heap.IsTuple a its.toArray from p) (by simp; omega) fun h' eb => ⟨rfl, I.turned (t' := s.toks) (fun b o hb e => eb b o hb e) f0 f1 f3 f4 f5⟩
  self := fun _ _ _ _ _ st h => wpAny_pyIter_tupleiter st h
theorem turn_range {P : Program} {w : World} {K : PySem.W.Frag} {tg : Expr} (it : Addr) (lo : Int) (n : Nat) : Turn P w K tg (Itr lo n) [it] it (fun i h => IsRangeIter h it (lo + (i : Nat) * 1) ((n : Int) - (i : Nat)) 1) where
  mem := by simp
  obj := fun i h st b hb => by
    have e : b = it := by simpa using hb
    subst e
    exact ⟨_, st, fun v z => by
      have z' : Data.fields _ = Data.cell v := z
      cases z'⟩
  keep := fun i h h' st k => k it (by simp) _ st
  item := by
    intro X hP hw hK hc i pins s σ H E I hf st hg
    subst hP hw hK
    obtain ⟨f0, f1, f2, f3, f4, f5⟩ := hf it (by simp)
    have W := Walks.range (prog := X.prog) (w := X.w) (I.ok.hd hc) it lo 1 n
    refine W.item i s _ _ hg st fun v h' tk hv st' kk => ?_
    obtain ⟨t, rfl⟩ := hv
    have I1 : Inv X pins σ H { s with heap := h', toks := tk } := I.turned (fun b o hb e => kk b o (by simpa using hb) e) f0 f1 f3 f4 f5
    refine ⟨_, rfl, go_of (s := { s with heap := h', toks := tk }) (n := "range_iterator") st' rfl rfl (by decide) ⟨.int (lo + i), H, I1, ⟨t, ?_⟩, ⟨rfl, rfl⟩, st', fun b hb => (hf b hb).1⟩⟩
    rw [Int.mul_one]
  done := by
    intro X hP hw hK hc i pins s σ H E I hf st hg
    subst hP hw hK
    obtain ⟨f0, f1, f2, f3, f4, f5⟩ := hf it (by simp)
    exact wpAny_pyNext_range_end (I.ok.hd hc) st (by have : n ≤ i := hg; omega) fun h' eb => ⟨rfl, I.turned (t' := s.toks) (fun b o hb e => eb b o hb e) f0 f1 f3 f4 f5⟩
  self := fun _ _ _ _ _ st h => wpAny_pyIter_rangeiter st h
end L2
namespace L2
open PySem PySem.Spec PyProof.Rows
section
variable {X : Cx} {tg : Expr}
def iList (K : PySem.W.Frag) (tl : TE) : TI := fun σ H R => tl σ H fun x H1 => ∃ a, x = .ref a ∧ (∃ xs, SqL K H1 a xs) ∧ R (Itl K a) H1
def iTup (K : PySem.W.Frag) (tl : TE) : TI := fun σ H R => tl σ H fun x H1 => ∃ a, x = .ref a ∧ (∃ xs, SqT K H1 a xs) ∧ R (Itt K a) H1
theorem pi_list {l : Expr} {tl : TE} (hl : PE X l tl) : PI X tg l (iList X.K tl) := by
  intro pins s σ H R I h
  refine thn (hl pins s σ H _ I h) fun v s1 ⟨x, H1, I1, r1, q1⟩ => ?_
  obtain ⟨a, e, ⟨xs, hq⟩, q⟩ := q1
  subst e
  cases r1
  obtain ⟨its, rv, p, hz⟩ := I1.list hq
  refine wpAny_pyIter_list p.isList ?_
  refine ⟨s1.heap.objs.size, [s1.heap.objs.size], _, _, H1, rfl, I1.kept (t' := s1.toks) fun b o e => Heap.get?_push_of_some _ e, turn_list a _, ⟨_, Heap.get?_push_size _ rfl, rfl, rfl⟩, fun b hb => ?_, q⟩
  have e : b = s1.heap.objs.size := by simpa using hb
  subst e
  exact I1.fpOk (Nat.le_refl _) (I1.hok.fresh (Nat.le_refl _))
theorem pi_tup {l : Expr} {tl : TE} (hl : PE X l tl) : PI X tg l (iTup X.K tl) := by
  intro pins s σ H R I h
  refine thn (hl pins s σ H _ I h) fun v s1 ⟨x, H1, I1, r1, q1⟩ => ?_
  obtain ⟨a, e, ⟨xs, hq⟩, q⟩ := q1
  subst e
  cases r1
  obtain ⟨its, rv, p, hz⟩ := I1.tuple hq
  refine wpAny_pyIter_tuple (show s1.heap.IsTuple a its.toArray from p) ?_
  refine ⟨s1.heap.objs.size, [s1.heap.objs.size], _, _, H1, rfl, I1.kept (t' := s1.toks) fun b o e => Heap.get?_push_of_some _ e, turn_tuple a _, ⟨_, Heap.get?_push_size _ rfl, rfl, rfl⟩, fun b hb => ?_, q⟩
  have e : b = s1.heap.objs.size := by simpa using hb
  subst e
  exact I1.fpOk (Nat.le_refl _) (I1.hok.fresh (Nat.le_refl _))
theorem range_it {pins : List (Addr × Obj)} {σ : St} {H : Hp} {s : Shared} {R : It → Hp → Prop} {E : Value → Shared → Prop} {lo hi : Int} {t u v : Tok} {tk : Nat} (I : Inv X pins σ H s) (h1 : -(2 ^ 62) ≤ lo) (h2 : lo < 2 ^ 62) (h3 : -(2 ^ 62) ≤ hi) (h4 : hi < 2 ^ 62)
    (q : R (Itr lo (hi - lo).toNat) H) : wpAny (model X.prog X.w) X.A (pyIter (.ref s.heap.objs.size)) (PIE X pins σ tg R) E { s with heap := s.heap.push { cls := .type "range", data := .fields #[.int lo t, .int hi u, .int 1 v] }, toks := tk } := by
  refine wpAny_pyIter_range (IsRange.new ..) (small_one h1 h2 h3 h4) ?_
  have I1 : Inv X pins σ H { s with heap := s.heap.push { cls := .type "range", data := .fields #[.int lo t, .int hi u, .int 1 v] }, toks := tk } := I.kept fun b o e => Heap.get?_push_of_some _ e
  refine ⟨(s.heap.push { cls := .type "range", data := .fields #[.int lo t, .int hi u, .int 1 v] }).objs.size, [(s.heap.push { cls := .type "range", data := .fields #[.int lo t, .int hi u, .int 1 v] }).objs.size], _, _, H, rfl,
    I1.kept (t' := tk) fun b o e => Heap.get?_push_of_some _ e, turn_range _ lo (hi - lo).toNat, ?_, fun b hb => ?_, q⟩
  · have e1 : lo + ((0 : Nat) : Int) * 1 = lo := by simp
    have e2 : (((hi - lo).toNat : Nat) : Int) - ((0 : Nat) : Int) = Builtin.Range.rangeSize lo hi 1 := by rw [rangeSize_one]; split <;> omega
    show IsRangeIter _ _ (lo + ((0 : Nat) : Int) * 1) ((((hi - lo).toNat : Nat) : Int) - ((0 : Nat) : Int)) 1
    rw [e1, e2]
    exact Heap.get?_push_size _ rfl
  · have e : b = (s.heap.push { cls := .type "range", data := .fields #[.int lo t, .int hi u, .int 1 v] }).objs.size := by simpa using hb
    subst e
    exact I1.fpOk (Nat.le_refl _) (I1.hok.fresh (Nat.le_refl _))
def iRng1 (ta : TA) : TI := fun σ H R => ta σ H fun vs H1 => ∃ j : Int, vs = [.int j] ∧ -(2 ^ 62) ≤ j ∧ j < 2 ^ 62 ∧ R (Itr 0 j.toNat) H1
def iRng2 (ta : TA) : TI := fun σ H R => ta σ H fun vs H1 => ∃ i j : Int, vs = [.int i, .int j] ∧ (-(2 ^ 62) ≤ i ∧ i < 2 ^ 62 ∧ -(2 ^ 62) ≤ j ∧ j < 2 ^ 62) ∧ R (Itr i (j - i).toNat) H1
theorem pi_range1 {a : Expr} {ta : TA} {p pos : Pos} (hg : Gl X "range") (hm : X.mg "range" = none) (ha : PA X [a] ta) (hs : starEach [a] X.env = [(false, eval a X.env)] := by rfl) : PI X tg (.Call (.Name "range" p) [a] [] pos) (iRng1 ta) := by
  intro pins s σ H R I h
  refine Call_ (ld_blt I hg hm boot_range (PyProof.Rows.callWith_type1 (thn (ha pos pins s σ H _ I h) fun us s1 ⟨vs, H1, I1, r1, q1⟩ => ?_) hs rfl))
  obtain ⟨j, e, q1, q2, q⟩ := q1
  subst e
  cases r1 with
  | cons r rr =>
    cases rr
    obtain ⟨t, rfl⟩ := r
    exact call_range_1 (range_it I1 (by omega) (by omega) q1 q2 (by simpa using q))
def tFor (wi : TI) (g : TG) (tb : TS) : TS := fun D σ H => wi σ H fun J H1 => ∃ W : Nat → Nat → St → Hp → Prop, (∃ m, W 0 m σ H1) ∧ ∀ i m σ H, W i m σ H →
  (J.stop i H ∧ D.nx σ H) ∨ (J.go i H ∧ ∃ N : St → Hp → Prop, (∀ σ' H', N σ' H' → ∃ m', m' < m ∧ W (i + 1) m' σ' H') ∧ ∀ x H', J.yld i H x H' → g x σ H' fun σ2 H2 => tb { D with nx := N, ct := N, bk := D.nx } σ2 H2)
def pinsAt (fp : List Addr) (h : Heap) : List (Addr × Obj) := fp.filterMap fun b => (h.get? b).map fun o => (b, o)
theorem mem_pinsAt {fp : List Addr} {h : Heap} {b : Addr} {o : Obj} (hb : b ∈ fp) (e : h.get? b = some o) : (b, o) ∈ pinsAt fp h := List.mem_filterMap.mpr ⟨b, hb, by rw [e]; rfl⟩
theorem of_pinsAt {fp : List Addr} {h : Heap} {p : Addr × Obj} (hp : p ∈ pinsAt fp h) : p.1 ∈ fp ∧ h.get? p.1 = some p.2 := by
  obtain ⟨b, hb, e⟩ := List.mem_filterMap.mp hp
  cases q : h.get? b with
  | none => rw [q] at e; cases e
  | some o =>
    rw [q] at e
    have e' : (b, o) = p := Option.some.inj e
    subst e'
    exact ⟨hb, q⟩
theorem Inv.pinned {pins : List (Addr × Obj)} {σ : St} {H : Hp} {s : Shared} {fp : List Addr} (I : Inv X pins σ H s) (hf : ∀ b ∈ fp, FpOk X pins H b) (ho : ∀ b ∈ fp, ∃ o, s.heap.get? b = some o ∧ ∀ v, o.data ≠ .cell v) : Inv X (pins ++ pinsAt fp s.heap) σ H s :=
  I.pins_of fun p hp => (List.mem_append.mp hp).elim (fun z => I.pin p (List.mem_append_right _ z)) fun z => by
    obtain ⟨hb, e⟩ := of_pinsAt z
    obtain ⟨f0, f1, f2, _⟩ := hf p.1 hb
    obtain ⟨o, e', d⟩ := ho p.1 hb
    rw [e] at e'; cases e'
    exact ⟨e, f0, f1, f2, d⟩
theorem Inv.unpinned {pins pl : List (Addr × Obj)} {σ : St} {H : Hp} {s : Shared} (I : Inv X (pins ++ pl) σ H s) : Inv X pins σ H s := I.pins_of fun p hp => I.pin p (List.mem_append_right _ (List.mem_append_left _ hp))
theorem ps_for {iter : Expr} {body : List Stmt} {wi : TI} {g : TG} {tb : TS} {pos : Pos} (hp : PassesOwn (model X.prog X.w) X.A X.env X.xe) (hc : X.calm = true) (hi : PI X tg iter wi) (hg : PG X tg g) (hb : PSs X body tb)
    (hs : ∀ x, foldedSetIterable iter X.env x = pure x := by intro _; rfl) : PS X (.For tg iter body [] pos) (tFor wi g tb) := by
  intro pins s σ H D I h
  refine wpAny_For (thn (hi pins s σ H _ I h) fun v s1 h1 => thn h1 fun itv s2 h2 => ?_) hs
  obtain ⟨it, fp, tn, J, H2, e, I2, T, st2, f2, W, ⟨m0, w0⟩, turn⟩ := h2
  subst e
  have stat : ∀ {H' : Hp}, (∀ b ∈ fp, H' b = none) → ∀ b ∈ fp, FpOk X pins H' b := fun hn b hb => ⟨hn b hb, (f2 b hb).2⟩
  refine codeAny_forLoop_any (fun n s' => ∃ i σ' H', Inv X pins σ' H' s' ∧ tn i s'.heap ∧ (∀ b ∈ fp, H' b = none) ∧ W i n σ' H') ?_ m0 ⟨0, σ, H2, I2, st2, fun b hb => (f2 b hb).1, w0⟩
  rintro n s3 ⟨i, σ3, H3, I3, st3, fr3, w3⟩
  rcases turn i n σ3 H3 w3 with ⟨stop, qn⟩ | ⟨go, N, hN, step⟩
  · refine wpAny_passesOwn hp (thn (T.done X rfl rfl rfl hc i pins s3 σ3 H3 X.xe I3 (stat fr3) st3 stop) fun r s4 ⟨hr, I4⟩ => ?_)
    subst hr
    exact wpAny_execs_nil ⟨σ3, H3, I4, qn⟩
  · refine wpAny_passesOwn hp (thn (T.item X rfl rfl rfl hc i pins s3 σ3 H3 X.xe I3 (stat fr3) st3 go) fun r s4 ⟨u, hr, h4⟩ => ?_)
    subst hr
    refine wpAny_passesOwn hp (thn h4 fun _ s5 ⟨x, H5, I5, r5, y5, st5, fr5⟩ => ?_)
    have I5' := I5.pinned (stat fr5) (T.obj _ _ st5)
    refine wpAny_passesOwn hp (thn (hg _ s5 σ3 H5 x u _ I5' r5 (step x H5 y5)) fun _ s6 ⟨σ6, H6, I6, q6⟩ => ?_)
    refine wpAny_passesOwn hp (thn (hb _ s6 σ6 H6 _ I6 q6) fun f s7 q7 => ?_)
    have again : ∀ {σ7 : St} {H7 : Hp}, Inv X (pins ++ pinsAt fp s5.heap) σ7 H7 s7 → N σ7 H7 → ∃ m, m < n ∧ ∃ i σ' H', Inv X pins σ' H' s7 ∧ tn i s7.heap ∧ (∀ b ∈ fp, H' b = none) ∧ W i m σ' H' := fun {σ7 H7} I7 n7 => by
      obtain ⟨m', hm, w7⟩ := hN σ7 H7 n7
      refine ⟨m', hm, i + 1, σ7, H7, I7.unpinned, T.keep _ _ _ st5 fun b hb o e => (I7.pin (b, o) (List.mem_append_right _ (List.mem_append_right _ (mem_pinsAt hb e)))).1, fun b hb => ?_, w7⟩
      obtain ⟨o, e, d⟩ := T.obj _ _ st5 b hb
      exact (I7.pin (b, o) (List.mem_append_right _ (List.mem_append_right _ (mem_pinsAt hb e)))).2.1
    cases f with
    | next => obtain ⟨σ7, H7, I7, n7⟩ := q7; exact again I7 n7
    | cont => obtain ⟨σ7, H7, I7, n7⟩ := q7; exact again I7 n7
    | brk => obtain ⟨σ7, H7, I7, q7⟩ := q7; exact ⟨σ7, H7, I7.unpinned, q7⟩
    | ret v => obtain ⟨x7, σ7, H7, I7, r7, q7⟩ := q7; exact ⟨x7, σ7, H7, I7.unpinned, r7, q7⟩
end
theorem for_list {K : PySem.W.Frag} {a : Addr} {xs : List V} {g : TG} {tb : TS} {D : Ends} {σ : St} {H : Hp} (Pv : Nat → St → Hp → Prop) (h0 : Pv 0 σ H) (hl : ∀ i σ H, i ≤ xs.length → Pv i σ H → SqL K H a xs)
    (hs : ∀ i x σ H, xs[i]? = some x → Pv i σ H → g x σ H fun σ2 H2 => tb { D with nx := Pv (i + 1), ct := Pv (i + 1), bk := D.nx } σ2 H2) (hd : ∀ σ H, Pv xs.length σ H → D.nx σ H) :
    ∃ W : Nat → Nat → St → Hp → Prop, (∃ m, W 0 m σ H) ∧ ∀ i m σ H, W i m σ H →
      ((Itl K a).stop i H ∧ D.nx σ H) ∨ ((Itl K a).go i H ∧ ∃ N : St → Hp → Prop, (∀ σ' H', N σ' H' → ∃ m', m' < m ∧ W (i + 1) m' σ' H') ∧ ∀ x H', (Itl K a).yld i H x H' → g x σ H' fun σ2 H2 => tb { D with nx := N, ct := N, bk := D.nx } σ2 H2) := by
  refine ⟨fun i m σ H => m = xs.length - i ∧ i ≤ xs.length ∧ Pv i σ H, ⟨xs.length, by simp, Nat.zero_le _, h0⟩, ?_⟩
  rintro i m σ H ⟨rfl, hi, p⟩
  have q := hl i σ H hi p
  by_cases hlt : i < xs.length
  · refine .inr ⟨⟨xs, xs[i], q, by simp [hlt]⟩, Pv (i + 1), fun σ' H' p' => ⟨xs.length - (i + 1), by omega, rfl, hlt, p'⟩, fun x H' y => ?_⟩
    obtain ⟨e, y⟩ := y
    subst e
    exact hs i x σ _ (y xs q) p
  · have e : i = xs.length := by omega
    subst e
    exact .inl ⟨⟨xs, q, Nat.le_refl _⟩, hd σ H p⟩
theorem for_tup {K : PySem.W.Frag} {a : Addr} {xs : List V} {g : TG} {tb : TS} {D : Ends} {σ : St} {H : Hp} (Pv : Nat → St → Hp → Prop) (h0 : Pv 0 σ H) (hl : ∀ i σ H, i ≤ xs.length → Pv i σ H → SqT K H a xs)
    (hs : ∀ i x σ H, xs[i]? = some x → Pv i σ H → g x σ H fun σ2 H2 => tb { D with nx := Pv (i + 1), ct := Pv (i + 1), bk := D.nx } σ2 H2) (hd : ∀ σ H, Pv xs.length σ H → D.nx σ H) :
    ∃ W : Nat → Nat → St → Hp → Prop, (∃ m, W 0 m σ H) ∧ ∀ i m σ H, W i m σ H →
      ((Itt K a).stop i H ∧ D.nx σ H) ∨ ((Itt K a).go i H ∧ ∃ N : St → Hp → Prop, (∀ σ' H', N σ' H' → ∃ m', m' < m ∧ W (i + 1) m' σ' H') ∧ ∀ x H', (Itt K a).yld i H x H' → g x σ H' fun σ2 H2 => tb { D with nx := N, ct := N, bk := D.nx } σ2 H2) := by
  refine ⟨fun i m σ H => m = xs.length - i ∧ i ≤ xs.length ∧ Pv i σ H, ⟨xs.length, by simp, Nat.zero_le _, h0⟩, ?_⟩
  rintro i m σ H ⟨rfl, hi, p⟩
  have q := hl i σ H hi p
  by_cases hlt : i < xs.length
  · refine .inr ⟨⟨xs, xs[i], q, by simp [hlt]⟩, Pv (i + 1), fun σ' H' p' => ⟨xs.length - (i + 1), by omega, rfl, hlt, p'⟩, fun x H' y => ?_⟩
    obtain ⟨e, y⟩ := y
    subst e
    exact hs i x σ _ (y xs q) p
  · have e : i = xs.length := by omega
    subst e
    exact .inl ⟨⟨xs, q, Nat.le_refl _⟩, hd σ H p⟩
theorem for_range {lo : Int} {n : Nat} {g : TG} {tb : TS} {D : Ends} {σ : St} {H : Hp} (Pv : Nat → St → Hp → Prop) (h0 : Pv 0 σ H)
    (hs : ∀ i σ H, i < n → Pv i σ H → g (.int (lo + i)) σ H fun σ2 H2 => tb { D with nx := Pv (i + 1), ct := Pv (i + 1), bk := D.nx } σ2 H2) (hd : ∀ σ H, Pv n σ H → D.nx σ H) :
    ∃ W : Nat → Nat → St → Hp → Prop, (∃ m, W 0 m σ H) ∧ ∀ i m σ H, W i m σ H →
      ((Itr lo n).stop i H ∧ D.nx σ H) ∨ ((Itr lo n).go i H ∧ ∃ N : St → Hp → Prop, (∀ σ' H', N σ' H' → ∃ m', m' < m ∧ W (i + 1) m' σ' H') ∧ ∀ x H', (Itr lo n).yld i H x H' → g x σ H' fun σ2 H2 => tb { D with nx := N, ct := N, bk := D.nx } σ2 H2) := by
  refine ⟨fun i m σ H => m = n - i ∧ i ≤ n ∧ Pv i σ H, ⟨n, by simp, Nat.zero_le _, h0⟩, ?_⟩
  rintro i m σ H ⟨rfl, hi, p⟩
  by_cases hlt : i < n
  · refine .inr ⟨hlt, Pv (i + 1), fun σ' H' p' => ⟨n - (i + 1), by omega, rfl, hlt, p'⟩, fun x H' y => ?_⟩
    obtain ⟨e, y⟩ := y
    subst e y
    exact hs i σ _ hlt p
  · have e : i = n := by omega
    subst e
    exact .inl ⟨Nat.le_refl _, hd σ H p⟩
end L2
namespace L2
open PySem PySem.Spec PyProof.Rows
abbrev R2 := V → V → Hp → VK → Prop
def OpR (X : Cx) (f : Value → Value → Sem Value) (r : R2) : Prop :=
  ∀ (pins : List (Addr × Obj)) (s : Shared) (σ : St) (H : Hp) (x y : V) (v u : Value) (Q : VK), Inv X pins σ H s → RelV x v → RelV y u → r x y H Q →
    wpAny (model X.prog X.w) X.A (f v u) (EP X pins σ Q) X.xe s
def CallR (X : Cx) (f : Value) (r : List V → Hp → VK → Prop) : Prop :=
  ∀ (pins : List (Addr × Obj)) (s : Shared) (σ : St) (H : Hp) (xs : List V) (us : List Value) (Q : VK), Inv X pins σ H s → Vals xs us → r xs H Q →
    wpAny (model X.prog X.w) X.A (call f us) (EP X pins σ Q) X.xe s
def tOp (r : R2) (ta tb : TE) : TE := fun σ H Q => ta σ H fun x H1 => tb σ H1 fun y H2 => r x y H2 Q
def tUn (r : V → Hp → VK → Prop) (ta : TE) : TE := fun σ H Q => ta σ H fun x H1 => r x H1 Q
def rI (C : Int → Int → Prop) (g : Int → Int → V) : R2 := fun x y H Q => ∃ i j, x = .int i ∧ y = .int j ∧ C i j ∧ Q (g i j) H
def rI0 (g : Int → Int → V) : R2 := fun x y H Q => ∃ i j, x = .int i ∧ y = .int j ∧ Q (g i j) H
def rU (g : Int → V) : V → Hp → VK → Prop := fun x H Q => ∃ i, x = .int i ∧ Q (g i) H
section
variable {X : Cx} {a b c : Expr} {ta tb tc : TE} {pos : Pos}
theorem binT (ha : PE X a ta) (hb : PE X b tb) {pins : List (Addr × Obj)} {s : Shared} {σ : St} {H : Hp} {R : V → V → Hp → Prop} (I : Inv X pins σ H s)
    (h : ta σ H fun x H1 => tb σ H1 fun y H2 => R x y H2) {Q : Value → Shared → Prop} {f : Value → Value → Sem Value}
    (hf : ∀ v u s2 x y H2, Inv X pins σ H2 s2 → RelV x v → RelV y u → R x y H2 → wpAny (model X.prog X.w) X.A (f v u) Q X.xe s2) :
    wpAny (model X.prog X.w) X.A (eval a X.env) (fun v s₁ => wpAny (model X.prog X.w) X.A (eval b X.env) (fun u s₂ => wpAny (model X.prog X.w) X.A (f v u) Q X.xe s₂) X.xe s₁) X.xe s := by
  refine thn (ha pins s σ H _ I h) fun v s1 ⟨x, H1, I1, r1, q1⟩ => ?_
  refine thn (hb pins s1 σ H1 _ I1 q1) fun u s2 ⟨y, H2, I2, r2, q2⟩ => ?_
  exact hf v u s2 x y H2 I2 r1 r2 q2
theorem pe_op {op : Operator} {r : R2} (ho : OpR X (binaryOp op) r) (ha : PE X a ta) (hb : PE X b tb) : PE X (.BinOp a op b pos) (tOp r ta tb) := by
  intro pins s σ H Q I h
  exact wpAny_BinOp (binT ha hb I h fun v u s2 x y H2 I2 rx ry q => ho pins s2 σ H2 x y v u Q I2 rx ry q)
theorem opI {f : Value → Value → Sem Value} {C : Int → Int → Prop} {g : Int → Int → Int}
    (rule : ∀ (i j : Int) (t u : Tok) (s : Shared) (Q : Value → Shared → Prop) (E : Value → Shared → Prop), C i j → Q (.int (g i j) s.toks) { s with toks := s.toks + 1 } → wpAny (model X.prog X.w) X.A (f (.int i t) (.int j u)) Q E s) :
    OpR X f (rI C fun i j => .int (g i j)) := by
  intro pins s σ H x y v u Q I rx ry h
  obtain ⟨i, j, rfl, rfl, hc, q⟩ := h
  obtain ⟨t, rfl⟩ := rx
  obtain ⟨t', rfl⟩ := ry
  exact rule i j t t' s _ _ hc ⟨.int (g i j), H, I.tok _, ⟨_, rfl⟩, q⟩
theorem opI0 {f : Value → Value → Sem Value} {g : Int → Int → Int}
    (rule : ∀ (i j : Int) (t u : Tok) (s : Shared) (Q : Value → Shared → Prop) (E : Value → Shared → Prop), Q (.int (g i j) s.toks) { s with toks := s.toks + 1 } → wpAny (model X.prog X.w) X.A (f (.int i t) (.int j u)) Q E s) :
    OpR X f (rI0 fun i j => .int (g i j)) := by
  intro pins s σ H x y v u Q I rx ry h
  obtain ⟨i, j, rfl, rfl, q⟩ := h
  obtain ⟨t, rfl⟩ := rx
  obtain ⟨t', rfl⟩ := ry
  exact rule i j t t' s _ _ ⟨.int (g i j), H, I.tok _, ⟨_, rfl⟩, q⟩
theorem opB0 {f : Value → Value → Sem Value} {g : Int → Int → Bool}
    (rule : ∀ (i j : Int) (t u : Tok) (s : Shared) (Q : Value → Shared → Prop) (E : Value → Shared → Prop), Q (.bool (g i j)) s → wpAny (model X.prog X.w) X.A (f (.int i t) (.int j u)) Q E s) :
    OpR X f (rI0 fun i j => .bl (g i j)) := by
  intro pins s σ H x y v u Q I rx ry h
  obtain ⟨i, j, rfl, rfl, q⟩ := h
  obtain ⟨t, rfl⟩ := rx
  obtain ⟨t', rfl⟩ := ry
  exact rule i j t t' s _ _ ⟨.bl (g i j), H, I, rfl, q⟩
def CPow (i j : Int) : Prop := 0 ≤ j ∧ j ≤ 1000000 ∧ i.natAbs < 2 ^ 64
def CMul (i j : Int) : Prop := (-(2 ^ 64) < i ∧ i < 2 ^ 64) ∨ (-(2 ^ 64) < j ∧ j < 2 ^ 64)
theorem CMul.ok {i j : Int} (h : CMul i j) : IntMulOk i j := by
  rcases h with ⟨h1, h2⟩ | ⟨h1, h2⟩
  · exact .of_left (intBits_le_64 h1 h2)
  · exact .of_right (intBits_le_64 h1 h2)
theorem op_add : OpR X (binaryOp .Add) (rI0 fun i j => .int (i + j)) := opI0 fun _ _ _ _ _ _ _ q => add_int q
theorem op_sub : OpR X (binaryOp .Sub) (rI0 fun i j => .int (i - j)) := opI0 fun _ _ _ _ _ _ _ q => sub_int q
theorem op_mod : OpR X (binaryOp .Mod) (rI (fun _ j => 0 < j) fun i j => .int (i % j)) := opI fun i j _ _ _ _ _ hc q => by
  have h1 : (0 : Int) < j := hc
  exact mod_int' (by omega) (by rw [Int.fmod_eq_emod_of_nonneg i (by omega)]; exact q)
theorem op_pow : OpR X (binaryOp .Pow) (rI CPow fun i j => .int (i ^ j.toNat)) := opI fun _ _ _ _ _ _ _ hc q => pow_int_small hc.1 hc.2.1 hc.2.2 q
end
def scal : V → V → Bool
  | .non, .non => true | .non, .int _ => true | .int _, .non => true | .non, .bl _ => true | .bl _, .non => true | .non, .str _ => true | .str _, .non => true
  | .int _, .int _ => true | .bl _, .bl _ => true | .str _, .str _ => true | .byt _, .byt _ => true
  | .int _, .str _ => true | .str _, .int _ => true | .bl _, .str _ => true | .str _, .bl _ => true
  | _, _ => false
def rEq : R2 := fun x y H Q => scal x y = true ∧ Q (.bl (decide (x = y))) H
def rNe : R2 := fun x y H Q => scal x y = true ∧ Q (.bl (!decide (x = y))) H
theorem dec_int {i j : Int} : decide (V.int i = V.int j) = (i == j) := by
  rw [Bool.eq_iff_iff]
  simp
theorem dec_bl {i j : Bool} : decide (V.bl i = V.bl j) = (i == j) := by
  rw [Bool.eq_iff_iff]
  simp
theorem dec_str {i j : Str} : decide (V.str i = V.str j) = (i == j) := by
  rw [Bool.eq_iff_iff]
  simp
theorem dec_byt {i j : Array UInt8} : decide (V.byt i = V.byt j) = (i.toList == j.toList) := by
  rw [Bool.eq_iff_iff]
  cases i
  cases j
  simp
section
variable {X : Cx} {a b c : Expr} {ta tb tc : TE} {pos : Pos}
theorem fin_bl {pins : List (Addr × Obj)} {σ : St} {H : Hp} {s : Shared} {Q : VK} {k k' : Bool} (I : Inv X pins σ H s) (q : Q (.bl k) H) (e : k = k') : EP X pins σ Q (.bool k') s := by
  subst e
  exact ⟨.bl k, H, I, rfl, q⟩
theorem op_eq : OpR X (compareOp .Eq) rEq := by
  intro pins s σ H x y v u Q I rx ry h
  obtain ⟨hs, q⟩ := h
  cases x with
  | non =>
    cases rx
    cases y with
    | non => cases ry; exact PySem.EqNone.eq_none_none (fin_bl I q (by simp))
    | bl j => cases ry; exact PySem.EqNone.eq_none_bool (fin_bl I q (by simp))
    | int j => obtain ⟨t', rfl⟩ := ry; exact PySem.EqNone.eq_none_int (fin_bl I q (by simp))
    | str j => obtain ⟨t', rfl⟩ := ry; exact PySem.EqNone.eq_none_str (fin_bl I q (by simp))
    | _ => exact absurd (show false = true from hs) Bool.false_ne_true
  | bl i =>
    cases rx
    cases y with
    | non => cases ry; exact PySem.EqNone.eq_bool_none (fin_bl I q (by simp))
    | bl j => cases ry; exact eq_bool (fin_bl I q dec_bl)
    | str j => obtain ⟨t', rfl⟩ := ry; exact PySem.EqMixed.eq_bool_str (fin_bl I q (by simp))
    | _ => exact absurd (show false = true from hs) Bool.false_ne_true
  | int i =>
    obtain ⟨t, rfl⟩ := rx
    cases y with
    | non => cases ry; exact PySem.EqNone.eq_int_none (fin_bl I q (by simp))
    | int j => obtain ⟨t', rfl⟩ := ry; exact eq_int (fin_bl I q dec_int)
    | str j => obtain ⟨t', rfl⟩ := ry; exact PySem.EqMixed.eq_int_str (fin_bl I q (by simp))
    | _ => exact absurd (show false = true from hs) Bool.false_ne_true
  | str i =>
    obtain ⟨t, rfl⟩ := rx
    cases y with
    | non => cases ry; exact PySem.EqNone.eq_str_none (fin_bl I q (by simp))
    | bl j => cases ry; exact PySem.EqMixed.eq_str_bool (fin_bl I q (by simp))
    | int j => obtain ⟨t', rfl⟩ := ry; exact PySem.EqMixed.eq_str_int (fin_bl I q (by simp))
    | str j => obtain ⟨t', rfl⟩ := ry; exact eq_str (fin_bl I q dec_str)
    | _ => exact absurd (show false = true from hs) Bool.false_ne_true
  | byt i =>
    obtain ⟨t, rfl⟩ := rx
    cases y with
    | byt j => obtain ⟨t', rfl⟩ := ry; exact PySem.W.eq_bytes (fin_bl I q dec_byt)
    | _ => exact absurd (show false = true from hs) Bool.false_ne_true
  | _ => cases y <;> exact absurd (show false = true from hs) Bool.false_ne_true
theorem op_ne : OpR X (compareOp .NotEq) rNe := by
  intro pins s σ H x y v u Q I rx ry h
  obtain ⟨hs, q⟩ := h
  cases x with
  | non =>
    cases rx
    cases y with
    | non => cases ry; exact PySem.EqNone.ne_none_none (fin_bl I q (by simp))
    | bl j => cases ry; exact PySem.EqNone.ne_none_bool (fin_bl I q (by simp))
    | int j => obtain ⟨t', rfl⟩ := ry; exact PySem.EqNone.ne_none_int (fin_bl I q (by simp))
    | str j => obtain ⟨t', rfl⟩ := ry; exact PySem.EqNone.ne_none_str (fin_bl I q (by simp))
    | _ => exact absurd (show false = true from hs) Bool.false_ne_true
  | bl i =>
    cases rx
    cases y with
    | non => cases ry; exact PySem.EqNone.ne_bool_none (fin_bl I q (by simp))
    | bl j => cases ry; exact ne_bool (fin_bl I q (congrArg not dec_bl))
    | str j => obtain ⟨t', rfl⟩ := ry; exact PySem.EqMixed.ne_bool_str (fin_bl I q (by simp))
    | _ => exact absurd (show false = true from hs) Bool.false_ne_true
  | int i =>
    obtain ⟨t, rfl⟩ := rx
    cases y with
    | non => cases ry; exact PySem.EqNone.ne_int_none (fin_bl I q (by simp))
    | int j => obtain ⟨t', rfl⟩ := ry; exact ne_int (fin_bl I q (congrArg not dec_int))
    | str j => obtain ⟨t', rfl⟩ := ry; exact PySem.EqMixed.ne_int_str (fin_bl I q (by simp))
    | _ => exact absurd (show false = true from hs) Bool.false_ne_true
  | str i =>
    obtain ⟨t, rfl⟩ := rx
    cases y with
    | non => cases ry; exact PySem.EqNone.ne_str_none (fin_bl I q (by simp))
    | bl j => cases ry; exact PySem.EqMixed.ne_str_bool (fin_bl I q (by simp))
    | int j => obtain ⟨t', rfl⟩ := ry; exact PySem.EqMixed.ne_str_int (fin_bl I q (by simp))
    | str j => obtain ⟨t', rfl⟩ := ry; exact ne_str (fin_bl I q (congrArg not dec_str))
    | _ => exact absurd (show false = true from hs) Bool.false_ne_true
  | byt i =>
    obtain ⟨t, rfl⟩ := rx
    cases y with
    | byt j => obtain ⟨t', rfl⟩ := ry; exact PySem.W.ne_bytes (fin_bl I q (congrArg not dec_byt))
    | _ => exact absurd (show false = true from hs) Bool.false_ne_true
  | _ => cases y <;> exact absurd (show false = true from hs) Bool.false_ne_true
theorem op_lt : OpR X (compareOp .Lt) (rI0 fun i j => .bl (decide (i < j))) := opB0 fun _ _ _ _ _ _ _ q => lt_int q
theorem op_le : OpR X (compareOp .LtE) (rI0 fun i j => .bl (decide (i ≤ j))) := opB0 fun _ _ _ _ _ _ _ q => le_int q
theorem op_gt : OpR X (compareOp .Gt) (rI0 fun i j => .bl (decide (j < i))) := opB0 fun _ _ _ _ _ _ _ q => gt_int q
theorem op_isN : OpR X (compareOp .Is) (fun x y H Q => y = .non ∧ Q (.bl (decide (x = .non))) H) := by
  intro pins s σ H x y v u Q I rx ry h
  obtain ⟨rfl, q⟩ := h
  cases ry
  refine is_none_gen (fin_bl I q ?_)
  cases x <;> first
    | (cases rx; rfl)
    | (obtain ⟨t, rfl⟩ := rx; rfl)
theorem op_notN : OpR X (compareOp .IsNot) (fun x y H Q => y = .non ∧ Q (.bl (!decide (x = .non))) H) := by
  intro pins s σ H x y v u Q I rx ry h
  obtain ⟨rfl, q⟩ := h
  cases ry
  refine isnot_none_gen (fin_bl I q ?_)
  cases x <;> first
    | (cases rx; rfl)
    | (obtain ⟨t, rfl⟩ := rx; rfl)
theorem nomark (b : Expr) {op : CmpOp} (h : op ≠ .In := by decide) (h2 : op ≠ .NotIn := by decide) : behindInMarks op b = false := by
  have e1 : (op == CmpOp.In) = false := by cases op <;> first | rfl | exact absurd rfl h
  have e2 : (op == CmpOp.NotIn) = false := by cases op <;> first | rfl | exact absurd rfl h2
  cases b <;> simp [behindInMarks, e1, e2]
theorem pe_cmpR {op : CmpOp} {r : R2} (ho : OpR X (compareOp op) r) (ha : PE X a ta) (hb : PE X b tb) (hm : behindInMarks op b = false) : PE X (.Compare a [op] [b] pos) (tOp r ta tb) := by
  intro pins s σ H Q I h
  exact wpAny_Compare1 (binT ha hb I h fun v u s2 x y H2 I2 rx ry q => ho pins s2 σ H2 x y v u Q I2 rx ry q) hm
def tTest (t : TE) : TT := fun σ H Q => t σ H fun x H' => ∃ k, x = .bl k ∧ Q k H'
theorem pt_cmpR {op : CmpOp} {r : R2} (ho : OpR X (compareOp op) r) (ha : PE X a ta) (hb : PE X b tb) (hm : behindInMarks op b = false) : PT X (.Compare a [op] [b] pos) (tTest (tOp r ta tb)) := by
  intro pins s σ H Q I h
  refine wpAny_isTrue_Compare1 (thn (ha pins s σ H _ I h) fun v s1 ⟨x, H1, I1, r1, q1⟩ => thn (hb pins s1 σ H1 _ I1 q1) fun u s2 ⟨y, H2, I2, r2, q2⟩ =>
    thn (ho pins s2 σ H2 x y v u _ I2 r1 r2 q2) fun c s3 ⟨z, H3, I3, r3, k, e, q3⟩ => ?_) hm
  subst e
  cases r3
  exact wpAny_truthy_bool ⟨H3, I3, q3⟩
def tChain (r r' : R2) (ta tb tc : TE) : TE := fun σ H Q => ta σ H fun x H1 => tb σ H1 fun y H2 => r x y H2 fun z H3 => ∃ k, z = .bl k ∧
  (if k = true then tc σ H3 fun w' H4 => r' y w' H4 Q else Q (.bl false) H3)
theorem line63 : (sizeLine : Nat) < 2 ^ 63 := by rw [sizeLine_eq]; decide
theorem vals1 {x : V} {us : List Value} (r : Vals [x] us) : ∃ u, us = [u] ∧ RelV x u := by
  cases r with
  | cons r1 r2 => cases r2; exact ⟨_, rfl, r1⟩
theorem vals2 {x y : V} {us : List Value} (r : Vals [x, y] us) : ∃ u w', us = [u, w'] ∧ RelV x u ∧ RelV y w' := by
  cases r with
  | cons r1 r2 =>
    cases r2 with
    | cons r3 r4 => cases r4; exact ⟨_, _, rfl, r1, r3⟩
theorem call_min2 (hc : X.calm = true) : CallR X (.builtin "min") (fun xs H Q => ∃ i j, xs = [.int i, .int j] ∧ Q (.int (if j < i then j else i)) H) := by
  intro pins s σ H xs us Q I r h
  obtain ⟨i, j, rfl, q⟩ := h
  obtain ⟨u, w', rfl, ⟨t, rfl⟩, ⟨t', rfl⟩⟩ := vals2 r
  refine min_two_ints (I.ok.hd hc) fun h' tk k => ⟨_, H, I.kept k, ?_, q⟩
  by_cases hj : j < i
  · rw [if_pos hj, if_pos hj]; exact ⟨_, rfl⟩
  · rw [if_neg hj, if_neg hj]; exact ⟨_, rfl⟩
theorem call_int1 : CallR X (.type "int") (fun xs H Q => (∃ i, xs = [.int i] ∧ Q (.int i) H) ∨ ∃ k, xs = [.bl k] ∧ Q (.int (if k then 1 else 0)) H) := by
  intro pins s σ H xs us Q I r h
  rcases h with ⟨i, rfl, q⟩ | ⟨k, rfl, q⟩
  · obtain ⟨u, rfl, t, rfl⟩ := vals1 r
    exact call_int_int ⟨.int i, H, I, ⟨_, rfl⟩, q⟩
  · obtain ⟨u, rfl, r1⟩ := vals1 r
    cases r1
    exact call_int_bool ⟨.int (if k then 1 else 0), H, I.tok _, ⟨_, rfl⟩, q⟩
end
end L2
namespace L2
open PySem PySem.Spec PyProof.Rows
structure ObjM (h : Heap) (x dx C : Addr) (mA : Str → Option Value) : Prop where
  obj : h.get? x = some (PySem.W.instObj C dx)
  ns : h.Ns1 dx mA
  ne : dx ≠ x
theorem lookIn_ns {h : Heap} {dx : Addr} {mA : Str → Option Value} (n : h.Ns1 dx mA) : ∃ od, h.get? dx = some od ∧ ∀ name, PySem.W.lookIn name od = some (mA name) := by
  obtain ⟨o, es, ep, ho, hd, hk, _, hm⟩ := n
  refine ⟨o, ho, fun name => ?_⟩
  have e := hm name
  unfold nsFind findBy at e
  rw [← Array.find?_toList] at e
  unfold PySem.W.lookIn
  rw [hd]
  dsimp only
  split
  · rename_i y q
    rw [q] at e
    exact congrArg some e
  · rename_i q
    rw [q] at e
    have a : es.toList.any (·.refKey) = false := by
      rw [List.any_eq_false]
      intro y hy
      obtain ⟨z, t, hkey⟩ := hk y (Array.mem_toList_iff.mp hy)
      simp [DictEntry.refKey, hkey]
    have a' : ¬ es.toList.any (·.refKey) = true := by rw [a]; exact Bool.false_ne_true
    rw [if_neg a']
    exact congrArg some e
theorem ObjM.look {h : Heap} {x dx C : Addr} {mA : Str → Option Value} (I : ObjM h x dx C mA) : ∃ od, PySem.W.InstAt h x (PySem.W.instObj C dx) C (some od) ∧ ∀ name, PySem.W.lookIn name od = some (mA name) :=
  let ⟨od, ho, hl⟩ := lookIn_ns I.ns
  ⟨od, ⟨I.obj, rfl, rfl, ho⟩, hl⟩
section
variable {prog : Program} {w : World} {A : Around} {E : Value → Shared → Prop} {s : Shared} {K : PySem.W.Frag} {x dx C f : Addr} {mA : Str → Option Value} {name : Str} {v : Value}
theorem get_map {expr : Bool} {Q : Value → Shared → Prop} (X : K.In s.heap) (I : ObjM s.heap x dx C mA) (hg : PySem.W.plainGet K C name = true) (hh : PySem.W.hasDictIn K C = true)
    (ha : PySem.W.findIn K (.ref C) name = some none) (hv : mA name = some v) (hv' : PySem.W.handedIn v = true) (h : Q v { s with toks := s.toks + 1 }) :
    wpAny (model prog w) A (getAttr (.ref x) name expr) Q E s := by
  obtain ⟨od, J, hl⟩ := I.look
  exact PySem.W.get_value X J (PySem.W.plainGet_of hg).1 (PySem.W.findObj_own hh ha rfl (by rw [hl, hv])) hv' h
theorem get_meth {pl : Sem Bool} {Q : Value × List Value → Shared → Prop} (X : K.In s.heap) (I : ObjM s.heap x dx C mA) (hg : PySem.W.plainGet K C name = true)
    (hf : PySem.W.findIn K (.ref C) name = some (some (.ref f))) (ht : PySem.W.isFn K (.ref f) = true) (hv : mA name = none) (h : Q (.ref f, [.ref x]) s) :
    wpAny (model prog w) A (getMethod (.ref x) name pl) Q E s := by
  obtain ⟨od, J, hl⟩ := I.look
  exact PySem.W.method_fn X J (PySem.W.plainGet_of hg).1 (PySem.W.plainGet_of hg).2 hf (beq_iff_eq.mp ht) (by show (PySem.W.lookIn name od).map (·.isSome) = some false; rw [hl, hv]; rfl) h
theorem set_map {ns : List Str} {Q : Unit → Shared → Prop} (X : K.In s.heap) (I : ObjM s.heap x dx C mA)
    (hs : PySem.W.findIn K (.ref C) "__setattr__" = some (some (.builtin "object.__setattr__"))) (hp : PySem.W.plainOver K C = true) (ht : PySem.W.takerIn K C name = some none) (hh : PySem.W.hasDictIn K C = true)
    (hw : PySem.Within mA ns) (hsz : ns.length ≤ sizeLine)
    (h : ∀ h', ObjM h' x dx C (fun y => if y = name then some v else mA y) → Heap.SameBut dx s.heap h' → Q () { s with heap := h', toks := s.toks + 2 }) :
    wpAny (model prog w) A (setAttr (.ref x) name v) Q E s := by
  obtain ⟨od, J, hl⟩ := I.look
  refine PySem.W.set_plain X J hs (PySem.W.osa_open (s := { s with toks := s.toks + 1 }) (r := none) X J hp ht fun b => ?_)
  obtain ⟨cd, hc, hd'⟩ := PySem.W.any_some hh
  have hx : s.heap.get? x = some ⟨.ref C, some dx, .plain, #[]⟩ := I.obj
  refine wpAny_bind (wpAny_pure (wpAny_bind (wpAny_bind (wpAny_loadPart hx (wpAny_bind (PySem.W.Looks.here (s := { s with toks := s.toks + 1 }) (PySem.W.looks_clsIn X hc) ?_))))))
  rw [hd']
  refine wpAny_pure (a := some dx) (wpAny_bind (wpAny_pure (wpAny_bind ?_)))
  refine wpAny_nsSet1 (s := { s with toks := s.toks + 1 }) I.ns fun h' hn2 hs2 => ?_
  obtain ⟨oD, esD, epD, hoD, hdD, hcD⟩ := hn2.count (PySem.Within.cons name v hw)
  refine wpAny_bind (wpAny_lookBehind hoD (by rw [hdD]; exact pastItsLine_dict (Nat.le_trans hcD (by rw [List.length_cons]; omega))) ?_)
  exact wpAny_pure (h _ ⟨(hs2.2 _ (Ne.symm I.ne)).trans I.obj, hn2, I.ne⟩ hs2)
theorem make_map {R : Result → Shared → Prop} {vs : List Value} {kw : List (Str × Value)} (X : K.In s.heap) (hm : PySem.W.makesIn K C = true)
    (hi : PySem.W.findIn K (.ref C) "__init__" = some (some (.ref f))) (hf : PySem.W.typeIn K (.ref f) = some (.type "function"))
    (h : codeAny (model prog w) (A.under (.builtin "type.__call__" ⟨.ref C :: vs, kw⟩)) (.call (.ref f) ⟨.ref (s.heap.objs.size + 1) :: vs, kw⟩) (PySem.W.InitBack (s.heap.objs.size + 1) R)
      { s with heap := (s.heap.push PySem.W.emptyDict).push (PySem.W.instObj C s.heap.objs.size) }) :
    codeAny (model prog w) A (.call (.ref C) ⟨vs, kw⟩) R s := by
  obtain ⟨hh, g, d, t, os⟩ := s
  exact PySem.W.make_core (PySem.W.makes_of X hm) (PySem.W.looks_findIn X hi) (fun self => PySem.W.bind_fn X self hf) (.inl rfl) h
theorem make_map0 {R : Result → Shared → Prop} (X : K.In s.heap) (hm : PySem.W.makesIn K C = true)
    (hi : PySem.W.findIn K (.ref C) "__init__" = some (some (.builtin "object.__init__")))
    (hb : ∀ self, PySem.W.Looks (model prog w) s.heap (bindSpecial (.builtin "object.__init__") self) (.builtin "object.__init__", [self]))
    (h : codeAny (model prog w) (A.under (.builtin "type.__call__" ⟨[.ref C], []⟩)) (.call (.builtin "object.__init__") ⟨[.ref (s.heap.objs.size + 1)], []⟩) (PySem.W.InitBack (s.heap.objs.size + 1) R)
      { s with heap := (s.heap.push PySem.W.emptyDict).push (PySem.W.instObj C s.heap.objs.size) }) :
    codeAny (model prog w) A (.call (.ref C) ⟨[], []⟩) R s := by
  obtain ⟨hh, g, d, t, os⟩ := s
  exact PySem.W.make_core (PySem.W.makes_of X hm) (PySem.W.looks_findIn X hi) hb (.inr ⟨rfl, rfl⟩) h
end
def putF (f : Str) (v : V) : List (Str × V) → List (Str × V)
  | [] => [(f, v)]
  | (g, x) :: r => if g = f then (g, v) :: r else (g, x) :: putF f v r
theorem lookup_putF (f g : Str) (v : V) : ∀ fs : List (Str × V), (putF f v fs).lookup g = if g = f then some v else fs.lookup g
  | [] => by
    show List.lookup g [(f, v)] = _
    by_cases h : g = f
    · have hb : (g == f) = true := beq_iff_eq.mpr h
      simp only [List.lookup, hb, if_pos h]
    · have hb : (g == f) = false := beq_eq_false_iff_ne.mpr h
      simp only [List.lookup, hb, if_neg h]
  | (k, x) :: r => by
    have ih := lookup_putF f g v r
    rw [show putF f v ((k, x) :: r) = (if k = f then (k, v) :: r else (k, x) :: putF f v r) from rfl]
    by_cases hk : k = f
    · rw [if_pos hk]
      by_cases h : g = k
      · have hb : (g == k) = true := beq_iff_eq.mpr h
        simp only [List.lookup, hb, if_pos (h.trans hk)]
      · have hb : (g == k) = false := beq_eq_false_iff_ne.mpr h
        simp only [List.lookup, hb, if_neg (fun e : g = f => h (e.trans hk.symm))]
    · rw [if_neg hk]
      by_cases h : g = k
      · have hb : (g == k) = true := beq_iff_eq.mpr h
        simp only [List.lookup, hb, if_neg (fun e : g = f => hk (h.symm.trans e))]
      · have hb : (g == k) = false := beq_eq_false_iff_ne.mpr h
        simp only [List.lookup, hb]
        exact ih
theorem keys_putF (f : Str) (v : V) : ∀ fs : List (Str × V), f ∈ (putF f v fs).map (·.1) ∧ ∀ g, g ∈ fs.map (·.1) → g ∈ (putF f v fs).map (·.1)
  | [] => ⟨by simp [putF], fun g h => by simp at h⟩
  | (k, x) :: r => by
    obtain ⟨i1, i2⟩ := keys_putF f v r
    rw [show putF f v ((k, x) :: r) = (if k = f then (k, v) :: r else (k, x) :: putF f v r) from rfl]
    by_cases hk : k = f
    · rw [if_pos hk]
      subst hk
      exact ⟨by simp, fun g h => by simpa using h⟩
    · rw [if_neg hk]
      refine ⟨?_, fun g h => ?_⟩
      · rw [List.map_cons]
        exact List.mem_cons_of_mem _ i1
      · rw [List.map_cons] at h ⊢
        rcases List.mem_cons.mp h with e | e
        · exact List.mem_cons.mpr (.inl e)
        · exact List.mem_cons_of_mem _ (i2 g e)
theorem length_putF (f : Str) (v : V) : ∀ fs : List (Str × V), (putF f v fs).length ≤ fs.length + 1
  | [] => by simp [putF]
  | (k, x) :: r => by
    have ih := length_putF f v r
    rw [show putF f v ((k, x) :: r) = (if k = f then (k, v) :: r else (k, x) :: putF f v r) from rfl]
    by_cases hk : k = f
    · rw [if_pos hk, List.length_cons, List.length_cons]; omega
    · rw [if_neg hk, List.length_cons, List.length_cons]; omega
theorem RelO.some_of {v : V} {o : Option Value} (r : RelO (some v) o) : ∃ u, o = some u ∧ RelV v u := by
  cases o with
  | none => exact (show False from r).elim
  | some u => exact ⟨u, rfl, r⟩
theorem RelO.none_of {o : Option Value} (r : RelO none o) : o = none := by
  cases o with
  | none => rfl
  | some u => exact (show False from r).elim
theorem handed_of {v : V} {u : Value} (r : RelV v u) : PySem.W.handedIn u = true := by
  cases v with
  | non => cases (show u = Value.none from r); rfl
  | bl b => cases (show u = Value.bool b from r); rfl
  | int i => obtain ⟨t, e⟩ := (show ∃ t, u = Value.int i t from r); cases e; rfl
  | str x => obtain ⟨t, e⟩ := (show ∃ t, u = Value.str x t from r); cases e; rfl
  | byt b => obtain ⟨t, e⟩ := (show ∃ t, u = Value.bytes b t from r); cases e; rfl
  | flt b => obtain ⟨t, e⟩ := (show ∃ t, u = Value.float b t from r); cases e; rfl
  | ref a => cases (show u = Value.ref a from r); rfl
  | ty n => cases (show u = Value.type n from r); rfl
section
variable {P : Program} {w : World} {H H' : Hp} {h h' : Heap} {a C dx : Addr} {fs fs' : List (Str × V)}
theorem ins_get (hok : HOk P w H h) (e : H a = some (.ins C dx fs)) : ∃ mA, ObjM h a dx C mA ∧ (∀ f, RelO (fs.lookup f) (mA f)) ∧ PySem.Within mA (fs.map (·.1)) ∧ fs.length ≤ 1000 ∧ H dx = some (.own a) := by
  obtain ⟨d, z, ne, ob, mA, n, r, q⟩ := (show ObjOk P w H h a (.ins C dx fs) from hok a _ e)
  exact ⟨mA, ⟨ob, n, ne⟩, r, q, z, d⟩
end
structure Cls (K : PySem.W.Frag) (C : Addr) : Prop where
  pg : PySem.W.plainGet K C Str.empty = true
  hd : PySem.W.hasDictIn K C = true
  po : PySem.W.plainOver K C = true
  sa : PySem.W.findIn K (.ref C) "__setattr__" = some (some (.builtin "object.__setattr__"))
theorem Cls.get {K : PySem.W.Frag} {C : Addr} (c : Cls K C) (f : Str) : PySem.W.plainGet K C f = true := c.pg
def NoAttr (K : PySem.W.Frag) (C : Addr) (f : Str) : Prop := PySem.W.findIn K (.ref C) f = some none
theorem NoAttr.taker {K : PySem.W.Frag} {C : Addr} {f : Str} (n : NoAttr K C f) : PySem.W.takerIn K C f = some none := by
  unfold PySem.W.takerIn
  rw [show PySem.W.findIn K (.ref C) f = some none from n]
  rfl
structure Con (K : PySem.W.Frag) (C : Addr) (f : Str) (v : V) (u : Value) : Prop where
  at_ : PySem.W.findIn K (.ref C) f = some (some u)
  rel : RelV v u
  get : PySem.W.specialIn K u "__get__" = some none
  cp : PySem.W.copiedNames.contains f = false
structure Meth (K : PySem.W.Frag) (C : Addr) (m : Str) (f : Addr) : Prop where
  at_ : PySem.W.findIn K (.ref C) m = some (some (.ref f))
  fn : PySem.W.isFn K (.ref f) = true
  kp : PySem.W.keepIn K (.ref f) = true
section
variable {X : Cx} {pins : List (Addr × Obj)} {σ : St} {H : Hp} {s : Shared} {a C dx : Addr} {fs : List (Str × V)} {f : Str} {v : V} {A : Around} {E : Value → Shared → Prop}
theorem getattr_ok {b : Bool} {Q : Value → Shared → Prop} (I : Inv X pins σ H s) (e : H a = some (.ins C dx fs)) (c : Cls X.K C) (n : NoAttr X.K C f) (l : fs.lookup f = some v)
    (h : ∀ u s', Inv X pins σ H s' → RelV v u → Q u s') : wpAny (model X.prog X.w) A (getAttr (.ref a) f b) Q E s := by
  obtain ⟨mA, O, r, _, _, _⟩ := ins_get I.hok e
  obtain ⟨u, hu, ru⟩ := RelO.some_of (v := v) (o := mA f) (by rw [← l]; exact r f)
  exact get_map I.kIn O (c.get f) c.hd n hu (handed_of ru) (h u _ (I.tok _) ru)
theorem getmeth_ok {m : Str} {g : Addr} {pl : Sem Bool} {Q : Value × List Value → Shared → Prop} (I : Inv X pins σ H s) (e : H a = some (.ins C dx fs)) (c : Cls X.K C) (k : Meth X.K C m g) (l : fs.lookup m = none)
    (h : Q (.ref g, [.ref a]) s) : wpAny (model X.prog X.w) A (getMethod (.ref a) m pl) Q E s := by
  obtain ⟨mA, O, r, _, _, _⟩ := ins_get I.hok e
  have hn : mA m = none := RelO.none_of (by rw [← l]; exact r m)
  exact get_meth I.kIn O (c.get m) k.at_ k.fn hn h
theorem setattr_ok {y : V} {u : Value} {Q : Unit → Shared → Prop} (I : Inv X pins σ H s) (e : H a = some (.ins C dx fs)) (c : Cls X.K C) (n : NoAttr X.K C f) (hl : fs.length < 1000) (ry : RelV y u)
    (h : ∀ s', Inv X pins σ (upd H a (.ins C dx (putF f y fs))) s' → Q () s') : wpAny (model X.prog X.w) A (setAttr (.ref a) f u) Q E s := by
  obtain ⟨mA, O, r, wi, _, ho⟩ := ins_get I.hok e
  have hz : (fs.map (·.1)).length ≤ sizeLine := by rw [List.length_map, sizeLine_eq]; omega
  refine set_map I.kIn O c.sa c.po n.taker c.hd wi hz fun h' O' sb => h _ ?_
  have hd : ∃ o, h'.get? dx = some o := let ⟨o, _, _, e', _⟩ := O'.ns; ⟨o, e'⟩
  refine I.write (x := a) (e := dx) (by rw [e]; exact True.intro) (.inr ho) (fun b q hb z => (sb.2 b hb).trans z) hd ?_
  refine ⟨by rw [upd_ne O.ne]; exact ho, ?_, O.ne, O'.obj, _, O'.ns, fun g => ?_, fun g hg => ?_⟩
  · have := length_putF f y fs; omega
  · show RelO ((putF f y fs).lookup g) (if g = f then some u else mA g)
    rw [lookup_putF]
    by_cases q : g = f
    · rw [if_pos q, if_pos q]; exact ry
    · rw [if_neg q, if_neg q]; exact r g
  · by_cases q : g = f
    · rw [q]; exact (keys_putF f y fs).1
    · refine (keys_putF f y fs).2 g (wi g fun z => hg ?_)
      show (if g = f then some u else mA g) = none
      rw [if_neg q]; exact z
theorem Inv.made (I : Inv X pins σ H s) : Inv X pins σ (upd (upd H s.heap.objs.size (.own (s.heap.objs.size + 1))) (s.heap.objs.size + 1) (.ins C s.heap.objs.size []))
    { s with heap := (s.heap.push PySem.W.emptyDict).push (PySem.W.instObj C s.heap.objs.size) } := by
  have e1 : (s.heap.push PySem.W.emptyDict).get? s.heap.objs.size = some PySem.W.emptyDict := Heap.get?_push_size s.heap rfl
  have e2 : ((s.heap.push PySem.W.emptyDict).push (PySem.W.instObj C s.heap.objs.size)).get? (s.heap.objs.size + 1) = some (PySem.W.instObj C s.heap.objs.size) := by
    have := Heap.get?_push_size (s.heap.push PySem.W.emptyDict) (o := PySem.W.instObj C s.heap.objs.size) rfl
    rwa [Heap.size_push] at this
  have e3 : (s.heap.push PySem.W.emptyDict).Ns s.heap.objs.size (fun _ => none) := ⟨PySem.W.emptyDict, #[], _, e1, rfl, (fun e he => absurd he (by simp)), fun _ => rfl⟩
  have I1 := I.laid (a := s.heap.objs.size) (o := .own (s.heap.objs.size + 1)) (h' := s.heap.push PySem.W.emptyDict) (t' := s.toks) (fun b u q => Heap.get?_push_of_some _ q) (Nat.le_refl _) ⟨_, e1⟩
  refine I1.laid (a := s.heap.objs.size + 1) (o := .ins C s.heap.objs.size []) (t' := s.toks) (fun b u q => Heap.get?_push_of_some _ q) (Nat.le_of_eq (Heap.size_push _ _)) ?_
  have ne : s.heap.objs.size ≠ s.heap.objs.size + 1 := Nat.ne_of_lt (Nat.lt_succ_self _)
  refine ⟨by rw [upd_ne ne, upd_same], Nat.zero_le _, ne, e2, fun _ => none, (Heap.Ns1.of_empty e3).at fun o q => Heap.get?_push_of_some _ q, fun _ => True.intro, fun y hy => absurd rfl hy⟩
theorem attr_of {prog : Program} {w : World} {env : Env} {e : Expr} {f : Str} {pos : Pos} {s : Shared} {Q : Value → Shared → Prop} (hb : attributeBase e f env (eval e env) = eval e env)
    (h : wpAny (model prog w) A (eval e env) (fun o s₁ => wpAny (model prog w) A (getAttr o f true) Q E s₁) E s) : wpAny (model prog w) A (eval (.Attribute e f pos) env) Q E s :=
  Attribute_any_ h (by rw [arm_eval_Attribute, hb])
end
def tFld (K : PySem.W.Frag) (ta : TE) (f : Str) : TE := fun σ H Q => ta σ H fun x H1 => ∃ a C dx fs v, x = .ref a ∧ H1 a = some (.ins C dx fs) ∧ Cls K C ∧ NoAttr K C f ∧ fs.lookup f = some v ∧ Q v H1
def sFld (K : PySem.W.Frag) (ta tv : TE) (f : Str) : TS := fun D σ H => tv σ H fun y H1 => ta σ H1 fun x H2 => ∃ a C dx fs, x = .ref a ∧ H2 a = some (.ins C dx fs) ∧ Cls K C ∧ NoAttr K C f ∧ fs.length < 1000 ∧
  D.nx σ (upd H2 a (.ins C dx (putF f y fs)))
section
variable {X : Cx} {o e value : Expr} {f : Str} {pos pos' tpos : Pos} {ta tv : TE}
theorem pe_fld (he : PE X e ta) (hb : attributeBase e f X.env (eval e X.env) = eval e X.env) : PE X (.Attribute e f pos) (tFld X.K ta f) := by
  intro pins s σ H Q I h
  refine attr_of hb (thn (he pins s σ H _ I h) fun u s1 ⟨x, H1, I1, rx, a, C, dx, fs, v, ex, ea, c, n, l, q⟩ => ?_)
  subst ex
  obtain rfl : u = Value.ref a := rx
  exact getattr_ok I1 ea c n l fun u' s2 I2 ru => ⟨v, H1, I2, ru, q⟩
theorem ps_fld (ha : PE X o ta) (hv : PE X value tv) (hs : swapsWith value (some (.Attribute o f pos')) pos.line X.env = pure false) : PS X (.Assign [.Attribute o f pos'] value pos) (sFld X.K ta tv f) := by
  intro pins s σ H D I h
  refine plainObj_wpAny_Assign_Attribute (thn (hv pins s σ H _ I h) fun u s1 ⟨y, H1, I1, ry, q⟩ => thn (ha pins s1 σ H1 _ I1 q) fun ov s2 ⟨x, H2, I2, rx, a, C, dx, fs, ex, ea, c, n, l, q2⟩ => ?_) hs
  subst ex
  obtain rfl : ov = Value.ref a := rx
  exact setattr_ok I2 ea c n l ry fun s3 I3 => ⟨σ, _, I3, q2⟩
end
section
variable {X : Cx} {pins : List (Addr × Obj)} {σ : St} {H : Hp} {s : Shared} {A : Around} {E : Value → Shared → Prop} {Q : Value → Shared → Prop} {c : Value} {b : Bool}
inductive TyOf (K : PySem.W.Frag) (H : Hp) : V → Value → Prop where
  | non : TyOf K H .non (.type "NoneType")
  | bl (x : Bool) : TyOf K H (.bl x) (.type "bool")
  | int (i : Int) : TyOf K H (.int i) (.type "int")
  | str (x : Str) : TyOf K H (.str x) (.type "str")
  | flt (x : UInt64) : TyOf K H (.flt x) (.type "float")
  | lst {a : Addr} {xs : List V} (e : H a = some (.lst xs)) : TyOf K H (.ref a) (.type "list")
  | frz {a : Addr} {o : Obj} {xs : List V} (e : H a = some (.frz o (.lst xs))) : TyOf K H (.ref a) (.type "list")
  | tup {a : Addr} {xs : List V} (e : H a = some (.tup xs)) : TyOf K H (.ref a) (.type "tuple")
  | dK {a : Addr} {kvs : List (Key × V)} (e : H a = some (.dK kvs)) : TyOf K H (.ref a) (.type "dict")
  | dT {a : Addr} {kvs : List (List Key × V)} (e : H a = some (.dT kvs)) : TyOf K H (.ref a) (.type "dict")
  | ins {a C dx : Addr} {fs : List (Str × V)} (e : H a = some (.ins C dx fs)) (cl : Cls K C) (ha : PySem.W.findIn K (.ref C) "__class__" = some (some (.builtin "object.__class__")))
      (hn : PySem.W.specialIn K (.builtin "object.__class__") "__get__" = some (some (.builtin "getset_descriptor.__get__"))) (htk : PySem.W.takesIn K (.builtin "object.__class__") = some true)
      (hm : PySem.W.mroIn K C (.type "object") = some true) : TyOf K H (.ref a) (.ref C)
theorem isinst_ok {x : V} {u t : Value} (I : Inv X pins σ H s) (rx : RelV x u) (ty : TyOf X.K H x t) (e : PySem.W.kitOne X.K t c = some b) (h : ∀ tk, Q (.bool b) { s with toks := tk }) :
    wpAny (model X.prog X.w) A (call (.builtin "isinstance") [u, c]) Q E s := by
  cases ty with
  | non => cases (show u = Value.none from rx); exact PySem.W.kia_one PySem.W.kitx_none I.kIn True.intro e (fun z => nomatch z) h
  | bl y => cases (show u = Value.bool y from rx); exact PySem.W.kia_one PySem.W.kitx_bool I.kIn True.intro e (fun z => nomatch z) h
  | int i => obtain ⟨t, q⟩ := (show ∃ t, u = Value.int i t from rx); cases q; exact PySem.W.kia_one PySem.W.kitx_int I.kIn True.intro e (fun z => nomatch z) h
  | str y => obtain ⟨t, q⟩ := (show ∃ t, u = Value.str y t from rx); cases q; exact PySem.W.kia_one PySem.W.kitx_str I.kIn True.intro e (fun z => nomatch z) h
  | flt y => obtain ⟨t, q⟩ := (show ∃ t, u = Value.float y t from rx); cases q; exact PySem.W.kia_one PySem.W.kitx_float I.kIn True.intro e (fun z => nomatch z) h
  | @lst a xs ea =>
    cases (show u = Value.ref a from rx)
    obtain ⟨_, _, n, _, h1⟩ := (show ObjOk X.prog X.w H s.heap a (.lst xs) from I.hok a _ ea)
    exact PySem.W.kia_one PySem.W.kitx_list I.kIn ⟨_, h1, rfl⟩ e (fun z => nomatch z) h
  | @frz a ob xs ea =>
    cases (show u = Value.ref a from rx)
    obtain ⟨_, _, _, n, _, h1⟩ := (show ObjOk X.prog X.w H s.heap a (.frz ob (.lst xs)) from I.hok a _ ea)
    exact PySem.W.kia_one PySem.W.kitx_list I.kIn ⟨_, h1, rfl⟩ e (fun z => nomatch z) h
  | @tup a xs ea =>
    cases (show u = Value.ref a from rx)
    obtain ⟨_, _, _, p⟩ := (show ObjOk X.prog X.w H s.heap a (.tup xs) from I.hok a _ ea)
    obtain ⟨o, h1, h2, _⟩ := p
    exact PySem.W.kia_one PySem.W.kitx_tuple I.kIn ⟨o, h1, h2⟩ e (fun z => nomatch z) h
  | @dK a kvs ea =>
    cases (show u = Value.ref a from rx)
    obtain ⟨_, _, vs, _, p⟩ := (show ObjOk X.prog X.w H s.heap a (.dK kvs) from I.hok a _ ea)
    obtain ⟨o, es, ep, h1, h2, _⟩ := p
    exact PySem.W.kia_one PySem.W.kitx_dict I.kIn ⟨o, h1, h2.1⟩ e (fun z => nomatch z) h
  | @dT a kvs ea =>
    cases (show u = Value.ref a from rx)
    obtain ⟨_, _, xs, _, o, es, ep, h1, h2, _⟩ := (show ObjOk X.prog X.w H s.heap a (.dT kvs) from I.hok a _ ea)
    exact PySem.W.kia_one PySem.W.kitx_dict I.kIn ⟨o, h1, h2.1⟩ e (fun z => nomatch z) h
  | @ins a C dx fs ea cl ha hn htk hm =>
    cases (show u = Value.ref a from rx)
    obtain ⟨mA, O, _⟩ := ins_get I.hok ea
    obtain ⟨od, J, _⟩ := O.look
    exact PySem.W.kia_one (PySem.W.kitx_own (cl.get _) cl.hd ha hn htk hm) I.kIn J e (fun z => nomatch z) h
end
end L2
namespace L2
open PySem PySem.Spec PyProof.Rows
structure Room (k : Nat) (A : Around) : Prop where
  hd : A.handled = none
  dp : A.depth + 3 * k + 5 < recursionLimit
  un : A.units + 16 * k + 200 < cLine
theorem Room.mono {j k : Nat} {A : Around} (r : Room k A) (h : j ≤ k) : Room j A := ⟨r.hd, by have := r.dp; omega, by have := r.un; omega⟩
theorem Room.deeper {k : Nat} {A : Around} (r : Room (k + 1) A) (env : Env) : Room k (A.deeper env) :=
  ⟨r.hd, by have := r.dp; show A.depth + 1 + 3 * k + 5 < _; omega, by have := r.un; show A.units + 3 + 16 * k + 200 < _; omega⟩
theorem Room.in1 {k : Nat} {A : Around} (r : Room (k + 1) A) : Room k A.in1 :=
  ⟨r.hd, by have := r.dp; show A.depth + 3 * k + 5 < _; omega, by have := r.un; show A.units + 1 + 16 * k + 200 < _; omega⟩
theorem make_depth {A : Around} {C : Addr} {us : List Value} {kw : List (Str × Value)} : (A.under (.builtin "type.__call__" ⟨.ref C :: us, kw⟩)).depth = A.depth + 1 := by
  first | rfl | simp [Around.under, Code.weight, Code.isCreation, Code.isGuard, Code.isCaller, Code.frames, Code.isFrame, guardIds]
theorem make_units {A : Around} {C : Addr} {us : List Value} {kw : List (Str × Value)} : (A.under (.builtin "type.__call__" ⟨.ref C :: us, kw⟩)).units = A.units + 1 := by
  first | rfl | simp [Around.under, Code.cUnits, Code.frames, Code.isFrame]
theorem Room.make {k : Nat} {A : Around} (r : Room (k + 1) A) (C : Addr) (us : List Value) (kw : List (Str × Value)) : Room k (A.under (.builtin "type.__call__" ⟨.ref C :: us, kw⟩)) :=
  ⟨r.hd, by have := r.dp; rw [make_depth]; omega, by have := r.un; rw [make_units]; omega⟩
theorem Room.depth {k : Nat} {A : Around} (r : Room k A) : A.depth < recursionLimit := by have := r.dp; omega
theorem Room.units {k : Nat} {A : Around} (r : Room k A) : A.units + 64 < cLine := by have := r.un; omega
def tNil : TA := fun _ H Q => Q [] H
def tCons (ta : TE) (tr : TA) : TA := fun σ H Q => ta σ H fun x H1 => tr σ H1 fun xs H2 => Q (x :: xs) H2
section
variable {X : Cx} {e : Expr} {es : List Expr} {te : TE} {t : TA} {pos : Pos}
theorem pa_nil : PA X [] tNil := fun _ _ _ _ H Q I h => Calls.spliced_nil ⟨[], H, I, .nil, h⟩
theorem pa_cons (ha : PE X e te) (hr : PA X es t) (hs : starEach (e :: es) X.env = (false, eval e X.env) :: starEach es X.env := by rfl) : PA X (e :: es) (tCons te t) := by
  intro pos pins s σ H Q I h
  rw [hs]
  show wpAny _ _ (spliced ((false, eval e X.env) :: backTo pos (starEach es X.env))) _ _ s
  refine Calls.spliced_cons (thn (ha pins s σ H _ I h) fun u s1 ⟨x, H1, I1, r1, q1⟩ => ?_)
  exact thn (hr pos pins s1 σ H1 _ I1 q1) fun us s2 ⟨xs, H2, I2, r2, q2⟩ => ⟨x :: xs, H2, I2, .cons r1 r2, q2⟩
def tTup (t : TA) : TE := fun σ H Q => t σ H fun xs H1 => xs.length ≤ sizeLine ∧ ∀ p, H1 p = none → Q (.ref p) (upd H1 p (.tup xs))
def tLst (t : TA) : TE := fun σ H Q => t σ H fun xs H1 => xs.length ≤ sizeLine ∧ ∀ p, H1 p = none → Q (.ref p) (upd H1 p (.lst xs))
theorem pe_tup {x1} (h : PA X es t) : PE X (.Tuple es x1 pos) (tTup t) := by
  intro pins s σ H Q I hq
  refine wpAny_Tuple_spliced (thn (h pos pins s σ H _ I hq) fun us s1 ⟨xs, H1, I1, r, z, q⟩ => ⟨by rw [← r.length]; exact z, ?_⟩)
  have hf : H1 s1.heap.objs.size = none := I1.hok.fresh (Nat.le_refl _)
  refine ⟨.ref s1.heap.objs.size, upd H1 s1.heap.objs.size (.tup xs), I1.laid (t' := s1.toks) (fun b u e => Heap.get?_push_of_some _ e) (Nat.le_refl _) ?_, rfl, q _ hf⟩
  exact ⟨z, us, r, ⟨_, Heap.get?_push_size _ rfl, rfl, _, rfl⟩⟩
theorem pe_lst (h : PA X es t) : PE X (.List es pos) (tLst t) := by
  intro pins s σ H Q I hq
  refine wpAny_List_spliced (thn (h pos pins s σ H _ I hq) fun us s1 ⟨xs, H1, I1, r, z, q⟩ => ⟨by rw [← r.length]; exact z, ?_⟩)
  have hf : H1 s1.heap.objs.size = none := I1.hok.fresh (Nat.le_refl _)
  refine ⟨.ref s1.heap.objs.size, upd H1 s1.heap.objs.size (.lst xs), I1.laid (t' := s1.toks) (fun b u e => Heap.get?_push_of_some _ e) (Nat.le_refl _) ?_, rfl, q _ hf⟩
  exact ⟨z, us, 0, r, Heap.get?_push_size _ rfl⟩
end
abbrev Sp := List V → Hp → VK → XK → Prop
abbrev CXT := List Env → Hp → Shared → XK → Value → Shared → Prop
structure Env0 (P : Program) (w : World) (K : PySem.W.Frag) (mg : Str → Option Value) (base : Heap) (A : Around) (outer : List Env) (s : Shared) (H : Hp) : Prop where
  frames : A.frames = some outer
  mod : Mod K mg base
  bs : ∀ b o, base.get? b = some o → s.heap.get? b = some o ∧ H b = none
  bsz : base.objs.size ≤ s.heap.objs.size
  funs : s.heap.FunFrames base outer
  frf : ∀ b ∈ frs outer, H b = none
  hok : HOk P w H s.heap
  bare : AllBare s.gens
def CE (outer : List Env) (P : Program) (w : World) (H : Hp) (s : Shared) (Q : VK) (u : Value) (s' : Shared) : Prop :=
  ∃ v H', s'.os = s.os ∧ AllBare s'.gens ∧ Un (frs outer) [] H H' s.heap s'.heap ∧ HOk P w H' s'.heap ∧ RelV v u ∧ Q v H'
def CR (CX : CXT) (outer : List Env) (P : Program) (w : World) (H : Hp) (s : Shared) (Q : VK) (E : XK) (r : Result) (s' : Shared) : Prop :=
  match r with
  | .ok (.ret u) => CE outer P w H s Q u s'
  | .ok _ => False
  | .error e => CX outer H s E e s'
structure FnOk (P : Program) (w : World) (K : PySem.W.Frag) (mg : Str → Option Value) (base : Heap) (CX : CXT) (k : Nat) (f : Addr) (fd : FuncData) (ps : List Str) (sp : Sp) : Prop where
  len : ∀ vs H Q E, sp vs H Q E → vs.length = ps.length
  run : ∀ (A : Around) (outer : List Env) (s : Shared) (H : Hp) (args : Args) (us : List Value) (vs : List V) (Q : VK) (E : XK), Room k A → Env0 P w K mg base A outer s H → BindsTo s fd args (ps.zip us) → Vals vs us → sp vs H Q E →
    codeAny (model P w) A (.call (.ref f) args) (CR CX outer P w H s Q E) s
theorem FnOk.mono {P : Program} {w : World} {K : PySem.W.Frag} {mg : Str → Option Value} {base : Heap} {CX : CXT} {j k : Nat} {f : Addr} {fd : FuncData} {ps : List Str} {sp : Sp} (F : FnOk P w K mg base CX j f fd ps sp) (h : j ≤ k) :
    FnOk P w K mg base CX k f fd ps sp := ⟨F.len, fun A outer s H args us vs Q E hr => F.run A outer s H args us vs Q E (hr.mono h)⟩
theorem FnOk.imp {P : Program} {w : World} {K : PySem.W.Frag} {mg : Str → Option Value} {base : Heap} {CX : CXT} {k : Nat} {f : Addr} {fd : FuncData} {ps : List Str} {sp sp' : Sp} (F : FnOk P w K mg base CX k f fd ps sp)
    (h : ∀ vs H Q E, sp' vs H Q E → sp vs H Q E) : FnOk P w K mg base CX k f fd ps sp' :=
  ⟨fun vs H Q E q => F.len vs H Q E (h _ _ _ _ q), fun A outer s H args us vs Q E hr he hb hv hs => F.run A outer s H args us vs Q E hr he hb hv (h _ _ _ _ hs)⟩
theorem Env0.make {P : Program} {w : World} {K : PySem.W.Frag} {mg : Str → Option Value} {base : Heap} {A : Around} {outer : List Env} {s : Shared} {H : Hp} (e : Env0 P w K mg base A outer s H) (C : Addr) (us : List Value) (kw : List (Str × Value)) :
    Env0 P w K mg base (A.under (.builtin "type.__call__" ⟨.ref C :: us, kw⟩)) outer s H := ⟨by first | exact e.frames | (simpa [Around.under, Code.envs, Code.isFrame, pushEnvs] using e.frames), e.mod, e.bs, e.bsz, e.funs, e.frf, e.hok, e.bare⟩
theorem Env0.in1 {P : Program} {w : World} {K : PySem.W.Frag} {mg : Str → Option Value} {base : Heap} {A : Around} {outer : List Env} {s : Shared} {H : Hp} (e : Env0 P w K mg base A outer s H) :
    Env0 P w K mg base A.in1 outer s H := ⟨e.frames, e.mod, e.bs, e.bsz, e.funs, e.frf, e.hok, e.bare⟩
section
variable {X : Cx} {pins : List (Addr × Obj)} {σ : St} {H : Hp} {s s' : Shared}
theorem Inv.env0 (I : Inv X pins σ H s) : Env0 X.prog X.w X.K X.mg X.base X.A X.stack s H :=
  ⟨I.ok.frames, I.ok.mod, I.bs, Nat.le_trans I.ok.bsz I.sz, I.stack, I.stkFree, I.hok, I.bare⟩
theorem Inv.after {Q : VK} {u : Value} (I : Inv X pins σ H s) (h : CE X.stack X.prog X.w H s Q u s') : EP X pins σ Q u s' := by
  obtain ⟨v, H', os, bare, un, hok, r, q⟩ := h
  obtain ⟨hh, g, d, t, os'⟩ := s'
  obtain rfl : os' = s.os := os
  exact ⟨v, H', I.call (h' := hh) (g' := g) (d' := d) (t' := t) (ch := []) un hok bare (fun b z => absurd z (by simp)), r, q⟩
end
def tCall (sp : Sp) (dvs : List V) (E : XK) (t : TA) : TE := fun σ H Q => t σ H fun vs H1 => sp (vs ++ dvs) H1 Q E
def tMake (C : Addr) (sp : Sp) (dvs : List V) (E : XK) (t : TA) : TE := fun σ H Q => t σ H fun vs H1 => ∀ x dx, H1 x = none → H1 dx = none → dx ≠ x →
  sp (.ref x :: (vs ++ dvs)) (upd (upd H1 dx (.own x)) x (.ins C dx [])) (fun v H2 => v = .non ∧ Q (.ref x) H2) E
def Binds (K : PySem.W.Frag) (fd : FuncData) (ps : List Str) (ds : List Value) : Prop :=
  ∀ (s : Shared) (us : List Value), K.In s.heap → (us ++ ds).length = ps.length → BindsTo s fd ⟨us, []⟩ (ps.zip (us ++ ds))
theorem Binds.all {K : PySem.W.Frag} {fd : FuncData} {ps : List Str} (h : ∀ us : List Value, us.length = ps.length → bindArgs fd ⟨us, []⟩ = pure (ps.zip us)) : Binds K fd ps [] := fun s us _ hl => by
  rw [List.append_nil] at hl ⊢
  exact .of_eq (h us hl)
def Passes (CX : CXT) (X : Cx) (E : XK) : Prop := ∀ (pins : List (Addr × Obj)) (σ : St) (H : Hp) (s : Shared) (e : Value) (s' : Shared), Inv X pins σ H s → CX X.stack H s E e s' → X.xe e s'
section
variable {X : Cx} {CX : CXT} {k : Nat} {f C : Addr} {fd : FuncData} {ps : List Str} {sp : Sp} {dvs : List V} {ds : List Value} {E : XK} {x m : Str} {p pos apos : Pos} {e o : Expr} {es : List Expr} {ta : TE} {t : TA}
theorem run_fn {pins : List (Addr × Obj)} {σ : St} {H : Hp} {s : Shared} {Q : VK} {us : List Value} {vs : List V} (F : FnOk X.prog X.w X.K X.mg X.base CX k f fd ps sp) (hr : Room k X.A) (hb : Binds X.K fd ps ds) (hd : Vals dvs ds) (hx : Passes CX X E)
    (I : Inv X pins σ H s) (r : Vals vs us) (h : sp (vs ++ dvs) H Q E) : wpAny (model X.prog X.w) X.A (call (.ref f) us) (EP X pins σ Q) X.xe s := by
  have r2 : Vals (vs ++ dvs) (us ++ ds) := r.append hd
  have hl : (us ++ ds).length = ps.length := by rw [← r2.length]; exact F.len _ _ _ _ h
  refine wpAny_call (codeAny_mono (F.run X.A X.stack s H ⟨us, []⟩ (us ++ ds) (vs ++ dvs) Q E hr I.env0 (hb s us I.kIn hl) r2 h) fun r s' hq => ?_)
  cases r with
  | error e => exact hx pins σ H s e s' I hq
  | ok fl =>
    cases fl with
    | ret u => exact I.after hq
    | next => exact False.elim hq
    | brk => exact False.elim hq
    | cont => exact False.elim hq
theorem pe_call (F : FnOk X.prog X.w X.K X.mg X.base CX k f fd ps sp) (hr : Room k X.A) (hg : Gl X x) (hm : X.mg x = some (.ref f)) (hk : PySem.W.keepIn X.K (.ref f) = true) (hb : Binds X.K fd ps ds) (hd : Vals dvs ds) (hx : Passes CX X E)
    (ha : PA X (e :: es) t) (hdb : (x == ("__debug__" : Str)) = false := by decide) (he : starEach (e :: es) X.env = (false, eval e X.env) :: starEach es X.env := by rfl) (hpl : (backTo pos (starEach es X.env)).any (·.1) = false := by rfl) :
    PE X (.Call (.Name x p) (e :: es) [] pos) (tCall sp dvs E t) := by
  intro pins s σ H Q I h
  refine wpAny_Call_Name_kw (ld_glob I hg hm ?_ hdb)
  refine PySem.W.callWith_K (h₀ := X.base) I.ok.mod.kin hk (thn (ha pos pins s σ H _ I h) fun us s1 ⟨vs, H1, I1, r, q⟩ => ⟨I1.kIn, ?_⟩) he hpl
  exact run_fn F hr hb hd hx I1 r q
structure Mk (K : PySem.W.Frag) (C f : Addr) : Prop where
  makes : PySem.W.makesIn K C = true
  init : PySem.W.findIn K (.ref C) "__init__" = some (some (.ref f))
  fn : PySem.W.isFn K (.ref f) = true
  kp : PySem.W.keepIn K (.ref C) = true
theorem run_make {pins : List (Addr × Obj)} {σ : St} {H : Hp} {s : Shared} {Q : VK} {us : List Value} {vs : List V} (M : Mk X.K C f) (F : FnOk X.prog X.w X.K X.mg X.base CX k f fd ps sp) (hr : Room (k + 1) X.A) (hb : Binds X.K fd ps ds) (hd : Vals dvs ds)
    (hx : Passes CX X E) (I : Inv X pins σ H s) (r : Vals vs us)
    (h : ∀ x dx, H x = none → H dx = none → dx ≠ x → sp (.ref x :: (vs ++ dvs)) (upd (upd H dx (.own x)) x (.ins C dx [])) (fun v H2 => v = .non ∧ Q (.ref x) H2) E) :
    wpAny (model X.prog X.w) X.A (call (.ref C) us) (EP X pins σ Q) X.xe s := by
  have hq := h (s.heap.objs.size + 1) s.heap.objs.size (I.hok.fresh (Nat.le_succ _)) (I.hok.fresh (Nat.le_refl _)) (Nat.ne_of_lt (Nat.lt_succ_self _))
  have I2 := Inv.made (C := C) I
  have r2 : Vals (V.ref (s.heap.objs.size + 1) :: (vs ++ dvs)) (Value.ref (s.heap.objs.size + 1) :: (us ++ ds)) := .cons rfl (r.append hd)
  have hl : (Value.ref (s.heap.objs.size + 1) :: us ++ ds).length = ps.length := by
    have e := r2.length
    rw [F.len _ _ _ _ hq] at e
    exact e.symm
  refine wpAny_call (make_map (f := f) I.kIn M.makes M.init (beq_iff_eq.mp M.fn) (codeAny_mono (F.run _ X.stack _ _ ⟨Value.ref (s.heap.objs.size + 1) :: us, []⟩ (Value.ref (s.heap.objs.size + 1) :: (us ++ ds)) _ _ E (hr.make C us [])
    (I2.env0.make C us []) (hb _ (Value.ref (s.heap.objs.size + 1) :: us) I2.kIn hl) r2 hq) fun r s' hq' => ?_))
  cases r with
  | error e => exact hx pins σ _ _ e s' I2 hq'
  | ok fl =>
    cases fl with
    | ret u =>
      obtain ⟨v, H', I3, rv, ev, q3⟩ := I2.after hq'
      subst ev
      exact ⟨rv, ⟨V.ref (s.heap.objs.size + 1), H', I3, rfl, q3⟩⟩
    | next => exact False.elim hq'
    | brk => exact False.elim hq'
    | cont => exact False.elim hq'
theorem pe_make (M : Mk X.K C f) (F : FnOk X.prog X.w X.K X.mg X.base CX k f fd ps sp) (hr : Room (k + 1) X.A) (hg : Gl X x) (hm : X.mg x = some (.ref C)) (hb : Binds X.K fd ps ds) (hd : Vals dvs ds) (hx : Passes CX X E)
    (ha : PA X (e :: es) t) (hdb : (x == ("__debug__" : Str)) = false := by decide) (he : starEach (e :: es) X.env = (false, eval e X.env) :: starEach es X.env := by rfl) (hpl : (backTo pos (starEach es X.env)).any (·.1) = false := by rfl) :
    PE X (.Call (.Name x p) (e :: es) [] pos) (tMake C sp dvs E t) := by
  intro pins s σ H Q I h
  refine wpAny_Call_Name_kw (ld_glob I hg hm ?_ hdb)
  refine PySem.W.callWith_K (h₀ := X.base) I.ok.mod.kin M.kp (thn (ha pos pins s σ H _ I h) fun us s1 ⟨vs, H1, I1, r, q⟩ => ⟨I1.kIn, ?_⟩) he hpl
  exact run_make M F hr hb hd hx I1 r q
end
def PK (X : Cx) (kws : List Keyword) (t : TA) : Prop :=
  ∀ (pos : Pos) (pins : List (Addr × Obj)) (s : Shared) (σ : St) (H : Hp) (Q : List V → Hp → Prop), Inv X pins σ H s → t σ H Q → wpAny (model X.prog X.w) X.A (evalAll ((backToKw pos (keywordEach kws X.env)).map (·.2))) (AP X pins σ Q) X.xe s
section
variable {X : Cx} {CX : CXT} {k : Nat} {f C : Addr} {fd : FuncData} {ps ks : List Str} {sp : Sp} {E : XK} {x m : Str} {p pos apos kpos : Pos} {e o : Expr} {es : List Expr} {kws : List Keyword} {te ta : TE} {t tk : TA} {nm : Option Str}
theorem pk_nil : PK X [] tNil := fun _ _ _ _ H Q I h => wpAny_evalAll_nil ⟨[], H, I, .nil, h⟩
theorem pk_cons (ha : PE X e te) (hr : PK X kws t) : PK X (⟨nm, e, kpos⟩ :: kws) (tCons te t) := by
  intro pos pins s σ H Q I h
  show wpAny _ _ (evalAll ((do let v ← eval e X.env; standAt pos; pure v) :: (backToKw pos (keywordEach kws X.env)).map (·.2))) _ _ s
  refine wpAny_evalAll_cons (wpAny_bind (thn (ha pins s σ H _ I h) fun u s1 ⟨x, H1, I1, r1, q1⟩ => wpAny_bind (wpAny_standAt (wpAny_pure ?_))))
  exact thn (hr pos pins s1 σ H1 _ I1 q1) fun us s2 ⟨xs, H2, I2, r2, q2⟩ => ⟨x :: xs, H2, I2, .cons r1 r2, q2⟩
structure KBinds (K : PySem.W.Frag) (fd : FuncData) (ps ks : List Str) (g : List Value → List Value → List Value) (gV : List V → List V → List V) : Prop where
  to : ∀ (s : Shared) (us ws : List Value), K.In s.heap → (g us ws).length = ps.length → BindsTo s fd ⟨us, ks.zip ws⟩ (ps.zip (g us ws))
  rel : ∀ {vs : List V} {us : List Value} {zs : List V} {ws : List Value}, Vals vs us → Vals zs ws → Vals (gV vs zs) (g us ws)
variable {g : List Value → List Value → List Value} {gV : List V → List V → List V}
end
structure FnScope (N P : List Str) (sc : Scope) : Prop where
  kind : sc.kind = .function
  co : sc.isCoroutine = false
  gen : sc.isGenerator = false
  nd : N.Nodup
  pre : N.take P.length = P
  par : ∀ x ∈ P, sc.names.lookup x = some .local ∨ sc.names.lookup x = some .cell
  nofree : ∀ y ∈ sc.names, y.2 ≠ .free
theorem bindL_out {kindOf : Str → Option NameKind} {x : Str} : ∀ {binds : List (Str × Value)} {m : Str → Option Value}, (∀ v, (x, v) ∉ binds) → bindL kindOf binds m x = m x
  | [], _, _ => rfl
  | (n, v) :: r, m, h => by
    unfold bindL
    rw [bindL_out fun w hw => h w (List.mem_cons_of_mem _ hw)]
    split
    · have : x ≠ n := by rintro rfl; exact h v List.mem_cons_self
      simp [this]
    · rfl
theorem bindC_out {kindOf : Str → Option NameKind} {x : Str} : ∀ {binds : List (Str × Value)} {m : Str → Option Value}, (∀ v, (x, v) ∉ binds) → bindC kindOf binds m x = m x
  | [], _, _ => rfl
  | (n, v) :: r, m, h => by
    unfold bindC
    rw [bindC_out fun w hw => h w (List.mem_cons_of_mem _ hw)]
    split
    · rfl
    · have : x ≠ n := by rintro rfl; exact h v List.mem_cons_self
      simp [this]
theorem bindL_get {kindOf : Str → Option NameKind} {x : Str} {v : Value} : ∀ {P : List Str} {vs : List Value} {i : Nat} {m : Str → Option Value}, P.Nodup → P[i]? = some x → vs[i]? = some v → kindOf x = some .local →
    bindL kindOf (P.zip vs) m x = some v
  | [], _, _, _, _, h, _, _ => by simp at h
  | _ :: _, [], _, _, _, _, h, _ => by simp at h
  | p :: P, w :: vs, 0, m, nd, h1, h2, hk => by
    simp at h1 h2; subst h1; subst h2
    show bindL kindOf ((p, w) :: P.zip vs) m p = _
    unfold bindL
    rw [bindL_out fun v hv => (List.nodup_cons.mp nd).1 (List.of_mem_zip hv).1, if_pos hk]
    simp
  | p :: P, w :: vs, i + 1, m, nd, h1, h2, hk => by
    show bindL kindOf ((p, w) :: P.zip vs) m x = _
    unfold bindL
    exact bindL_get (i := i) (List.nodup_cons.mp nd).2 (by simpa using h1) (by simpa using h2) hk
theorem bindC_get {kindOf : Str → Option NameKind} {x : Str} {v : Value} : ∀ {P : List Str} {vs : List Value} {i : Nat} {m : Str → Option Value}, P.Nodup → P[i]? = some x → vs[i]? = some v → kindOf x ≠ some .local →
    bindC kindOf (P.zip vs) m x = some v
  | [], _, _, _, _, h, _, _ => by simp at h
  | _ :: _, [], _, _, _, _, h, _ => by simp at h
  | p :: P, w :: vs, 0, m, nd, h1, h2, hk => by
    simp at h1 h2; subst h1; subst h2
    show bindC kindOf ((p, w) :: P.zip vs) m p = _
    unfold bindC
    rw [bindC_out fun v hv => (List.nodup_cons.mp nd).1 (List.of_mem_zip hv).1, if_neg hk]
    simp
  | p :: P, w :: vs, i + 1, m, nd, h1, h2, hk => by
    show bindC kindOf ((p, w) :: P.zip vs) m x = _
    unfold bindC
    exact bindC_get (i := i) (List.nodup_cons.mp nd).2 (by simpa using h1) (by simpa using h2) hk
def start (N : List Str) (vs : List V) : St := vs.map some ++ List.replicate (N.length - vs.length) none
def cxOf (CX : CXT) (P : Program) (w : World) (K : PySem.W.Frag) (mg : Str → Option Value) (base : Heap) (N : List Str) (qual : Str) (scope : Scope) (f : Addr) (cd : Value) (A : Around) (outer : List Env) (s : Shared) (H : Hp) (E : XK) : Cx where
  prog := P
  w := w
  K := K
  mg := mg
  base := base
  A := A.deeper (envOfC qual scope s.heap.objs.size f cd)
  N := N
  s₀ := s
  H₀ := H
  env := envOfC qual scope s.heap.objs.size f cd
  outer := outer
  stack := envOfC qual scope s.heap.objs.size f cd :: outer
  ex := []
  calm := true
  fn := fun _ => true
  pn := []
  xe := fun e s' => wpAny (model P w) (A.deeper (envOfC qual scope s.heap.objs.size f cd)) (leaving (envOfC qual scope s.heap.objs.size f cd) e) (fun _ s'' => CX outer H s E e s'') (fun e' s'' => CX outer H s E e' s'') s'
theorem cell_has {sc : Scope} {n : Nat} {x : Str} (h : sc.names.lookup x = some .cell) : ∃ c, (cellsFrom n sc.names []).lookup x = some c := by
  have q := PySem.W.cellsFrom_some sc.names n [] (.inl h)
  exact Option.isSome_iff_exists.mp q
theorem inv_start {CX : CXT} {P : Program} {w : World} {K : PySem.W.Frag} {mg : Str → Option Value} {base : Heap} {N ps : List Str} {qual : Str} {scope : Scope} {f : Addr} {cd : Value} {A : Around} {outer : List Env} {s s1 : Shared} {H : Hp} {E : XK} {us : List Value} {vs : List V}
    (S : FnScope N ps scope) (hd : A.handled = none) (e0 : Env0 P w K mg base A outer s H) (hl : vs.length = ps.length) (r : Vals vs us)
    (x : InCallC s s.heap.objs.size (bindL (envOfC qual scope s.heap.objs.size f cd).kindOf (ps.zip us) fun _ => none) (cellsFrom (s.heap.objs.size + 1) scope.names []) (bindC (envOfC qual scope s.heap.objs.size f cd).kindOf (ps.zip us) fun _ => none) s1) :
    Inv (cxOf CX P w K mg base N qual scope f cd A outer s H E) [] (start N vs) H s1 := by
  have hpl : ps.length ≤ N.length := by have := congrArg List.length S.pre; rw [List.length_take] at this; omega
  obtain ⟨h1, tk, rfl, hk⟩ := x.done
  have noA : ∀ b : Addr, b ∉ (cxOf CX P w K mg base N qual scope f cd A outer s H E).ex := fun b z => absurd (show b ∈ ([] : List Addr) from z) (by simp)
  refine ⟨⟨e0.mod, S.kind, rfl, rfl, Nat.le_refl _, fun y z c h1 h2 => ?_, fun y hy => ?_, fun y c _ h => ?_, fun _ => hd, Around.frames_deeper e0.frames, .inr ⟨rfl, rfl⟩, fun b z => absurd z (noA b), e0.bs, e0.bsz, fun b _ _ => noA b, fun b z => absurd z (noA b), e0.funs, e0.frf⟩,
    rfl, e0.bare, Un.kept hk, ⟨_, x.toInCall.ns, fun i y v h1 h2 h3 => ?_⟩, fun y c h => ⟨_, x.cell y c h⟩, e0.hok.fresh (Nat.le_refl _), fun y c h => ?_, fun p hp => absurd (show p ∈ ([] : List (Addr × Obj)) from hp) (by simp), e0.hok.kept hk, ?_⟩
  · exact name_of_addr x.apart (PySem.mem_of_lookup h1) (PySem.mem_of_lookup h2)
  · have hy : scope.names.lookup y = some .cell ∨ scope.names.lookup y = some .free := hy
    rcases hy with hy | hy
    · exact cell_has hy
    · exact absurd rfl (S.nofree _ (PySem.mem_of_lookup hy))
  · exact Nat.le_of_lt (x.above y c (PySem.mem_of_lookup h))
  · have hi : i < vs.length := by
      unfold start at h2
      by_cases hi : i < vs.length
      · exact hi
      · rw [List.getElem?_append_right (by simpa using hi)] at h2
        rw [List.getElem?_replicate] at h2
        split at h2 <;> cases h2
    have ha : vs[i]? = some v := by
      unfold start at h2
      rw [List.getElem?_append_left (by simpa using hi), List.getElem?_map] at h2
      cases e : vs[i]? with
      | none => rw [e] at h2; cases h2
      | some a => rw [e] at h2; cases h2; rfl
    obtain ⟨u, hu, rv⟩ := r.get ha
    have hp : ps[i]? = some y := by
      rw [← S.pre, List.getElem?_take_of_lt (by omega)]; exact h1
    have ndP : ps.Nodup := by rw [← S.pre]; exact S.nd.sublist (List.take_sublist _ _)
    refine ⟨u, rv, ?_⟩
    rcases S.par y (List.mem_of_getElem? hp) with k | k
    · exact .inl ⟨k, bindL_get ndP hp hu k⟩
    · obtain ⟨c, e⟩ := cell_has (n := s.heap.objs.size + 1) k
      refine .inr ⟨.inl k, c, e, ?_⟩
      have q := x.cell y c e
      rw [bindC_get ndP hp hu (by show scope.names.lookup y ≠ _; rw [k]; decide)] at q
      exact q
  · exact e0.hok.fresh (Nat.le_of_lt (x.above y c (PySem.mem_of_lookup h)))
  · unfold start
    show _ = N.length
    rw [List.length_append, List.length_map, List.length_replicate]
    omega
theorem fn_of {CX : CXT} {P : Program} {w : World} {K : PySem.W.Frag} {mg : Str → Option Value} {base : Heap} {k : Nat} {f : Addr} {name qual : Str} {params : Arguments} {body : List Stmt} {scope : Scope} {dV kV doc pm cdv ct oc : Value} {an od : Option Addr}
    {osl : Array (Option Value)} {N ps : List Str} {sp : Sp} (lk : K.lookup f = some ⟨oc, od, .func (PySem.W.fnOf name qual params body scope dV kV doc pm an cdv ct), osl⟩) (hcd : PySem.W.codeIn K cdv qual = true) (S : FnScope N ps scope)
    (len : ∀ vs H Q E, sp vs H Q E → vs.length = ps.length)
    (hbody : ∀ (A : Around) (outer : List Env) (s : Shared) (H : Hp) (vs : List V) (Q : VK) (E : XK), Room k (A.deeper (envOfC qual scope s.heap.objs.size f cdv)) → sp vs H Q E →
      ∃ t, PSs (cxOf CX P w K mg base N qual scope f cdv A outer s H E) body t ∧ t { nx := fun _ H' => Q .non H', rt := Q } (start N vs) H) :
    FnOk P w K mg base CX (k + 1) f (PySem.W.fnOf name qual params body scope dV kV doc pm an cdv ct) ps sp := by
  refine ⟨len, fun A outer s H args us vs Q E hr e0 hb r hsp => ?_⟩
  have hl := len _ _ _ _ hsp
  have KX : K.In s.heap := e0.mod.kin.keeps fun b o e => (e0.bs b o e).1
  have lim : s.heap.NoLimit := e0.mod.nolimit.keeps fun b o e => (e0.bs b o e).1
  have hkind : ∀ y ∈ ps.zip us, scope.names.lookup y.1 = some .local ∨ (scope.names.lookup y.1 = some .cell ∧ ((cellsFrom (s.heap.objs.size + 1) scope.names []).lookup y.1).isSome = true) := fun ⟨n, v⟩ hy => by
    rcases S.par n (List.of_mem_zip hy).1 with q | q
    · exact .inl q
    · exact .inr ⟨q, PySem.W.cellsFrom_some _ _ _ (.inl q)⟩
  refine codeAny_call_function hr.depth (KX _ _ lk) rfl S.co S.gen rfl (PySem.W.codeRec_of KX hcd) (hb _ _ _ _ ?_)
  refine wpAny_newFunctionEnv_cells S.kind hkind fun env he s1 x => ?_
  subst he
  refine ⟨lim.keeps x.toInCall.keep, codeAny_func ?_⟩
  obtain ⟨t, ht, hq⟩ := hbody A outer s H vs Q E (hr.deeper _) hsp
  have I : Inv (cxOf CX P w K mg base N qual scope f cdv A outer s H E) [] (start N vs) H s1 := inv_start S hr.hd e0 hl r x
  refine wpAny_mono (ht [] s1 (start N vs) H _ I hq) (fun fl s' hs => ?_) fun e s' hs => hs
  have fin : ∀ {σ' : St} {H' : Hp} {v : V} {u : Value}, Inv (cxOf CX P w K mg base N qual scope f cdv A outer s H E) [] σ' H' s' → RelV v u → Q v H' → CE outer P w H s Q u s' :=
    fun {σ' H' v u} J rv q => ⟨v, H', J.os, J.bare, J.base, J.hok, rv, q⟩
  cases fl with
  | ret u =>
    obtain ⟨v, σ', H', J, rv, q⟩ := hs
    exact fin J rv q
  | next =>
    obtain ⟨σ', H', J, q⟩ := hs
    exact fin (v := V.non) (u := Value.none) J rfl q
  | brk =>
    obtain ⟨_, _, _, q⟩ := hs
    exact False.elim q
  | cont =>
    obtain ⟨_, _, _, q⟩ := hs
    exact False.elim q
end L2
namespace L2
open PySem PySem.Spec PyProof.Rows
section
variable {X : Cx} {x : Str} {p pos : Pos} {e : Expr} {es : List Expr} {t : TA} {id T : String} {r : List V → Hp → VK → Prop}
def tCB (r : List V → Hp → VK → Prop) (t : TA) : TE := fun σ H Q => t σ H fun vs H1 => r vs H1 Q
theorem pe_callB (hc : CallR X (.builtin id) r) (hg : Gl X x) (hm : X.mg x = none) (hv : bootBuiltins x = some (.builtin id)) (ha : PA X (e :: es) t) (hn : x ≠ "__name__" := by decide) (hdb : (x == ("__debug__" : Str)) = false := by decide)
    (he : starEach (e :: es) X.env = (false, eval e X.env) :: starEach es X.env := by rfl) (hpl : (backTo pos (starEach es X.env)).any (·.1) = false := by rfl) : PE X (.Call (.Name x p) (e :: es) [] pos) (tCB r t) := by
  intro pins s σ H Q I h
  refine wpAny_Call_Name_kw (ld_blt I hg hm hv ?_ hn hdb)
  exact PyProof.Rows.callWith_builtin1 (thn (ha pos pins s σ H _ I h) fun us s1 ⟨vs, H1, I1, r1, q1⟩ => hc pins s1 σ H1 vs us Q I1 r1 q1) he hpl
theorem pe_callTy (hc : CallR X (.type T) r) (hg : Gl X x) (hm : X.mg x = none) (hv : bootBuiltins x = some (.type T)) (ha : PA X (e :: es) t) (hn : x ≠ "__name__" := by decide) (hdb : (x == ("__debug__" : Str)) = false := by decide)
    (he : starEach (e :: es) X.env = (false, eval e X.env) :: starEach es X.env := by rfl) (hpl : (backTo pos (starEach es X.env)).any (·.1) = false := by rfl) : PE X (.Call (.Name x p) (e :: es) [] pos) (tCB r t) := by
  intro pins s σ H Q I h
  refine wpAny_Call_Name_kw (ld_blt I hg hm hv ?_ hn hdb)
  exact PyProof.Rows.callWith_type1 (thn (ha pos pins s σ H _ I h) fun us s1 ⟨vs, H1, I1, r1, q1⟩ => hc pins s1 σ H1 vs us Q I1 r1 q1) he hpl
end
end L2
namespace HT
open PySem PyProof.Rows
section
open PySem.SeqAt
open PySem.AutoSeq1 (wpAny_loadPart')
open PySem.MeetsSeq PySem.MeetsSeq2 PySem.MeetsSeq3
end
section
variable {prog : Program} {w : World} {A : Around} {E : Value → Shared → Prop} {s : Shared}
def sIx (n d : Nat) : Option Int → Nat
  | none => d
  | some v => if v < 0 then (v + (n : Int)).toNat else min v.toNat n
theorem sIx_none (n d : Nat) : sIx n d none = d := rfl
theorem sIx_nat (n d k : Nat) : sIx n d (some (k : Int)) = min k n := by
  show (if (k : Int) < 0 then ((k : Int) + (n : Int)).toNat else min (k : Int).toNat n) = min k n
  rw [if_neg (by omega), Int.toNat_natCast]
end
end HT
namespace L2
open PySem PySem.Spec PyProof.Rows
abbrev TO := St → Hp → (Option Int → Hp → Prop) → Prop
def PO (X : Cx) (e : Option Expr) (t : TO) : Prop :=
  ∀ (pins : List (Addr × Obj)) (s : Shared) (σ : St) (H : Hp) (Q : Option Int → Hp → Prop), Inv X pins σ H s → t σ H Q →
    wpAny (model X.prog X.w) X.A (evalPart e X.env) (fun u s' => ∃ o H', Inv X pins σ H' s' ∧ IsPart u o ∧ Q o H') X.xe s
def tNoPart : TO := fun _ H Q => Q none H
def tPart (t : TE) : TO := fun σ H Q => t σ H fun x H1 => ∃ i, x = .int i ∧ Q (some i) H1
theorem intsAre_of {ns : List Int} : ∀ {us : List Value}, Vals (ns.map V.int) us → IntsAre us ns := by
  induction ns with
  | nil => intro us r; rw [List.map_nil] at r; cases r; exact .nil
  | cons n ns ih =>
    intro us r
    rw [List.map_cons] at r
    cases r with
    | cons r1 r2 =>
      obtain ⟨t, e⟩ := r1
      subst e
      exact .cons n t (ih r2)
section
variable {X : Cx} {e : Expr} {te : TE} {lo hi : Option Expr} {tl th : TO} {pos p2 : Pos}
theorem po_none : PO X none tNoPart := by
  intro pins s σ H Q I h
  rw [evalPart_none]
  exact wpAny_pure ⟨none, H, I, .none, h⟩
theorem po_some (h : PE X e te) : PO X (some e) (tPart te) := by
  intro pins s σ H Q I hw
  rw [evalPart_some]
  refine thn (h pins s σ H _ I hw) fun u s1 ⟨x, H1, I1, r1, q1⟩ => ?_
  obtain ⟨i, rfl, q⟩ := q1
  obtain ⟨t, rfl⟩ := r1
  exact ⟨some i, H1, I1, .int i t, q⟩
def SlR (X : Cx) (r : V → Option Int → Option Int → Hp → VK → Prop) : Prop :=
  ∀ (pins : List (Addr × Obj)) (s : Shared) (σ : St) (H : Hp) (x : V) (v vl vu : Value) (lo hi : Option Int) (sl : Addr) (Q : VK), Inv X pins σ H s → RelV x v → s.heap.IsSliceOf sl vl vu .none → IsPart vl lo → IsPart vu hi → r x lo hi H Q →
    ∃ T id, typeLookup (.type T) "__getitem__" = pure (some (.builtin id)) ∧ s.TypeIs v T ∧ wpAny (model X.prog X.w) X.A (getItem v (.ref sl)) (EP X pins σ Q) X.xe s
def tSl (r : V → Option Int → Option Int → Hp → VK → Prop) (te : TE) (tl th : TO) : TE := fun σ H Q => te σ H fun x H1 => tl σ H1 fun l H2 => th σ H2 fun u H3 => r x l u H3 Q
theorem pe_slice {r : V → Option Int → Option Int → Hp → VK → Prop} (hr : SlR X r) (he : PE X e te) (hl : PO X lo tl) (hu : PO X hi th) : PE X (.Subscript e (.Slice lo hi none p2) pos) (tSl r te tl th) := by
  intro pins s σ H Q I h
  refine Subscript_ (thn (he pins s σ H _ I h) fun v s1 ⟨x, H1, I1, r1, q1⟩ => ?_)
  refine wpAny_Slice (thn (hl pins s1 σ H1 _ I1 q1) fun vl s2 ⟨l, H2, I2, pl, q2⟩ => thn (hu pins s2 σ H2 _ I2 q2) fun vu s3 ⟨u, H3, I3, pu, q3⟩ => ?_)
  rw [evalPart_none]
  refine wpAny_pure ?_
  have I4 : Inv X pins σ H3 { s3 with heap := s3.heap.push { cls := .type "slice", data := .fields #[vl, vu, .none] } } := I3.kept (t' := s3.toks) fun b ob q => Heap.get?_push_of_some _ q
  obtain ⟨T, id, hT, ht, hg⟩ := hr pins { s3 with heap := s3.heap.push { cls := .type "slice", data := .fields #[vl, vu, .none] } } σ H3 x v vl vu l u s3.heap.objs.size Q I4 r1 (Heap.IsSliceOf.new ..) pl pu q3
  show wpAny (model X.prog X.w) X.A (subscriptTail e (.Slice lo hi none p2) v (.ref s3.heap.objs.size)) (EP X pins σ Q) X.xe { s3 with heap := s3.heap.push { cls := .type "slice", data := .fields #[vl, vu, .none] } }
  exact tail_any (ops := [.ref s3.heap.objs.size, v]) ht hT hg (by with_unfolding_all rfl)
def cutV (xs : List V) (lo hi : Option Int) : List V := (xs.drop (HT.sIx xs.length 0 lo)).take (HT.sIx xs.length xs.length hi - HT.sIx xs.length 0 lo)
theorem cutV_length (xs : List V) (lo hi : Option Int) : (cutV xs lo hi).length ≤ xs.length := by
  unfold cutV
  rw [List.length_take, List.length_drop]
  omega
def rSlT (K : PySem.W.Frag) : V → Option Int → Option Int → Hp → VK → Prop := fun x lo hi H Q => ∃ a xs, x = .ref a ∧ SqT K H a xs ∧
  ¬ (HT.sIx xs.length 0 lo = 0 ∧ HT.sIx xs.length xs.length hi = xs.length) ∧ ∀ p, H p = none → Q (.ref p) (upd H p (.tup (cutV xs lo hi)))
end
end L2
namespace L2
open PySem PySem.Spec PyProof.Rows
def ixN (n : Nat) (i : Int) : Option Nat := if 0 ≤ i then (if i < n then some i.toNat else none) else if -(n : Int) ≤ i then some (i + n).toNat else none
def atI {α : Type} (xs : List α) (i : Int) : Option α := (ixN xs.length i).bind fun j => xs[j]?
theorem ixN_seq {n : Nat} {i : Int} {j : Nat} (h : ixN n i = some j) : seqIndex? i n = some j ∧ j < n ∧ -(n : Int) ≤ i ∧ i < n := by
  unfold ixN at h
  by_cases h0 : 0 ≤ i
  · rw [if_pos h0] at h
    by_cases h1 : i < n
    · rw [if_pos h1] at h
      have e : i.toNat = j := Option.some.inj h
      exact ⟨by rw [seqIndex_of h0 h1, e], by omega, by omega, h1⟩
    · rw [if_neg h1] at h; cases h
  · rw [if_neg h0] at h
    by_cases h1 : -(n : Int) ≤ i
    · rw [if_pos h1] at h
      have e : (i + n).toNat = j := Option.some.inj h
      exact ⟨by rw [seqIndex_neg (by omega) h1, e], by omega, h1, by omega⟩
    · rw [if_neg h1] at h; cases h
theorem atI_get {α : Type} {xs : List α} {i : Int} {v : α} (h : atI xs i = some v) : ∃ j, seqIndex? i xs.length = some j ∧ xs[j]? = some v ∧ j < xs.length ∧ -(xs.length : Int) ≤ i ∧ i < xs.length := by
  unfold atI at h
  cases e : ixN xs.length i with
  | none => rw [e] at h; cases h
  | some j =>
    rw [e] at h
    obtain ⟨h1, h2, h3, h4⟩ := ixN_seq e
    exact ⟨j, h1, h, h2, h3, h4⟩
theorem atI_nat {α : Type} {xs : List α} {j : Nat} {v : α} (h : xs[j]? = some v) : atI xs (j : Int) = some v := by
  have hj : j < xs.length := (List.getElem?_eq_some_iff.mp h).1
  have e : ixN xs.length (j : Int) = some j := by
    unfold ixN
    rw [if_pos (by omega), if_pos (by omega)]; simp
  unfold atI; rw [e]; exact h
def PlainIx (b : Expr) : Prop := ∀ o i, subscripted b false o i = operate [o, i] (getItem o i)
def IxR (X : Cx) (r : R2) : Prop :=
  ∀ (value slice : Expr) (pins : List (Addr × Obj)) (s : Shared) (σ : St) (H : Hp) (x y : V) (v u : Value) (Q : VK), Inv X pins σ H s → RelV x v → RelV y u → r x y H Q →
    subscripted slice false v u = operate [v, u] (getItem v u) → wpAny (model X.prog X.w) X.A (subscriptTail value slice v u) (EP X pins σ Q) X.xe s
def MtR (X : Cx) (id : String) (r : V → List V → Hp → VK → Prop) : Prop :=
  ∀ (pins : List (Addr × Obj)) (s : Shared) (σ : St) (H : Hp) (x : V) (xs : List V) (v : Value) (us : List Value) (Q : VK), Inv X pins σ H s → RelV x v → Vals xs us → r x xs H Q →
    wpAny (model X.prog X.w) X.A (call (.builtin id) (v :: us)) (EP X pins σ Q) X.xe s
section
variable {X : Cx} {a b : Expr} {ta tb : TE} {pos : Pos}
theorem pe_ix {r : R2} (hr : IxR X r) (ha : PE X a ta) (hb : PE X b tb) (hs : PlainIx b) : PE X (.Subscript a b pos) (tOp r ta tb) := by
  intro pins s σ H Q I h
  exact Subscript_ (binT ha hb I h fun v u s2 x y H2 I2 rx ry q => hr a b pins s2 σ H2 x y v u Q I2 rx ry q (hs _ _))
def rIxL (K : PySem.W.Frag) : R2 := fun x y H Q => ∃ p xs i v, x = .ref p ∧ y = .int i ∧ SqL K H p xs ∧ atI xs i = some v ∧ Q v H
def rIxT (K : PySem.W.Frag) : R2 := fun x y H Q => ∃ p xs i v, x = .ref p ∧ y = .int i ∧ SqT K H p xs ∧ atI xs i = some v ∧ Q v H
def rIxS : R2 := fun x y H Q => ∃ z i c, x = .str z ∧ y = .int i ∧ z.length ≤ sizeLine ∧ atI z.cps.toList i = some c ∧ Q (.str ⟨#[c]⟩) H
theorem ix_list : IxR X (rIxL X.K) := by
  intro value slice pins s σ H x y v u Q I rx ry h hs
  obtain ⟨p, xs, i, z, rfl, rfl, hq, he, q⟩ := h
  cases rx
  obtain ⟨t, rfl⟩ := ry
  obtain ⟨its, r, pl, hz⟩ := I.list hq
  obtain ⟨j, h1, h2, h3, h4, h5⟩ := atI_get he
  obtain ⟨w, ew, rw'⟩ := r.get h2
  have hl := r.length
  have hn := line63
  have fin : EP X pins σ Q w s := ⟨z, H, I, rw', q⟩
  by_cases h0 : 0 ≤ i
  · have hj : i.toNat = j := by
      rw [seqIndex_of h0 h5] at h1
      exact Option.some.inj h1
    exact item_listR pl.isList h0 (by omega) (by rw [hj]; simpa using ew) fin hs
  · have hj : (i + (its.toArray.size : Int)).toNat = j := by
      rw [seqIndex_neg (by omega) h4] at h1
      rw [List.size_toArray, ← hl]
      exact Option.some.inj h1
    exact subscriptTail_builtinR (x := w) pl.isList.typeIs slot_list_getitem.lookup
      (wpAny_getItem_list_neg (Q := fun r s' => r = w ∧ EP X pins σ Q r s') pl.isList (by omega) (by rw [List.size_toArray] <;> omega) (by omega) (by rw [hj]; simpa using ew) ⟨rfl, fin⟩) hs
theorem ix_tup : IxR X (rIxT X.K) := by
  intro value slice pins s σ H x y v u Q I rx ry h hs
  obtain ⟨p, xs, i, z, rfl, rfl, hq, he, q⟩ := h
  cases rx
  obtain ⟨t, rfl⟩ := ry
  obtain ⟨its, r, pl, hz⟩ := I.tuple hq
  obtain ⟨j, h1, h2, h3, h4, h5⟩ := atI_get he
  obtain ⟨w, ew, rw'⟩ := r.get h2
  have hl := r.length
  have hn := line63
  have fin : EP X pins σ Q w s := ⟨z, H, I, rw', q⟩
  exact subscriptTail_builtinR (x := w) pl.typeIs slot_tuple_getitem.lookup
    (getItem_tuple (j := j) (Q := fun r s' => r = w ∧ EP X pins σ Q r s') pl (by omega) (by omega) (by rw [List.size_toArray, ← hl]; exact h1) (by simpa using ew) ⟨rfl, fin⟩) hs
theorem Inv.lst {pins : List (Addr × Obj)} {σ : St} {H : Hp} {s : Shared} {p : Addr} {xs : List V} (I : Inv X pins σ H s) (h : H p = some (.lst xs)) :
    ∃ (its : List Value) (n : Nat), Vals xs its ∧ s.heap.get? p = some { cls := .type "list", data := .seq its.toArray n } ∧ xs.length ≤ sizeLine := by
  obtain ⟨z, its, n, r, e⟩ := I.hok p _ h
  exact ⟨its, n, r, e, z⟩
theorem slice_bounds (lo hi : Option Int) (n : Nat) : (sliceBounds lo hi none n).1 = ((HT.sIx n 0 lo : Nat) : Int) ∧ (sliceBounds lo hi none n).2.1 = ((HT.sIx n n hi : Nat) : Int) ∧ (sliceBounds lo hi none n).2.2 = 1 := by
  refine ⟨?_, ?_, rfl⟩
  · cases lo with
    | none => simp [sliceBounds, HT.sIx]
    | some i =>
      simp only [sliceBounds, HT.sIx, Option.getD_none, show (1 : Int) > 0 by decide, if_true]
      by_cases h : i < 0
      · simp only [h, if_true] <;> omega
      · simp only [h, if_false] <;> omega
  · cases hi with
    | none => simp [sliceBounds, HT.sIx]
    | some i =>
      simp only [sliceBounds, HT.sIx, Option.getD_none, show (1 : Int) > 0 by decide, if_true]
      by_cases h : i < 0
      · simp only [h, if_true] <;> omega
      · simp only [h, if_false] <;> omega
theorem slicePick_cut (its : List Value) (lo hi : Option Int) : slicePick its.toArray lo hi none = ((its.drop (HT.sIx its.length 0 lo)).take (HT.sIx its.length its.length hi - HT.sIx its.length 0 lo)).toArray := by
  obtain ⟨h1, h2, h3⟩ := slice_bounds lo hi its.toArray.size
  unfold slicePick
  rw [h1, h2, h3]
  simp only [sliceRange_one, pick_run, List.size_toArray] <;> rfl
def rSlL (K : PySem.W.Frag) : V → Option Int → Option Int → Hp → VK → Prop := fun x lo hi H Q => ∃ a xs, x = .ref a ∧ SqL K H a xs ∧ ∀ p, H p = none → Q (.ref p) (upd H p (.lst (cutV xs lo hi)))
theorem sl_list : SlR X (rSlL X.K) := by
  intro pins s σ H x v vl vu lo hi sl Q I rx hs pl pu h
  obtain ⟨a, xs, rfl, hx, q⟩ := h
  cases rx
  obtain ⟨its, r, ht, hz⟩ := I.list hx
  have hlen := r.length
  refine ⟨"list", _, slot_list_getitem.lookup, ht.isList.typeIs, ?_⟩
  refine wpAny_getItem_list_slice ht.isList hs pl pu .none (by simp) ?_ (by rw [List.size_toArray] <;> omega)
  rw [slicePick_cut, ← hlen]
  refine ⟨.ref s.heap.objs.size, _, I.laid (t' := s.toks) (o := .lst (cutV xs lo hi)) (fun b ob q => Heap.get?_push_of_some _ q) (Nat.le_refl _) ?_, rfl, q _ (I.hok.fresh (Nat.le_refl _))⟩
  exact ⟨Nat.le_trans (cutV_length xs lo hi) hz, _, 0, (r.drop (HT.sIx xs.length 0 lo)).take (HT.sIx xs.length xs.length hi - HT.sIx xs.length 0 lo), Heap.get?_push_size _ rfl⟩
def flatV : V → Bool
  | .non => true
  | .bl _ => true
  | .int _ => true
  | .str _ => true
  | _ => false
def eqV : V → V → Bool
  | .non, .non => true
  | .bl a, .bl b => a == b
  | .bl a, .int b => (if a then 1 else 0) == b
  | .int a, .bl b => a == (if b then 1 else 0)
  | .int a, .int b => a == b
  | .str a, .str b => a == b
  | _, _ => false
theorem eqAt_V {A : Around} {s : Shared} {y x : V} {u v : Value} (ry : RelV y u) (rx : RelV x v) (fy : flatV y = true) (fx : flatV x = true) : SeqAt.EqAt A s u v (eqV y x) := by
  cases y with
  | non =>
    cases ry
    cases x with
    | non => cases rx; exact SeqAt.EqAt.same _
    | bl b => cases rx; exact SeqAt.EqAt.none_bool b
    | int b => obtain ⟨t, rfl⟩ := rx; exact SeqAt.EqAt.none_int b t
    | str b => obtain ⟨t, rfl⟩ := rx; exact SeqAt.EqAt.none_str b t
    | _ => exact absurd (show false = true from fx) Bool.false_ne_true
  | bl a =>
    cases ry
    cases x with
    | non => cases rx; exact SeqAt.EqAt.bool_none a
    | bl b => cases rx; exact SeqAt.EqAt.bool_bool a b
    | int b => obtain ⟨t, rfl⟩ := rx; exact SeqAt.EqAt.bool_int a b t
    | str b => obtain ⟨t, rfl⟩ := rx; exact SeqAt.EqAt.bool_str a b t
    | _ => exact absurd (show false = true from fx) Bool.false_ne_true
  | int a =>
    obtain ⟨t', rfl⟩ := ry
    cases x with
    | non => cases rx; exact SeqAt.EqAt.int_none a t'
    | bl b => cases rx; exact SeqAt.EqAt.int_bool a t' b
    | int b => obtain ⟨t, rfl⟩ := rx; exact SeqAt.EqAt.int_int a t' b t
    | str b => obtain ⟨t, rfl⟩ := rx; exact SeqAt.EqAt.int_str a t' b t
    | _ => exact absurd (show false = true from fx) Bool.false_ne_true
  | str a =>
    obtain ⟨t', rfl⟩ := ry
    cases x with
    | non => cases rx; exact SeqAt.EqAt.str_none a t'
    | bl b => cases rx; exact SeqAt.EqAt.str_bool a t' b
    | int b => obtain ⟨t, rfl⟩ := rx; exact SeqAt.EqAt.str_int a t' b t
    | str b => obtain ⟨t, rfl⟩ := rx; exact SeqAt.EqAt.str_str a t' b t
    | _ => exact absurd (show false = true from fx) Bool.false_ne_true
  | _ => exact absurd (show false = true from fy) Bool.false_ne_true
def eqU (x : V) (u : Value) : Bool := match u with
  | .none => eqV .non x
  | .bool b => eqV (.bl b) x
  | .int i _ => eqV (.int i) x
  | .str z _ => eqV (.str z) x
  | _ => false
theorem eqU_of {x y : V} {u : Value} (r : RelV y u) (f : flatV y = true) : eqU x u = eqV y x := by
  cases y with
  | non => cases r; rfl
  | bl b => cases r; rfl
  | int i => obtain ⟨t, rfl⟩ := r; rfl
  | str z => obtain ⟨t, rfl⟩ := r; rfl
  | _ => exact absurd (show false = true from f) Bool.false_ne_true
theorem any_eqU {x : V} : ∀ {xs : List V} {us : List Value}, Vals xs us → xs.all flatV = true → us.any (eqU x) = xs.any fun y => eqV y x
  | _, _, .nil, _ => rfl
  | y :: xs, u :: us, .cons r t, f => by
    rw [List.all_cons, Bool.and_eq_true] at f
    rw [List.any_cons, List.any_cons, eqU_of r f.1, any_eqU t f.2]
theorem mem_eqAt {A : Around} {s : Shared} {x : V} {v : Value} (rx : RelV x v) (fx : flatV x = true) : ∀ {xs : List V} {us : List Value}, Vals xs us → xs.all flatV = true → ∀ u ∈ us, SeqAt.EqAt A s u v (eqU x u)
  | _, _, .nil, _ => fun u hu => by cases hu
  | y :: xs, u :: us, .cons r t, f => fun u' hu => by
    rw [List.all_cons, Bool.and_eq_true] at f
    rcases List.mem_cons.mp hu with rfl | hu
    · rw [eqU_of r f.1]; exact eqAt_V r rx f.1 fx
    · exact mem_eqAt rx fx t f.2 u' hu
def inV (x : V) (xs : List V) : Bool := xs.any fun y => eqV y x
def rIn (K : PySem.W.Frag) (neg : Bool) : R2 := fun x y H Q => ∃ p xs, y = .ref p ∧ (SqL K H p xs ∨ SqT K H p xs) ∧ flatV x = true ∧ xs.all flatV = true ∧ Q (.bl (if neg then !inV x xs else inV x xs)) H
theorem op_in_seq : OpR X (compareOp .In) (rIn X.K false) := by
  intro pins s σ H x y v u Q I rx ry h
  obtain ⟨p, xs, rfl, hq, fx, fs, q⟩ := h
  cases ry
  rcases hq with hq | hq
  · obtain ⟨its, r, pl, hz⟩ := I.list hq
    refine SeqAt.in_listAt (eqU x) pl.isList (fun w hw => mem_eqAt rx fx r fs w (by simpa using hw)) ⟨.bl _, H, I, rfl, ?_⟩
    rw [show its.toArray.any (eqU x) = its.any (eqU x) by simp, any_eqU r fs]
    exact q
  · obtain ⟨its, r, pl, hz⟩ := I.tuple hq
    refine SeqAt.in_tupleAt (eqU x) pl (fun w hw => mem_eqAt rx fx r fs w (by simpa using hw)) ⟨.bl _, H, I, rfl, ?_⟩
    rw [show its.toArray.any (eqU x) = its.any (eqU x) by simp, any_eqU r fs]
    exact q
theorem call_len_seq : CallR X (.builtin "len") (fun xs H Q => ∃ p ys, xs = [.ref p] ∧ (SqL X.K H p ys ∨ SqT X.K H p ys) ∧ Q (.int ys.length) H) := by
  intro pins s σ H xs us Q I r h
  obtain ⟨p, ys, rfl, hq, q⟩ := h
  obtain ⟨u, rfl, rx⟩ := vals1 r
  cases rx
  have hn := line63
  rcases hq with hq | hq
  · obtain ⟨its, r', pl, hz⟩ := I.list hq
    have hlen := r'.length
    exact Calls.call_len_list pl.isList (by simp only [List.size_toArray] <;> omega) ⟨.int ys.length, H, I.tok _, ⟨s.toks + 1, by rw [List.size_toArray, hlen]⟩, q⟩
  · obtain ⟨its, r', pl, hz⟩ := I.tuple hq
    have hlen := r'.length
    exact len_tuple pl (by simp only [List.size_toArray] <;> omega) ⟨.int ys.length, H, I.tok _, ⟨s.toks + 1, by rw [List.size_toArray, hlen]⟩, q⟩
theorem call_list_of : CallR X (.type "list") (fun xs H Q => ∃ p ys, xs = [.ref p] ∧ (SqL X.K H p ys ∨ SqT X.K H p ys) ∧ ∀ l, H l = none → Q (.ref l) (upd H l (.lst ys))) := by
  intro pins s σ H xs us Q I r h
  obtain ⟨p, ys, rfl, hq, q⟩ := h
  obtain ⟨u, rfl, rx⟩ := vals1 r
  cases rx
  have fin : ∀ (its : List Value), Vals ys its → ys.length ≤ sizeLine → ∀ (h' : Heap) (c' : Nat), (∀ b o', s.heap.get? b = some o' → h'.get? b = some o') →
      h'.get? s.heap.objs.size = some { cls := .type "list", dict := none, data := .seq its.toArray c', slots := #[] } → EP X pins σ Q (.ref s.heap.objs.size) { s with heap := h' } := fun its r' hz h' c' kp e =>
    ⟨.ref s.heap.objs.size, _, I.laid (t' := s.toks) kp (Nat.le_refl _) (show ObjOk X.prog X.w _ h' _ (.lst ys) from ⟨hz, its, c', r', e⟩), rfl, q _ (I.hok.fresh (Nat.le_refl _))⟩
  rcases hq with hq | hq
  · obtain ⟨its, r', pl, hz⟩ := I.list hq
    have hlen := r'.length
    obtain ⟨o, ho, hc, n, hd⟩ := pl.isList
    exact call_list_seq p (.inl rfl) ho hc hd (fun h' c' kp e => fin its r' hz h' c' kp e) (by simp only [List.size_toArray] <;> omega)
  · obtain ⟨its, r', pl, hz⟩ := I.tuple hq
    have hlen := r'.length
    obtain ⟨o, ho, hc, n, hd⟩ := pl
    exact call_list_seq p (.inr rfl) ho hc hd (fun h' c' kp e => fin its r' hz h' c' kp e) (by simp only [List.size_toArray] <;> omega)
def tyV (K : PySem.W.Frag) (T : String) (x : V) (H : Hp) : Prop := match x with
  | .str _ => T = "str"
  | .int _ => T = "int"
  | .ref p => (T = "list" ∧ ∃ xs, SqL K H p xs) ∨ (T = "tuple" ∧ ∃ o, K.lookup p = some o ∧ o.cls = .type "tuple" ∧ o.dict = none) ∨
      (T = "dict" ∧ ((∃ kvs, H p = some (.dK kvs)) ∨ ∃ kvs, H p = some (.dT kvs))) ∨ (T = "set" ∧ ∃ S n, H p = some (.set S n))
  | _ => False
theorem tyV_is {pins : List (Addr × Obj)} {σ : St} {H : Hp} {s : Shared} {T : String} {x : V} {v : Value} (I : Inv X pins σ H s) (r : RelV x v) (ty : tyV X.K T x H) :
    s.TypeIs v T ∧ ∀ a, v = .ref a → ∃ ob, s.heap.get? a = some ob ∧ ob.dict = none := by
  cases x with
  | str z =>
    obtain ⟨t, rfl⟩ := r
    cases (show T = "str" from ty)
    exact ⟨typeIs_str s z t, fun _ e => nomatch e⟩
  | int i =>
    obtain ⟨t, rfl⟩ := r
    cases (show T = "int" from ty)
    exact ⟨typeIs_int s i t, fun _ e => nomatch e⟩
  | ref p =>
    cases r
    rcases ty with ⟨rfl, xs, hq⟩ | ⟨rfl, o, hk, hc, hd⟩ | ⟨rfl, hk⟩ | ⟨rfl, S, n, hk⟩
    · obtain ⟨its, _, pl, _⟩ := I.list hq
      refine ⟨pl.isList.typeIs, fun a e => ?_⟩
      cases e
      obtain ⟨o, n, e, c, hd, _⟩ := pl
      exact ⟨o, e, hd⟩
    · refine ⟨⟨o, I.kIn p o hk, hc⟩, fun a e => ?_⟩
      cases e
      exact ⟨o, I.kIn _ o hk, hd⟩
    · have z : ∃ o, s.heap.get? p = some o ∧ o.ExactDict := by
        rcases hk with ⟨kvs, hk⟩ | ⟨kvs, hk⟩
        · obtain ⟨_, _, _, _, o, _, _, e, ex, _⟩ := I.hok p _ hk
          exact ⟨o, e, ex⟩
        · obtain ⟨_, _, _, _, o, _, _, e, ex, _⟩ := I.hok p _ hk
          exact ⟨o, e, ex⟩
      obtain ⟨o, e, ex⟩ := z
      refine ⟨⟨o, e, ex.1⟩, fun a e2 => ?_⟩
      cases e2
      exact ⟨o, e, ex.2.1⟩
    · obtain ⟨o, _, _, _, e, ex, _⟩ := I.hok p _ hk
      refine ⟨⟨o, e, ex.1⟩, fun a e2 => ?_⟩
      cases e2
      exact ⟨o, e, ex.2.1⟩
  | _ => exact False.elim ty
def tBM0 (K : PySem.W.Frag) (T : String) (r : V → List V → Hp → VK → Prop) (to : TE) : TE := fun σ H Q => to σ H fun x H1 => tyV K T x H1 ∧ r x [] H1 Q
def tBM (K : PySem.W.Frag) (T : String) (r : V → List V → Hp → VK → Prop) (to : TE) (t : TA) : TE := fun σ H Q => to σ H fun x H1 => tyV K T x H1 ∧ t σ H1 fun xs H2 => r x xs H2 Q
variable {o e : Expr} {es : List Expr} {to : TE} {t : TA} {name : Str} {apos cpos : Pos} {T id : String} {r : V → List V → Hp → VK → Prop}
theorem pe_bm0 (pa : PlainAttrs T) (slot : Slot T name id) (hty : typeOf (.builtin id) = pure (.type "method_descriptor")) (hm : MtR X id r) (ho : PE X o to)
    (hbase : attributeBase o name X.env (eval o X.env) = eval o X.env := by rfl) (hline : (apos.endLine == cpos.line) = true := by rfl) : PE X (.Call (.Attribute o name apos) [] [] cpos) (tBM0 X.K T r to) := by
  intro pins s σ H Q I h
  refine wpAny_Call_method0_late hbase hline (thn (ho pins s σ H _ I h) fun v s1 ⟨x, H1, I1, r1, ty, q1⟩ => ?_)
  obtain ⟨h1, h2⟩ := tyV_is I1 r1 ty
  exact ⟨T, id, pa, slot, hty, h1, h2, Calls.callWith_builtin rfl (PySem.evalArgs_none (hm pins s1 σ H1 x [] v [] Q I1 r1 .nil q1))⟩
theorem pe_bm (pa : PlainAttrs T) (slot : Slot T name id) (hty : typeOf (.builtin id) = pure (.type "method_descriptor")) (hm : MtR X id r) (ho : PE X o to) (ha : PA X (e :: es) t)
    (hbase : attributeBase o name X.env (eval o X.env) = eval o X.env := by rfl)
    (hfew : ((backTo cpos (starEach (e :: es) X.env)).all (fun x => !x.1) && (backToKw cpos (keywordEach [] X.env)).all (fun x => x.1.isSome)
      && decide ((e :: es).length + ([] : List Keyword).length + (if ([] : List Keyword).isEmpty then 0 else 1) < 30)) = true := by rfl)
    (hline : (apos.endLine == cpos.line) = true := by rfl) (hs : starEach (e :: es) X.env = (false, eval e X.env) :: starEach es X.env := by rfl) (hplain : (backTo cpos (starEach es X.env)).any (·.1) = false := by rfl) :
    PE X (.Call (.Attribute o name apos) (e :: es) [] cpos) (tBM X.K T r to t) := by
  intro pins s σ H Q I h
  refine wpAny_Call_method_late hbase hfew hline rfl (thn (ho pins s σ H _ I h) fun v s1 ⟨x, H1, I1, r1, ty, q1⟩ => ?_)
  obtain ⟨h1, h2⟩ := tyV_is I1 r1 ty
  refine ⟨T, id, pa, slot, hty, h1, h2, ?_⟩
  have hA := ha cpos pins s1 σ H1 _ I1 q1
  rw [hs] at hA ⊢
  refine Calls.callWith_builtin (by show (false || (backTo cpos (starEach es X.env)).any (·.1)) = false; rw [hplain] <;> rfl) (Calls.evalArgs_plain ?_)
  exact thn hA fun us s2 ⟨vs, H2, I2, r2, q2⟩ => hm pins s2 σ H2 x vs v us Q I2 r1 r2 q2
end
end L2
namespace L2
open PySem PySem.Spec PyProof.Rows
def MtM (X : Cx) (id : String) (r : V → List V → Hp → VK → Prop) : Prop :=
  ∀ (pins : List (Addr × Obj)) (s : Shared) (σ : St) (H : Hp) (x : V) (xs : List V) (v : Value) (us : List Value) (Q : VK), Inv X pins σ H s → RelV x v → Vals xs us → r x xs H Q →
    wpAny (model X.prog X.w) X.A (call (.builtin id) (v :: us)) (EP X pins σ Q) X.xe s
theorem Vals.one : ∀ {x : V} {us : List Value}, Vals [x] us → ∃ u, us = [u] ∧ RelV x u
  | _, _, .cons r .nil => ⟨_, rfl, r⟩
theorem Vals.two : ∀ {x y : V} {us : List Value}, Vals [x, y] us → ∃ u v, us = [u, v] ∧ RelV x u ∧ RelV y v
  | _, _, _, .cons r (.cons q .nil) => ⟨_, _, rfl, r, q⟩
theorem Vals.zero : ∀ {us : List Value}, Vals [] us → us = []
  | _, .nil => rfl
theorem Vals.dropLast {xs : List V} {us : List Value} (h : Vals xs us) : Vals xs.dropLast us.dropLast := by
  induction h with
  | nil => exact .nil
  | cons r t ih =>
    cases t with
    | nil => exact .nil
    | cons q t' => exact .cons r ih
theorem Vals.eraseIdx : ∀ {xs : List V} {us : List Value} (i : Nat), Vals xs us → Vals (xs.eraseIdx i) (us.eraseIdx i)
  | _, _, _, .nil => .nil
  | _, _, 0, .cons _ t => t
  | _, _, i + 1, .cons r t => .cons r (Vals.eraseIdx i t)
theorem Vals.reverse {xs : List V} {us : List Value} (h : Vals xs us) : Vals xs.reverse us.reverse := by
  induction h with
  | nil => exact .nil
  | cons r t ih => rw [List.reverse_cons, List.reverse_cons]; exact Vals.append ih (.cons r .nil)
theorem len_erase {α : Type} : ∀ (l : List α) (i : Nat), (l.eraseIdx i).length ≤ l.length
  | [], _ => Nat.le_refl _
  | _ :: _, 0 => Nat.le_succ _
  | _ :: r, i + 1 => Nat.succ_le_succ (len_erase r i)
section
variable {X : Cx} {pins : List (Addr × Obj)} {σ : St} {H : Hp} {s : Shared} {l b : Addr} {xs ys zs : List V}
theorem Inv.lset {its its' : List Value} {n : Nat} {f : Array Value → Array Value} {t' : Nat} (I : Inv X pins σ H s) (hH : H l = some (.lst xs))
    (e : s.heap.get? l = some { cls := .type "list", data := .seq its.toArray n }) (hf : f its.toArray = its'.toArray) (hv : Vals ys its') (hz : ys.length ≤ sizeLine) :
    Inv X pins σ (upd H l (.lst ys)) { s with heap := s.heap.update l (Obj.mapSeq f), toks := t' } := by
  have q := PySem.IsL.update e f
  rw [hf] at q
  refine I.write (x := l) (e := l) (by rw [hH]; exact trivial) (.inl rfl) (fun b' u hb hu => (Heap.get?_update_other s.heap (Obj.mapSeq f) (Ne.symm hb)).trans hu) ⟨_, q⟩ ?_
  exact ⟨hz, its', _, hv, q⟩
theorem Inv.lnew {its : List Value} {t' : Nat} (I : Inv X pins σ H s) (hv : Vals ys its) (hz : ys.length ≤ sizeLine) :
    Inv X pins σ (upd H s.heap.objs.size (.lst ys)) { s with heap := s.heap.push { cls := .type "list", data := .seq its.toArray }, toks := t' } :=
  I.laid (fun _ _ q => Heap.get?_push_of_some _ q) (Nat.le_refl _) ⟨hz, its, 0, hv, Heap.get?_push_size _ rfl⟩
theorem Inv.fresh (I : Inv X pins σ H s) : H s.heap.objs.size = none := I.hok.fresh (Nat.le_refl _)
theorem Inv.lstM (I : Inv X pins σ H s) (hH : H l = some (.lst xs)) : xs.length ≤ sizeLine ∧ ∃ (its : List Value) (n : Nat), Vals xs its ∧ xs.length = its.length ∧ s.heap.get? l = some { cls := .type "list", data := .seq its.toArray n } := by
  obtain ⟨z, its, n, r, e⟩ := I.hok l _ hH
  exact ⟨z, its, n, r, r.length, e⟩
end
section
variable {X : Cx}
def rAppend : V → List V → Hp → VK → Prop := fun x vs H Q => ∃ l xs y, x = .ref l ∧ vs = [y] ∧ H l = some (.lst xs) ∧ xs.length < sizeLine ∧ Q .non (upd H l (.lst (xs ++ [y])))
theorem mt_append : MtM X "list.append" rAppend := by
  intro pins s σ H x vs v us Q I rx rv h
  obtain ⟨l, xs, y, rfl, rfl, hH, hz, q⟩ := h
  cases rx
  obtain ⟨u, rfl, ru⟩ := rv.one
  obtain ⟨z, its, n, r, hl, e⟩ := I.lstM hH
  refine call_meets F.slot_list_append ⟨_, e, rfl⟩ F.entry_list_append (F.args_list_append_2 _ _) (PySem.list_append l its.toArray n u (by rw [List.size_toArray]; omega)) ⟨e, ?_⟩
  refine ⟨.non, _, I.lset (its' := its ++ [u]) hH e (by simp) (r.append (.cons ru .nil)) ?_, rfl, q⟩
  rw [List.length_append, List.length_singleton]
  omega
def rPopAt : V → List V → Hp → VK → Prop := fun x vs H Q => ∃ l xs i k y, x = .ref l ∧ vs = [.int i] ∧ H l = some (.lst xs) ∧ -(2 ^ 63) ≤ i ∧ i < 2 ^ 63 ∧ seqIndex? i xs.length = some k ∧ xs[k]? = some y ∧ Q y (upd H l (.lst (xs.eraseIdx k)))
theorem mt_popAt : MtM X "list.pop" rPopAt := by
  intro pins s σ H x vs v us Q I rx rv h
  obtain ⟨l, xs, i, k, y, rfl, rfl, hH, h1, h2, hk, hy, q⟩ := h
  cases rx
  obtain ⟨u, rfl, ru⟩ := rv.one
  obtain ⟨t, rfl⟩ := ru
  obtain ⟨z, its, n, r, hl, e⟩ := I.lstM hH
  obtain ⟨w, hw, rw'⟩ := r.get hy
  refine call_meets F.slot_list_pop ⟨_, e, rfl⟩ F.entry_list_pop (F.args_list_pop_2 _ _)
    (MeetsSeq.list_pop_at l its.toArray n i t k w (fitsIndex_both h1 h2) (by rw [List.size_toArray, ← hl]; exact hk) (by rw [← Array.getElem?_toList]; exact hw) (by rw [List.size_toArray]; omega)) ⟨e, ?_⟩
  refine ⟨y, _, I.lset (its' := its.eraseIdx k) hH e ?_ (r.eraseIdx k) ?_, rw', q⟩
  · show its.toArray.eraseIdxIfInBounds k = (its.eraseIdx k).toArray
    rw [List.eraseIdxIfInBounds_toArray]
  · have := len_erase xs k
    omega
def rCat : R2 := fun x y H Q => ∃ l b xs zs, x = .ref l ∧ y = .ref b ∧ H l = some (.lst xs) ∧ H b = some (.lst zs) ∧ xs.length + zs.length ≤ sizeLine ∧ ∀ p, H p = none → Q (.ref p) (upd H p (.lst (xs ++ zs)))
theorem op_cat : OpR X (binaryOp .Add) rCat := by
  intro pins s σ H x y v u Q I rx ry h
  obtain ⟨l, b, xs, zs, rfl, rfl, hH, hB, hz, q⟩ := h
  cases rx
  cases ry
  obtain ⟨z, its, n, r, hl, e⟩ := I.lstM hH
  obtain ⟨z2, its2, n2, r2, hl2, e2⟩ := I.lstM hB
  refine PySem.P.add_list e e2 ?_ (by rw [List.size_toArray, List.size_toArray]; omega)
  have ea : its.toArray ++ its2.toArray = (its ++ its2).toArray := by simp
  rw [ea]
  exact ⟨.ref _, _, I.lnew (t' := s.toks) (r.append r2) (by rw [List.length_append]; omega), rfl, q _ I.fresh⟩
end
section
variable {prog : Program} {w : World} {A : Around} {E : Value → Shared → Prop} {s : Shared}
set_option maxRecDepth 100000 in
end
section
variable {X : Cx}
end
end L2
namespace Att
open PySem PySem.W PySem.Calls PyProof.Rows
theorem ints_of_wellAll {P : Params} {h : Heap} : ∀ (ns : List Int) (vs : List Value), WellAll P h vs (ns.map WData.int) → IntsAre vs ns := by
  intro ns
  induction ns with
  | nil =>
    intro vs w
    rw [List.map_nil] at w
    cases w
    exact .nil
  | cons n ns ih =>
    intro vs w
    rw [List.map_cons] at w
    cases w with
    | cons a b =>
      cases a
      exact .cons _ _ (ih _ b)
theorem script_of {l : OpenLaw} {n : Nat} (hn : l.most = some n) {P : Params} {h : Heap} {args : List WData} {vals : List Value}
    (hpre : l.row.toRowW.claim.pre args = true) (hwl : WellAll P h vals args) :
    ∃ a vs ns, vals = [Value.ref a] ∧ args = [WData.list (ns.map WData.int)] ∧ h.get? a = some { cls := .type "list", data := .seq vs.toArray } ∧ IntsAre vs ns ∧ ns.length ≤ n := by
  have hsh : WShape.hasAll [] args [.list .int] = true := (pre_splitW hpre).1
  have hc : l.pre.holds [] { args := args } = true := (pre_splitW hpre).2
  obtain ⟨d, r, rfl, h1, h2⟩ := hasAllW_cons hsh
  obtain rfl := hasAllW_nil h2
  obtain ⟨xs, rfl, h3⟩ := hasW_list h1
  obtain ⟨ns, rfl⟩ := items_int h3
  have hlen : ns.length ≤ n := by
    unfold OpenLaw.pre at hc
    have h4 : (WTm.not (.lt (.lit (.int (n : Int))) (.len (.arg 0)))).holds [] { args := [.list (ns.map .int)] } = true := by
      have h4 := (holds_andW hc).1
      rw [hn] at h4
      exact h4
    have h5 := condW_of h4 (w_not (w_lt w_lit (w_len_list (w_arg rfl))))
    rw [List.length_map] at h5
    refine Nat.le_of_not_lt fun q => ?_
    have q' : (n : Int) < ((ns.length : Nat) : Int) := by omega
    first
      | (rw [decide_eq_true q'] at h5; exact absurd h5 (by decide))
      | (simp at h5; omega)
  cases hwl with
  | cons w1 w2 =>
    cases w2
    cases w1 with
    | list ho hall => exact ⟨_, _, ns, rfl, rfl, ho, ints_of_wellAll ns _ hall, hlen⟩
theorem post_true (l : OpenLaw) (args : List WData) : l.row.toRowW.claim.post args (.bool true) args = true :=
  postW_of (r := l.row.toRowW) (X := (true == true))
    (show WShape.has [] (.bool true) .bool = true by first | rfl | decide | simp [WShape.has, WShape.arms, WShape.armsAll])
    (show (WTm.eq .res (.lit (.bool true))).value [] { args := args, res := some (.bool true), after := args } = some (.bool (true == true)) from w_eq_bool (w_res rfl) w_lit) rfl
theorem attach_call {l : OpenLaw} {n : Nat} {q : Program} {loose : List Str} {XP : (Str → Option Value) → Heap → Prop} {YP : World → Heap → Prop} {d : DefRec}
    (hn : l.most = some n) (hdf : d.params.defaults = [])
    (call : ∀ (w : World) (s₀ s₁ : Shared) (mg mb : Str → Option Value) (fa : Addr) (o : Obj) (pm cd doc : Value) (a : Addr) (vs : List Value) (ns : List Int),
      Ground q loose [] XP w s₀ mg mb s₁.heap → YP w s₁.heap →
      s₁.heap.get? fa = some o → o.data = .func (docDef d.name d.params d.body d.scope pm cd doc) → s₁.heap.CodeRec cd d.name → mg d.name = some (.ref fa) →
      s₁.heap.get? a = some { cls := .type "list", data := .seq vs.toArray } → IntsAre vs ns → ns.length ≤ n → s₁.gens = #[] →
      codeAny (model l.prog w) callerA (.call (.ref fa) ⟨[.ref a], []⟩) (fun r s' => r = .ok (.ret (.bool true)) ∧ OldK s₁.heap s'.heap ∧ s'.os = s₁.os ∧ AllBare s'.gens) s₁) :
    WalkO q loose XP YP l.row.toRowW d [] (fun f vs => PySem.call f vs) := by
  intro w s₀ s₁ mg mb G Y fa o pm cd doc dV kV ho hd hcd hD hmg hg args vals as hpre hlay hrd hwl hlo
  obtain rfl : dV = .none := Dflts.none hD hdf
  obtain rfl : kV = .none := Dflts.noKw hD
  obtain ⟨a, vs, ns, rfl, rfl, hobj, hints, hlen⟩ := script_of hn hpre hwl
  refine enter_call (codeAny_mono (call w s₀ s₁ mg mb fa o pm cd doc a vs ns G Y ho (fd_plain hd) hcd hmg hobj hints hlen hg) fun r s' hq => ?_)
  obtain ⟨rfl, h2, h3, h4⟩ := hq
  exact ⟨.inl ⟨.bool true, .bool true, [], rfl, fun _ => rfl, .bool true, post_true l _, fun _ => ⟨List.Pairwise.nil, fun _ hm => (nomatch hm)⟩⟩, h2, h3, h4⟩
section
variable {prog : Program} {w : World} {A : Around} {E : Value → Shared → Prop} {s : Shared} {K : Frag}
end
end Att
namespace L2
open PySem PySem.Spec PyProof.Rows
theorem vals_ints : ∀ {vs : List Value} {ns : List Int}, IntsAre vs ns → Vals (ns.map V.int) vs
  | _, _, .nil => .nil
  | _, _, .cons n t h => .cons ⟨t, rfl⟩ (vals_ints h)
def Only (H : Hp) : Prop := ∀ b, H b = none ∨ ∃ o xs, H b = some (.frz o (.lst xs))
theorem law_call {P : Program} {w : World} {K : PySem.W.Frag} {mg mb : Str → Option Value} {CX : CXT} {k : Nat} {fa a : Addr} {fd : FuncData} {x : Str} {sp : Sp} {s₁ : Shared} {vs : List Value} {ns : List Int}
    (KX : K.In s₁.heap) (hns : s₁.heap.Ns mainGlobals mg) (hb : s₁.heap.Ns builtinsNs mb) (hbb : ∀ x : Str, x ≠ "__name__" → mb x = bootBuiltins x) (hlim : s₁.heap.NoLimit) (hg : s₁.gens = #[])
    (ha : s₁.heap.get? a = some { cls := .type "list", data := .seq vs.toArray }) (hi : IntsAre vs ns) (hl : ns.length ≤ sizeLine) (hr : Room k callerA)
    (F : ∀ base : Heap, K.In base → base.Ns mainGlobals mg → FnOk P w K mg base CX k fa fd [x] sp) (hbind : ∀ (s : Shared) (u : Value), BindsTo s fd ⟨[u], []⟩ [(x, u)])
    (hsp : ∀ H : Hp, Only H → SqL K H a (ns.map V.int) → sp [.ref a] H (fun v _ => v = .bl true) fun _ _ _ => False)
    (hCX : ∀ H e s', CX [] H s₁ (fun _ _ _ => False) e s' → False) :
    codeAny (model P w) callerA (.call (.ref fa) ⟨[.ref a], []⟩) (fun r s' => r = .ok (.ret (.bool true)) ∧ OldK s₁.heap s'.heap ∧ s'.os = s₁.os ∧ AllBare s'.gens) s₁ := by
  have rv := vals_ints hi
  have lenV := hi.length
  have core : ∀ H : Hp, Only H → SqL K H a (ns.map V.int) → HOk P w H s₁.heap → (∀ b, H b ≠ none → b = a) → (H a ≠ none → K.lookup a = none) →
      codeAny (model P w) callerA (.call (.ref fa) ⟨[.ref a], []⟩) (fun r s' => r = .ok (.ret (.bool true)) ∧ OldK s₁.heap s'.heap ∧ s'.os = s₁.os ∧ AllBare s'.gens) s₁ := by
    intro H hO hS hok hA hK
    have base_of : ∀ {b : Addr} {o : Obj}, s₁.heap.get? b = some o → H b = none → (hidT s₁.heap H).get? b = some o := fun e n => hidT_get e n
    have noA : ∀ {b : Addr} {o : Obj} {es : Array DictEntry} {ep : Nat}, s₁.heap.get? b = some o → o.data = .dict es ep → H b = none := fun {b o es ep} e d => by
      cases q : H b with
      | none => rfl
      | some u =>
        have e' : b = a := hA b (by rw [q]; simp)
        subst e'
        rw [ha] at e; cases e
        have d' : Data.seq vs.toArray _ = Data.dict es ep := d
        cases d'
    have nsK : ∀ {b : Addr} {m : Str → Option Value}, s₁.heap.Ns b m → (hidT s₁.heap H).Ns b m := fun {b m} ⟨o, es, ep, e, d, r⟩ => ⟨o, es, ep, base_of e (noA e d), d, r⟩
    have hKb : K.In (hidT s₁.heap H) := fun b o e => base_of (KX b o e) (by
      cases q : H b with
      | none => rfl
      | some u =>
        have e' : b = a := hA b (by rw [q]; simp)
        subst e'
        rw [hK (by rw [q]; simp)] at e; cases e)
    have hM : Mod K mg (hidT s₁.heap H) := ⟨hKb, nsK hns, ⟨mb, nsK hb, hbb⟩, let ⟨mc, h1, h2⟩ := hlim; ⟨mc, nsK h1, h2⟩⟩
    have e0 : Env0 P w K mg (hidT s₁.heap H) callerA [] s₁ H := ⟨rfl, hM, fun b o e => of_hidT e, Nat.le_of_eq (hidT_size _ _), trivial, fun b hb => absurd (show b ∈ ([] : List Addr) from hb) (by simp), hok, .of_eq hg⟩
    refine codeAny_mono ((F _ hKb (nsK hns)).run callerA [] s₁ H ⟨[.ref a], []⟩ [.ref a] [.ref a] _ _ hr e0 (hbind s₁ (.ref a)) (.cons rfl .nil) (hsp H hO hS)) fun r s' h => ?_
    cases r with
    | error e => exact (hCX H e s' h).elim
    | ok fl =>
      cases fl with
      | next => exact False.elim h
      | brk => exact False.elim h
      | cont => exact False.elim h
      | ret u =>
        obtain ⟨v, H', os, bare, un, hok', r', q⟩ := h
        have q' : v = .bl true := q
        subst q'
        obtain rfl : u = Value.bool true := r'
        refine ⟨rfl, OldK.of_keep fun b o e => ?_, os, bare⟩
        cases q : H b with
        | none => exact un.keep b o e q (by intro z; exact absurd (show b ∈ ([] : List Addr) from z) (by simp)) (by simp)
        | some u =>
          rcases hO b with z | ⟨ob, xs, z⟩
          · rw [q] at z; cases z
          · have z2 := un.frzs b ob _ z
            obtain ⟨e1, _⟩ := hok b _ z
            obtain ⟨e2, _⟩ := hok' b _ z2
            rw [e] at e1; cases e1
            exact e2
  cases hk : K.lookup a with
  | some o =>
    have e := KX a o hk
    rw [ha] at e
    cases e
    refine core (fun _ => none) (fun _ => .inl rfl) (.inr ⟨_, vs.toArray, _, hk, rfl, rfl, rfl, by rw [List.size_toArray, lenV]; exact hl, by simpa using rv⟩) (fun b u z => by have z' : (none : Option HO) = some u := z; cases z') (fun b z => absurd rfl z) fun z => absurd rfl z
  | none =>
    refine core (fun b => if b = a then some (.frz { cls := .type "list", data := .seq vs.toArray } (.lst (ns.map V.int))) else none) (fun b => ?_) (.inl (.inr ⟨{ cls := .type "list", data := .seq vs.toArray }, if_pos rfl⟩)) (fun b u z => ?_) (fun b z => ?_) fun _ => hk
    · by_cases hb : b = a
      · exact .inr ⟨_, _, if_pos hb⟩
      · exact .inl (if_neg hb)
    · by_cases hb : b = a
      · have z' := (if_pos hb).symm.trans z
        cases z'
        subst hb
        exact ⟨ha, by rw [List.length_map]; exact hl, vs, _, rv, ha⟩
      · have z' := (if_neg hb).symm.trans z
        cases z'
    · by_cases hb : b = a
      · exact hb
      · exact absurd (if_neg hb) z
end L2
namespace L2
open PySem PySem.Spec PyProof.Rows
theorem walk_of {l : PySem.W.OpenLaw} {n k : Nat} {q : Program} {loose : List Str} {XP : (Str → Option Value) → Heap → Prop} {YP : World → Heap → Prop} {d : DefRec} {K : Params → PySem.W.Frag} {CX : World → CXT} {sp : World → Sp} {x : Str}
    (hn : l.most = some n) (hn2 : n ≤ sizeLine) (hdf : d.params.defaults = []) (hr : Room k callerA)
    (hY : ∀ (w : World) (h : Heap), YP w h → (K w.params).In h)
    (F : ∀ (w : World) (mg : Str → Option Value) (fa : Addr) (h : Heap), (K w.params).In h → h.Ns mainGlobals mg → mg d.name = some (.ref fa) →
      ∃ fd : FuncData, (∀ (s : Shared) (u : Value), BindsTo s fd ⟨[u], []⟩ [(x, u)]) ∧
        ∀ base : Heap, (K w.params).In base → base.Ns mainGlobals mg → FnOk l.prog w (K w.params) mg base (CX w) k fa fd [x] (sp w))
    (hsp : ∀ (w : World) (H : Hp) (a : Addr) (ns : List Int), ns.length ≤ n → Only H → SqL (K w.params) H a (ns.map V.int) → sp w [.ref a] H (fun v _ => v = .bl true) fun _ _ _ => False)
    (hCX : ∀ (w : World) (H : Hp) (s : Shared) (e : Value) (s' : Shared), CX w [] H s (fun _ _ _ => False) e s' → False) :
    PySem.W.WalkO q loose XP YP l.row.toRowW d [] (fun f vs => PySem.call f vs) := by
  refine Att.attach_call hn hdf fun w s₀ s₁ mg mb fa o pm cd doc a vs ns G Y ho hd hcd hmg hobj hints hlen hg => ?_
  have KX := hY w _ Y
  obtain ⟨fd, hb, hF⟩ := F w mg fa _ KX G.T.g hmg
  exact law_call KX G.T.g G.T.b G.T.builtins G.T.nolimit hg hobj hints (Nat.le_trans hlen hn2) hr hF hb (fun H hO hS => hsp w H a ns hlen hO hS) fun H e s' => hCX w H s₁ e s'
end L2
namespace L2
open PySem PySem.Spec PyProof.Rows
def inClass (s : Stmt) (j : Nat) : Stmt := match s with
  | .ClassDef _ _ _ body _ _ _ _ _ _ _ => body.getD j (.Pass ⟨0, 0, 0, 0⟩)
  | _ => .Pass ⟨0, 0, 0, 0⟩
def defArgs (s : Stmt) : Arguments := match s with
  | .FunctionDef _ a _ _ _ _ _ _ _ _ => a
  | _ => { posonlyargs := [], args := [], vararg := none, kwonlyargs := [], kw_defaults := [], kwarg := none, defaults := [] }
def defBody (s : Stmt) : List Stmt := match s with
  | .FunctionDef _ _ b _ _ _ _ _ _ _ => b
  | _ => []
def defScope (s : Stmt) : Scope := match s with
  | .FunctionDef _ _ _ _ _ _ sc _ _ _ => sc
  | _ => { kind := .function, names := [], isGenerator := false, isCoroutine := false }
abbrev CX0 : CXT := fun _ _ _ _ _ _ => False
abbrev E0 : XK := fun _ _ _ => False
theorem pass0 {X : Cx} : Passes CX0 X E0 := fun _ _ _ _ _ _ _ h => h.elim
structure Fun (K : PySem.W.Frag) (x qual : Str) (st : Stmt) (f : Addr) (fd : FuncData) : Prop where
  ex : ∃ (oc : Value) (od : Option Addr) (kV doc pm : Value) (an : Option Addr) (cdv ct : Value) (osl : Array (Option Value)),
    fd = PySem.W.fnOf x qual (defArgs st) (defBody st) (defScope st) .none kV doc pm an cdv ct ∧ K.lookup f = some ⟨oc, od, .func fd, osl⟩ ∧ PySem.W.codeIn K cdv qual = true
  kp : PySem.W.keepIn K (.ref f) = true
section
variable {P : Program} {w : World} {K : PySem.W.Frag} {mg : Str → Option Value} {base : Heap}
theorem Fun.ok {x qual : Str} {st : Stmt} {f : Addr} {fd : FuncData} {N ps : List Str} {k : Nat} {sp : Sp} (F : Fun K x qual st f fd) (S : FnScope N ps (defScope st)) (len : ∀ vs H Q E, sp vs H Q E → vs.length = ps.length)
    (hbody : ∀ (cdv : Value) (A : Around) (outer : List Env) (s : Shared) (H : Hp) (vs : List V) (Q : VK) (E : XK), Room k (A.deeper (envOfC qual (defScope st) s.heap.objs.size f cdv)) → sp vs H Q E →
      ∃ t, PSs (cxOf CX0 P w K mg base N qual (defScope st) f cdv A outer s H E).nox (defBody st) t ∧ t { nx := fun _ H' => Q .non H', rt := Q } (start N vs) H) : FnOk P w K mg base CX0 (k + 1) f fd ps sp := by
  obtain ⟨oc, od, kV, doc, pm, an, cdv, ct, osl, rfl, lk, hcd⟩ := F.ex
  refine fn_of lk hcd S len fun A outer s H vs Q E hr hsp => ?_
  obtain ⟨t, h, q⟩ := hbody cdv A outer s H vs Q E hr hsp
  exact ⟨t, h.nox, q⟩
theorem Fun.binds {x qual : Str} {st : Stmt} {f : Addr} {fd : FuncData} {ps : List Str} (F : Fun K x qual st f fd)
    (h : ∀ (kV doc pm : Value) (an : Option Addr) (cdv ct : Value) (us : List Value), us.length = ps.length → bindArgs (PySem.W.fnOf x qual (defArgs st) (defBody st) (defScope st) .none kV doc pm an cdv ct) ⟨us, []⟩ = pure (ps.zip us)) : Binds K fd ps [] := by
  obtain ⟨oc, od, kV, doc, pm, an, cdv, ct, osl, rfl, lk, hcd⟩ := F.ex
  exact .all (h kV doc pm an cdv ct)
theorem fun_mk {x qual : Str} {st : Stmt} {f : Addr} {oc : Value} {od an : Option Addr} {osl : Array (Option Value)} {kV doc pm cdv ct : Value} (l : K.lookup f = some ⟨oc, od, .func (PySem.W.fnOf x qual (defArgs st) (defBody st) (defScope st) .none kV doc pm an cdv ct), osl⟩)
    (c : PySem.W.codeIn K cdv qual = true) (k : PySem.W.keepIn K (.ref f) = true) : Fun K x qual st f (PySem.W.fnOf x qual (defArgs st) (defBody st) (defScope st) .none kV doc pm an cdv ct) := ⟨⟨oc, od, kV, doc, pm, an, cdv, ct, osl, rfl, l, c⟩, k⟩
end
theorem hu_of {A : Around} {k : Nat} (hr : Room k A) : A.units + 1 < cLine := Nat.lt_of_le_of_lt (Nat.add_le_add_left (by decide : 1 ≤ 64) _) hr.units
theorem small1000 {n : Nat} (h : n ≤ 1000) : n < sizeLine := Nat.lt_of_le_of_lt h (by decide)
section
variable {X : Cx}
theorem pv (i : Nat) {x : Str} {pos : Pos} (hN : X.N[i]? = some x := by rfl) (hv : Vis X.env.scope x := by first | exact Or.inl rfl | exact Or.inr (Or.inl rfl) | exact Or.inr (Or.inr rfl)) (hd : (x == ("__debug__" : Str)) = false := by decide)
    (hcd : (x == ("__classdict__" : Str)) = false := by decide) : PE X (.Name x pos) (tVar i) := pe_var hN hv hd hcd
end
def Same (H H' : Hp) : Prop := ∀ b o, H b = some o → H' b = some o
theorem Same.refl (H : Hp) : Same H H := fun _ _ h => h
theorem Same.trans {H H1 H2 : Hp} (a : Same H H1) (b : Same H1 H2) : Same H H2 := fun c o h => b c o (a c o h)
theorem Same.free {H H' : Hp} (e : Same H H') {l : Addr} (h : H' l = Option.none) : H l = Option.none := by
  cases q : H l with
  | none => rfl
  | some o =>
    rw [e l o q] at h
    cases h
theorem Same.seq {K : PySem.W.Frag} {H H' : Hp} {a : Addr} {xs : List V} (e : Same H H') (h : SqL K H a xs) : SqL K H' a xs := by
  rcases h with (h | ⟨o, h⟩) | h
  · exact .inl (.inl (e _ _ h))
  · exact .inl (.inr ⟨o, e _ _ h⟩)
  · exact .inr h
end L2
namespace L2
open PySem PySem.Spec PyProof.Rows
def AllIn : List (Str × Addr) → List (Str × Addr) → Prop
  | [], _ => True
  | (x, c) :: r, cells => cells.lookup x = some c ∧ AllIn r cells
theorem AllIn.look {cells : List (Str × Addr)} : ∀ {cl : List (Str × Addr)}, AllIn cl cells → ∀ {x : Str} {c : Addr}, cl.lookup x = some c → cells.lookup x = some c
  | [], _, x, c, e => by simp at e
  | (y, d) :: r, h, x, c, e => by
    rw [List.lookup_cons] at e
    cases q : x == y with
    | true =>
      rw [q] at e
      have z : d = c := Option.some.inj e
      have z2 : x = y := beq_iff_eq.mp q
      subst z z2
      exact h.1
    | false =>
      rw [q] at e
      exact AllIn.look h.2 e
def closFrom (cells : List (Str × Addr)) : List (Str × NameKind) → List (Str × Addr) → List (Str × Addr)
  | [], cs => cs
  | (n, k) :: r, cs => closFrom cells r (match k with
    | .free => match cells.lookup n with
      | some c => (n, c) :: cs
      | Option.none => cs
    | _ => cs)
abbrev closOf (scope : Scope) (env : Env) : List (Str × Addr) := closFrom env.cells scope.names []
theorem closFrom_in (cells : List (Str × Addr)) : ∀ (names : List (Str × NameKind)) (cs : List (Str × Addr)), AllIn cs cells → AllIn (closFrom cells names cs) cells
  | [], _, h => h
  | (n, k) :: r, cs, h => by
    unfold closFrom
    refine closFrom_in cells r _ ?_
    cases k with
    | free =>
      cases q : cells.lookup n with
      | none => exact h
      | some c => exact ⟨q, h⟩
    | _ => exact h
theorem closOf_in (scope : Scope) (env : Env) : AllIn (closOf scope env) env.cells := closFrom_in _ _ _ trivial
def CapOk (X : Cx) (sc : Scope) (cl : List (Str × Addr)) : List Str → List (Option Nat) → Prop
  | [], [] => True
  | _ :: N, Option.none :: r => CapOk X sc cl N r
  | x :: N, some j :: r => X.N[j]? = some x ∧ (X.env.kindOf x = some .cell ∨ X.env.kindOf x = some .free) ∧ (sc.names.lookup x = some .cell ∨ sc.names.lookup x = some .free) ∧ (∃ c, cl.lookup x = some c) ∧ CapOk X sc cl N r
  | _, _ => False
def capSt (σ : St) (cap : List (Option Nat)) : St := cap.map fun o => match o with
  | Option.none => Option.none
  | some j => match σ[j]? with
    | some v => v
    | Option.none => Option.none
theorem CapOk.nil {X : Cx} {sc : Scope} {cl : List (Str × Addr)} : CapOk X sc cl [] [] := trivial
theorem CapOk.own {X : Cx} {sc : Scope} {cl : List (Str × Addr)} {x : Str} {N : List Str} {r : List (Option Nat)} (h : CapOk X sc cl N r) : CapOk X sc cl (x :: N) (Option.none :: r) := h
theorem CapOk.take {X : Cx} {sc : Scope} {cl : List (Str × Addr)} {x : Str} {N : List Str} {j : Nat} {r : List (Option Nat)} (h1 : X.N[j]? = some x) (h2 : X.env.kindOf x = some .cell ∨ X.env.kindOf x = some .free)
    (h3 : sc.names.lookup x = some .cell ∨ sc.names.lookup x = some .free) (h4 : (cl.lookup x).isSome = true) (h : CapOk X sc cl N r) : CapOk X sc cl (x :: N) (some j :: r) := ⟨h1, h2, h3, Option.isSome_iff_exists.mp h4, h⟩
theorem CapOk.len {X : Cx} {sc : Scope} {cl : List (Str × Addr)} : ∀ {N : List Str} {cap : List (Option Nat)}, CapOk X sc cl N cap → cap.length = N.length
  | [], [], _ => rfl
  | _ :: N, Option.none :: r, h => congrArg (· + 1) (CapOk.len (N := N) (cap := r) h)
  | _ :: N, some _ :: r, h => congrArg (· + 1) (CapOk.len (N := N) (cap := r) h.2.2.2.2)
  | [], _ :: _, h => h.elim
  | _ :: _, [], h => h.elim
theorem CapOk.get {X : Cx} {sc : Scope} {cl : List (Str × Addr)} {σ : St} : ∀ {N : List Str} {cap : List (Option Nat)} {i : Nat} {x : Str} {v : V}, CapOk X sc cl N cap → N[i]? = some x → (capSt σ cap)[i]? = some (some v) →
    ∃ j : Nat, X.N[j]? = some x ∧ σ[j]? = some (some v) ∧ (X.env.kindOf x = some .cell ∨ X.env.kindOf x = some .free) ∧ (sc.names.lookup x = some .cell ∨ sc.names.lookup x = some .free) ∧ ∃ c, cl.lookup x = some c
  | [], [], i, x, v, _, e, _ => by simp at e
  | y :: N, Option.none :: r, 0, x, v, h, e1, e2 => by
    have z : (some (Option.none : Option V)) = some (some v) := e2
    cases z
  | y :: N, Option.none :: r, i + 1, x, v, h, e1, e2 => CapOk.get (N := N) (cap := r) (i := i) h (by simpa using e1) (by simpa [capSt] using e2)
  | y :: N, some j :: r, 0, x, v, h, e1, e2 => by
    have z : y = x := by simpa using e1
    subst z
    obtain ⟨h1, h2, h3, h4, _⟩ := h
    refine ⟨j, h1, ?_, h2, h3, h4⟩
    have z2 : some (match σ[j]? with | some v => v | Option.none => Option.none) = some (some v) := e2
    cases q : σ[j]? with
    | none => rw [q] at z2; cases z2
    | some o => rw [q] at z2; exact z2
  | y :: N, some j :: r, i + 1, x, v, h, e1, e2 => CapOk.get (N := N) (cap := r) (i := i) h.2.2.2.2 (by simpa using e1) (by simpa [capSt] using e2)
  | [], _ :: _, _, _, _, h, _, _ => h.elim
  | _ :: _, [], _, _, _, h, _, _ => h.elim
def cxC (X : Cx) (N' : List Str) (scope : Scope) (s : Shared) (H : Hp) (fp : List Addr) (xe : Value → Shared → Prop) : Cx :=
  { X with N := N', s₀ := s, H₀ := H, env := compEnvC scope (closOf scope X.env) s.heap.objs.size X.env, outer := X.stack, ex := fp, fn := fun _ => false, pn := [], xe := xe }
def PTs (X : Cx) (ifs : List Expr) (t : TT) : Prop :=
  ∀ (pins : List (Addr × Obj)) (s : Shared) (σ : St) (H : Hp) (Q : Bool → Hp → Prop), Inv X pins σ H s → t σ H Q →
    wpAny (model X.prog X.w) X.A (forIn ifs true fun c r => if r = true then do let ok ← isTrue c X.env (eval c X.env); pure (ForInStep.yield ok) else pure (ForInStep.yield r)) (TP X pins σ Q) X.xe s
def tNoIf : TT := fun _ H Q => Q true H
theorem pts_nil {X : Cx} : PTs X [] tNoIf := fun _ _ _ H _ I h => wpAny_tests_nil ⟨H, I, h⟩
theorem pts_one {X : Cx} {c : Expr} {t : TT} (h : PT X c t) : PTs X [c] t := fun pins s σ H Q I hw => wpAny_tests_one (h pins s σ H Q I hw)
def tComp (cap : List (Option Nat)) (wi : TI) (g : TG) (tt : TT) (te : TE) : TE := fun σ H Q => wi σ H fun J H1 => ∀ D, H1 D = Option.none →
  ∃ W : Nat → Nat → List V → St → Hp → Prop, (∃ m, W 0 m [] (capSt σ cap) (upd H1 D (.lst []))) ∧ ∀ i m acc σ1 H2, W i m acc σ1 H2 → H2 D = some (.lst acc) →
    (J.stop i H2 ∧ Q (.ref D) H2) ∨ (J.go i H2 ∧ ∀ x H3, J.yld i H2 x H3 → g x σ1 H3 fun σ4 H4 => tt σ4 H4 fun b H5 =>
      if b = true then te σ4 H5 fun v H6 => ∃ acc', H6 D = some (.lst acc') ∧ acc'.length < sizeLine ∧ ∃ m', m' < m ∧ W (i + 1) m' (acc' ++ [v]) σ4 (upd H6 D (.lst (acc' ++ [v])))
      else ∃ m', m' < m ∧ ∃ acc', H5 D = some (.lst acc') ∧ W (i + 1) m' acc' σ4 H5)
section
variable {X : Cx} {elt tg iter : Expr} {ifs : List Expr} {scope : Scope} {pos : Pos} {cap : List (Option Nat)} {N' : List Str} {wi : TI} {g : TG} {tt : TT} {te : TE}
structure CompOk (X : Cx) (iter : Expr) (scope : Scope) (N' : List Str) (cap : List (Option Nat)) : Prop where
  clos : closureFor scope X.env = pure (closOf scope X.env)
  cap : CapOk X (relabel scope X.env) (closOf scope X.env) N' cap
  kind : scope.kind = .function
  nocell : ∀ y ∈ scope.names, y.2 ≠ .cell
  names : ∀ y ∈ scope.names, y.2 = .local → scope.names.lookup y.1 = some .local
  has : (scope.names.all fun y => y.2 != .free || ((closOf scope X.env).lookup y.1).isSome) = true
  fold : ∀ x, foldedSetIterable iter X.env x = pure x
theorem has_map {f : Str × NameKind → Str × NameKind} (h1 : ∀ y, (f y).1 = y.1) (h2 : ∀ y, y.2 ≠ NameKind.cell → ((f y).2 = NameKind.cell ∨ (f y).2 = NameKind.free) → y.2 = NameKind.free) {cl : List (Str × Addr)} :
    ∀ {names : List (Str × NameKind)} {x : Str}, (∀ y ∈ names, y.2 ≠ NameKind.cell) → (names.all fun y => y.2 != NameKind.free || (cl.lookup y.1).isSome) = true → ((names.map f).lookup x = some NameKind.cell ∨ (names.map f).lookup x = some NameKind.free) → ∃ c, cl.lookup x = some c
  | [], x, _, _, h => by rcases h with h | h <;> simp at h
  | y :: r, x, hc, ha, h => by
    rw [List.all_cons, Bool.and_eq_true] at ha
    rw [List.map_cons] at h
    have e0 : f y = (y.1, (f y).2) := by rw [← h1 y]
    rw [e0, List.lookup_cons] at h
    cases q : x == y.1 with
    | true =>
      rw [q] at h
      have e : x = y.1 := beq_iff_eq.mp q
      have hf : y.2 = NameKind.free := h2 y (hc y List.mem_cons_self) (by
        rcases h with h | h
        · exact .inl (Option.some.inj h)
        · exact .inr (Option.some.inj h))
      have h3 : (cl.lookup y.1).isSome = true := by
        have := ha.1
        rw [hf] at this
        simpa using this
      rw [e]
      exact Option.isSome_iff_exists.mp h3
    | false =>
      rw [q] at h
      exact has_map h1 h2 (fun z hz => hc z (List.mem_cons_of_mem _ hz)) ha.2 h
theorem has_of {env : Env} {scope : Scope} {cl : List (Str × Addr)} {x : Str} (hc : ∀ y ∈ scope.names, y.2 ≠ NameKind.cell) (ha : (scope.names.all fun y => y.2 != NameKind.free || (cl.lookup y.1).isSome) = true)
    (h : (relabel scope env).names.lookup x = some NameKind.cell ∨ (relabel scope env).names.lookup x = some NameKind.free) : ∃ c, cl.lookup x = some c := by
  refine has_map (f := fun (n, k) => if (k == NameKind.free && env.scope.kind == .function && env.kindOf n == some .cell) then (n, NameKind.cell) else (n, k)) (fun y => ?_) (fun y hy hk => ?_) hc ha h
  · obtain ⟨n, k⟩ := y
    dsimp only
    split <;> rfl
  · obtain ⟨n, k⟩ := y
    dsimp only at hk ⊢ hy
    by_cases hb : (k == NameKind.free && env.scope.kind == .function && env.kindOf n == some .cell) = true
    · simp only [Bool.and_eq_true] at hb
      exact beq_iff_eq.mp hb.1.1
    · rw [if_neg hb] at hk
      rcases hk with hk | hk
      · exact absurd hk hy
      · exact hk
theorem compLoop_any {P : Program} {w : World} {A : Around} {R : Result → Shared → Prop} {s : Shared} {it acc : Value} {env : Env} (I : Nat → Shared → Prop)
    (turn : ∀ n s, I n s → wpAny (model P w) A (pyNext it) (fun r s₁ => match r with
      | none => R (.ok .next) s₁
      | some v => wpAny (model P w) A (letOwnedTupleGo tg it v) (fun _ s₁' => wpAny (model P w) A (assign tg env v) (fun _ s₂ =>
          wpAny (model P w) A (forIn ifs true fun c r => if r = true then do let ok ← isTrue c env (eval c env); pure (ForInStep.yield ok) else pure (ForInStep.yield r)) (fun ok s₃ =>
            if ok = true then wpAny (model P w) A (eval elt env) (fun x s₄ =>
              wpAny (model P w) A (call (.builtin "list.append") [acc, x]) (fun _ s₅ => ∃ m, m < n ∧ I m s₅) (notedBy (model P w) A env fun e s' => R (.error e) s') s₄) (notedBy (model P w) A env fun e s' => R (.error e) s') s₃
            else ∃ m, m < n ∧ I m s₃) (notedBy (model P w) A env fun e s' => R (.error e) s') s₂) (notedBy (model P w) A env fun e s' => R (.error e) s') s₁') (notedBy (model P w) A env fun e s' => R (.error e) s') s₁)
        (notedBy (model P w) A env fun e s' => R (.error e) s') s)
    (n : Nat) (h : I n s) :
    codeAny (model P w) A (.compLoop (.ListComp elt [⟨tg, iter, ifs, 0⟩] scope pos) 0 it acc env) R s := by
  refine codeAny_loop rfl I (fun n s hI => ?_) n h
  show wpAny _ A ((compTurn (.ListComp elt [⟨tg, iter, ifs, 0⟩] scope pos) 0 it acc env).onRaise (fun x => do noteFrame x env; theTreesLotGoes x)) _ _ s
  refine wpAny_noted ?_
  rw [compTurn_list]
  refine wpAny_bind (wpAny_standAt (wpAny_bind (wpAny_mono (turn n s hI) (fun r s₁ h₁ => ?_) fun _ _ h' => h')))
  cases r with
  | none => exact wpAny_pure h₁
  | some v =>
    refine wpAny_bind (wpAny_mono h₁ (fun _ s₁' h₁ => ?_) fun _ _ h' => h')
    refine wpAny_bind (wpAny_mono h₁ (fun _ s₂ h₂ => wpAny_bind (wpAny_mono h₂ (fun ok s₃ h₃ => ?_) fun _ _ h' => h')) fun _ _ h' => h')
    cases ok with
    | false => exact wpAny_pure ⟨rfl, h₃⟩
    | true =>
      exact wpAny_bind (wpAny_bind (wpAny_mono h₃ (fun x s₄ h₄ => wpAny_bind (wpAny_mono h₄ (fun _ s₅ h₅ => wpAny_pure (wpAny_pure ⟨rfl, h₅⟩)) fun _ _ h' => h')) fun _ _ h' => h'))
theorem comp_core {pins : List (Addr × Obj)} {σ : St} {H2 : Hp} {s2 : Shared} {Q : VK} {it : Addr} {fp : List Addr} {tn : Nat → Heap → Prop} {J : It} {R : Value → Addr → Result → Shared → Prop} {E : Value → Shared → Prop}
    (hc : X.calm = true) (C : CompOk X iter scope N' cap)
    (hg : ∀ s H fp xe, PG (cxC X N' scope s H fp xe) tg g) (ht : ∀ s H fp xe, PTs (cxC X N' scope s H fp xe) ifs tt) (he : ∀ s H fp xe, PE (cxC X N' scope s H fp xe) elt te)
    (I2 : Inv X pins σ H2 s2) (T : Turn X.prog X.w X.K tg J fp it tn) (st2 : tn 0 s2.heap) (f2 : ∀ b ∈ fp, FpOk X pins H2 b)
    (hR : ∀ D Cl H' s', Inv X pins σ H' s' → (∃ m, s'.heap.Ns Cl m) → H' Cl = Option.none → Cl ≠ X.env.locals → X.s₀.heap.objs.size ≤ Cl → (∀ x c, X.env.cells.lookup x = some c → c ≠ Cl) → (∀ p ∈ X.pn ++ pins, p.1 ≠ Cl) → Q (.ref D) H' → R (.ref D) Cl (.ok .next) s')
    (hw : ∀ D, H2 D = Option.none → ∃ W : Nat → Nat → List V → St → Hp → Prop, (∃ m, W 0 m [] (capSt σ cap) (upd H2 D (.lst []))) ∧ ∀ i m acc σ1 H2, W i m acc σ1 H2 → H2 D = some (.lst acc) →
      (J.stop i H2 ∧ Q (.ref D) H2) ∨ (J.go i H2 ∧ ∀ x H3, J.yld i H2 x H3 → g x σ1 H3 fun σ4 H4 => tt σ4 H4 fun b H5 =>
        if b = true then te σ4 H5 fun v H6 => ∃ acc', H6 D = some (.lst acc') ∧ acc'.length < sizeLine ∧ ∃ m', m' < m ∧ W (i + 1) m' (acc' ++ [v]) σ4 (upd H6 D (.lst (acc' ++ [v])))
        else ∃ m', m' < m ∧ ∃ acc', H5 D = some (.lst acc') ∧ W (i + 1) m' acc' σ4 H5)) :
    wpAny (model X.prog X.w) X.A (newList []) (fun acc s₃ => wpAny (model X.prog X.w) X.A (newFunctionEnv scope X.env.globals (closOf scope X.env) [] X.env.qual none .none (some X.env)) (fun cenv s₄ =>
      codeAny (model X.prog X.w) X.A (.compStart (.ListComp elt [⟨tg, iter, ifs, 0⟩] scope pos) 0 (.ref it) acc { cenv with scope := relabel scope X.env }) (R acc cenv.locals) s₄) E s₃) E s2 := by
  refine wpAny_newObj_type (wpAny_newFunctionEnv C.nocell (by intro y hy; simp at hy) (fun h₁ hns₁ hsb₁ => ?_) C.kind)
  obtain ⟨W, ⟨m0, w0⟩, turn⟩ := hw s2.heap.objs.size I2.fresh
  have I3 : Inv X pins σ (upd H2 s2.heap.objs.size (.lst [])) { s2 with heap := s2.heap.push { cls := .type "list", data := .seq ([] : List Value).toArray } } := I2.lnew (t' := s2.toks) .nil (Nat.zero_le _)
  generalize hs3 : ({ s2 with heap := s2.heap.push { cls := .type "list", data := .seq ([] : List Value).toArray } } : Shared) = s3 at I3 hns₁ hsb₁ ⊢
  generalize hD : s2.heap.objs.size = D at I3 w0 turn ⊢
  have hn0 : H2 D = Option.none := by rw [← hD]; exact I2.fresh
  have hs32 : s3.os = s2.os := by rw [← hs3]
  have un32 : Un (frs X.stack) fp H2 (upd H2 D (.lst [])) s2.heap s3.heap := by
    rw [← hs3, ← hD]
    exact Un.laid (fun b u q => Heap.get?_push_of_some _ q) (Nat.le_refl _) I2.fresh
  have keep4 : ∀ b o, s3.heap.get? b = some o → h₁.get? b = some o := fun b o e => (hsb₁.2 b (Nat.ne_of_lt (Heap.lt_size e))).trans (Heap.get?_push_of_some _ e)
  have keep2 : ∀ b o, s2.heap.get? b = some o → s3.heap.get? b = some o := fun b o e => by rw [← hs3]; exact Heap.get?_push_of_some _ e
  have hR' : ∀ (r : Result) (s' : Shared), R (.ref D) s3.heap.objs.size r s' → R (.ref D) s3.heap.objs.size r s' := fun _ _ h => h
  have f3 : ∀ b ∈ fp, FpOk X pins (upd H2 D (.lst [])) b := fun b hb => by
    obtain ⟨q0, q1⟩ := f2 b hb
    refine ⟨?_, q1⟩
    obtain ⟨o, e, _⟩ := T.obj _ _ st2 b hb
    rw [upd_ne (by rw [← hD]; exact Nat.ne_of_lt (Heap.lt_size e))]
    exact q0
  let XC : Cx := cxC X N' scope s3 (upd H2 D (.lst [])) fp (notedBy (model X.prog X.w) X.A (compEnvC scope (closOf scope X.env) s3.heap.objs.size X.env) fun e s' => R (.ref D) s3.heap.objs.size (.error e) s')
  have ok : XC.Ok := by
    refine ⟨I3.ok.mod, C.kind, I3.ok.glob, I3.ok.blt, Nat.le_refl _, fun x y c e1 e2 => I3.ok.inj x y c ((closOf_in scope X.env).look e1) ((closOf_in scope X.env).look e2), fun x hx => has_of C.nocell C.has hx, fun x c hf => (nomatch hf), fun _ => I3.ok.hd hc, I3.ok.frames, .inl rfl, fun b hb => ?_, I3.bs, Nat.le_trans I3.ok.bsz I3.sz, fun b o e hb => ?_, fun b hb hf => ?_, I3.stack, I3.stkFree⟩
    · obtain ⟨q0, q1, q2, q3, q4, q5⟩ := f3 b hb
      refine ⟨?_, fun x c e => q4 x c ((closOf_in scope X.env).look e)⟩
      obtain ⟨o, e, _⟩ := T.obj _ _ st2 b hb
      exact Nat.ne_of_lt (Heap.lt_size (keep2 _ _ e))
    · obtain ⟨q0, q1, q2, q3, q4, q5⟩ := f3 b hb
      rcases q3 with q3 | q3
      · exact I3.ok.noex b o e q3
      · exact absurd (Nat.lt_of_lt_of_le (Heap.lt_size e) (Nat.le_trans I3.ok.bsz q3)) (Nat.lt_irrefl _)
    · obtain ⟨q0, q1, q2, q3, q4, q5⟩ := f3 b hb
      rcases List.mem_cons.mp (I3.stkSub b hf) with z | z
      · exact q1 z
      · exact q2 z
  have I4 : Inv XC [] (capSt σ cap) (upd H2 D (.lst [])) { s3 with heap := h₁, toks := s3.toks + ([] : List (Str × Value)).length } := by
    refine ⟨ok, rfl, I3.bare, Un.kept keep4, ⟨_, hns₁, fun i x v e1 e2 e3 => ?_⟩, fun x c e => ?_, I3.hok.fresh (Nat.le_refl _), fun x c e => I3.freeC x c ((closOf_in scope X.env).look e), fun p hp => absurd (show p ∈ ([] : List (Addr × Obj)) from hp) (by simp), I3.hok.kept keep4, by rw [show (capSt σ cap).length = cap.length from by simp [capSt]]; exact C.cap.len⟩
    · obtain ⟨j, g1, g2, g3, g4, c, g5⟩ := C.cap.get e1 e2
      obtain ⟨m, _, hl⟩ := I3.loc
      obtain ⟨u, r, l⟩ := hl j x v g1 g2 (by
        rcases g3 with z | z
        · exact .inr (.inl z)
        · exact .inr (.inr z))
      refine ⟨u, r, .inr ⟨g4, c, g5, ?_⟩⟩
      rcases l with ⟨k, _⟩ | ⟨_, c', e, z⟩
      · rcases g3 with q | q
        · rw [k] at q; cases q
        · rw [k] at q; cases q
      · have e' := (closOf_in scope X.env).look g5
        rw [e] at e'; cases e'
        obtain ⟨o, ho, hd⟩ := z
        exact ⟨o, keep4 _ _ ho, hd⟩
    · obtain ⟨v, o, ho, hd⟩ := I3.cell x c ((closOf_in scope X.env).look e)
      exact ⟨v, o, keep4 _ _ ho, hd⟩
  have st4 : tn 0 h₁ := T.keep _ _ _ st2 fun b _ o e => keep4 b o (keep2 b o e)
  have fpc : ∀ {pins' : List (Addr × Obj)} {H' : Hp}, (∀ b ∈ fp, H' b = Option.none) → (∀ p ∈ pins', p.1 ∉ fp) → ∀ b ∈ fp, FpOk XC pins' H' b := fun {pins' H'} hn hp b hb => by
    obtain ⟨q1, q2⟩ := ok.exf b hb
    exact ⟨hn b hb, q1, ok.exfs b hb, .inl hb, q2, fun p hp' z => hp p (by simpa [XC, cxC] using hp') (by rw [z]; exact hb)⟩
  have hDf : D ∉ fp := fun hb => by
    obtain ⟨o, e, _⟩ := T.obj _ _ st2 D hb
    rw [← hD] at e
    exact absurd (Heap.lt_size e) (Nat.lt_irrefl _)
  have out : ∀ {σ' : St} {H' : Hp} {s' : Shared}, Inv XC [] σ' H' s' → Inv X pins σ H' s' := fun {σ' H' s'} J' =>
    I2.call' (ch := fp) (J'.os.trans hs32) (un32.trans J'.base) J'.hok J'.bare fun b hb => by
      obtain ⟨q0, q1, q2, q3, q4, q5⟩ := f2 b hb
      exact ⟨q3, q1, q4, q5⟩
  have loop : ∀ s₄ : Shared, s₄ = { s3 with heap := h₁, toks := s3.toks + ([] : List (Str × Value)).length } →
      codeAny (model X.prog X.w) X.A (.compLoop (.ListComp elt [⟨tg, iter, ifs, 0⟩] scope pos) 0 (.ref it) (.ref D) (compEnvC scope (closOf scope X.env) s3.heap.objs.size X.env)) (R (.ref D) s3.heap.objs.size) s₄ := by
    rintro s₄ rfl
    refine compLoop_any (fun n s' => ∃ i acc σ' H', Inv XC [] σ' H' s' ∧ tn i s'.heap ∧ (∀ b ∈ fp, H' b = Option.none) ∧ H' D = some (.lst acc) ∧ W i n acc σ' H') ?_ m0
      ⟨0, [], capSt σ cap, upd H2 D (.lst []), I4, st4, fun b hb => (f3 b hb).1, upd_same, w0⟩
    rintro n s5 ⟨i, acc, σ5, H5, I5, st5, fr5, hA, w5⟩
    rcases turn i n acc σ5 H5 w5 hA with ⟨stop, q⟩ | ⟨go, step⟩
    · refine thn (T.done XC rfl rfl rfl hc i [] s5 σ5 H5 _ I5 (fpc fr5 (by simp)) st5 stop) fun r s6 ⟨hr, I6⟩ => ?_
      subst hr
      obtain ⟨m, hn, _⟩ := I6.loc
      exact hR D s3.heap.objs.size H5 s6 (out I6) ⟨m, hn⟩ I6.free (Nat.ne_of_gt I3.lt) I3.sz (fun x c e z => by
        obtain ⟨v, o, ho, _⟩ := I3.cell x c e
        rw [z] at ho
        exact absurd (Heap.lt_size ho) (Nat.lt_irrefl _)) (fun p hp z => by
        have e := (I3.pin p hp).1
        rw [z] at e
        exact absurd (Heap.lt_size e) (Nat.lt_irrefl _)) q
    · refine thn (T.item XC rfl rfl rfl hc i [] s5 σ5 H5 _ I5 (fpc fr5 (by simp)) st5 go) fun r s6 ⟨u, hr, h6⟩ => ?_
      subst hr
      refine thn h6 fun _ s7 ⟨x, H7, I7, r7, y7, st7, fr7⟩ => ?_
      have I7' := I7.pinned (fpc fr7 (by simp)) (T.obj _ _ st7)
      have again : ∀ {σ8 : St} {H8 : Hp} {s8 : Shared}, Inv XC ([] ++ pinsAt fp s7.heap) σ8 H8 s8 → (∃ acc', H8 D = some (.lst acc') ∧ ∃ m', m' < n ∧ W (i + 1) m' acc' σ8 H8) →
          ∃ m, m < n ∧ ∃ i acc σ' H', Inv XC [] σ' H' s8 ∧ tn i s8.heap ∧ (∀ b ∈ fp, H' b = Option.none) ∧ H' D = some (.lst acc) ∧ W i m acc σ' H' := fun {σ8 H8 s8} I8 ⟨acc', hA', m', hm, w8⟩ => by
        refine ⟨m', hm, i + 1, acc', σ8, H8, I8.unpinned, T.keep _ _ _ st7 fun b hb o e => (I8.pin (b, o) (List.mem_append_right _ (List.mem_append_right _ (mem_pinsAt hb e)))).1, fun b hb => ?_, hA', w8⟩
        obtain ⟨o, e, d⟩ := T.obj _ _ st7 b hb
        exact (I8.pin (b, o) (List.mem_append_right _ (List.mem_append_right _ (mem_pinsAt hb e)))).2.1
      refine thn (hg s3 _ fp _ _ s7 σ5 H7 x u _ I7' r7 (step x H7 y7)) fun _ s8 ⟨σ8, H8, I8, q8⟩ => ?_
      refine thn (ht s3 _ fp _ _ s8 σ8 H8 _ I8 q8) fun b s9 ⟨H9, I9, q9⟩ => ?_
      cases b with
      | false =>
        rw [if_neg Bool.false_ne_true] at q9 ⊢
        obtain ⟨m', hm, acc', hA', w9⟩ := q9
        exact again I9 ⟨acc', hA', m', hm, w9⟩
      | true =>
        rw [if_pos rfl] at q9 ⊢
        refine thn (he s3 _ fp _ _ s9 σ8 H9 _ I9 q9) fun v s10 ⟨y, H10, I10, r10, acc', hA', hz, m', hm, w10⟩ => ?_
        refine thn (mt_append (X := XC) _ s10 σ8 H10 (.ref D) [y] (.ref D) [v] (fun _ Hz => Hz = upd H10 D (.lst (acc' ++ [y]))) I10 rfl (.cons r10 .nil) ⟨D, acc', y, rfl, rfl, hA', hz, rfl⟩) fun _ s11 ⟨_, H11, I11, _, e11⟩ => ?_
        subst e11
        exact again I11 ⟨acc' ++ [y], upd_same, m', hm, w10⟩
  exact codeAny_compStart_list (loop _ rfl) (T.self _ 0 _ _ _ st4 (loop _ rfl))
theorem pe_comp (hc : X.calm = true) (C : CompOk X iter scope N' cap) (hi : PI X tg iter wi)
    (hg : ∀ s H fp xe, PG (cxC X N' scope s H fp xe) tg g) (ht : ∀ s H fp xe, PTs (cxC X N' scope s H fp xe) ifs tt) (he : ∀ s H fp xe, PE (cxC X N' scope s H fp xe) elt te) :
    PE X (.ListComp elt [⟨tg, iter, ifs, 0⟩] scope pos) (tComp cap wi g tt te) := by
  intro pins s σ H Q I h
  rw [eval_ListComp]
  refine wpAny_comprehension_free (use := none) rfl C.fold C.clos C.kind C.names (thn (hi pins s σ H _ I h) fun v s1 h1 => thn h1 fun itv s2 h2 => ?_)
  obtain ⟨it, fp, tn, J, H2, e, I2, T, st2, f2, hw⟩ := h2
  subst e
  refine comp_core (R := fun acc Cl => compPost (model X.prog X.w) X.A X.xe none (EP X pins σ Q) acc Cl) hc C hg ht he I2 T st2 f2 ?_ hw
  intro D Cl H' s' I' ⟨m, hn⟩ hf h1 h2 h3 h4 q
  exact ⟨m, hn, fun h' hs' => ⟨.ref D, H', I'.turned (t' := s'.toks) (fun b o hb e => (hs'.2 b hb).trans e) hf h1 (.inr h2) h3 h4, rfl, q⟩⟩
theorem ps_setComp {i : Nat} {y : Str} {py spos : Pos} (hN : X.N.Nodup) (hi0 : X.N[i]? = some y) (hy : X.env.scope.names.lookup y = some .local)
    (hc : X.calm = true) (C : CompOk X iter scope N' cap) (hi : PI X tg iter wi)
    (hg : ∀ s H fp xe, PG (cxC X N' scope s H fp xe) tg g) (ht : ∀ s H fp xe, PTs (cxC X N' scope s H fp xe) ifs tt) (he : ∀ s H fp xe, PE (cxC X N' scope s H fp xe) elt te)
    (hsw : swapsWith (.ListComp elt [⟨tg, iter, ifs, 0⟩] scope pos) (some (.Name y py)) spos.line X.env = pure true := by rfl) :
    PS X (.Assign [.Name y py] (.ListComp elt [⟨tg, iter, ifs, 0⟩] scope pos) spos) (tAsg (tComp cap wi g tt te) (gName i)) := by
  intro pins s σ H D I h
  rw [exec_Assign_Name_used _ _ _ _ hsw]
  refine wpAny_bind (wpAny_standAt (wpAny_bind ?_))
  show wpAny _ X.A (do let _ ← comprehension (.ListComp elt [⟨tg, iter, ifs, 0⟩] scope pos) scope X.env _ (newList []) false (eval iter X.env) (some (assign (.Name y py) X.env))) _ _ s
  refine wpAny_bind (wpAny_mono (wpAny_comprehension_free (use := some (assign (.Name y py) X.env)) (Q := fun _ s' => SP X pins D .next s') rfl C.fold C.clos C.kind C.names (thn (hi pins s σ H _ I h) fun v s1 h1 => thn h1 fun itv s2 h2 => ?_))
    (fun _ s' hq => wpAny_pure (wpAny_pure hq)) fun _ _ e => e)
  obtain ⟨it, fp, tn, J, H2, e, I2, T, st2, f2, hw⟩ := h2
  subst e
  refine comp_core (Q := fun x H1 => gName i x σ H1 D.nx) (R := fun acc Cl => compPost (model X.prog X.w) X.A X.xe (some (assign (.Name y py) X.env)) (fun _ s' => SP X pins D .next s') acc Cl) hc C hg ht he I2 T st2 f2 ?_ hw
  intro Da Cl H' s' I' ⟨m, hn⟩ hf h1 h2 h3 h4 q
  show wpAny _ _ (assign (.Name y py) X.env (.ref Da)) _ _ s'
  refine wpAny_assign_Name (store_ok2 I' hN hi0 (.inl hy) (v := .ref Da) rfl (fun s'' I'' ⟨a, hsb, ha⟩ => ?_) (.inr hy))
  have hne : Cl ≠ a := by
    rcases ha with z | z
    · rw [z]; exact h1
    · exact Ne.symm (h3 y a z)
  exact ⟨m, hn.sameBut hsb hne, fun h' hs' => ⟨_, H', I''.turned (t' := s''.toks) (fun b o hb e => (hs'.2 b hb).trans e) hf h1 (.inr h2) h3 h4, q⟩⟩
end
end L2
namespace L2
open PySem PySem.Spec PyProof.Rows
section
variable {X : Cx} {a b c : Expr} {ta tb tc : TE} {pos : Pos}
def CMulB (i j : Int) : Prop := i.natAbs < 2 ^ 2000 ∧ j.natAbs < 2 ^ 2000
theorem CMulB.ok {i j : Int} (h : CMulB i j) : IntMulOk i j :=
  IntMulOk.of_bits (Nat.le_trans (intBits_le h.1) (by decide)) (Nat.le_trans (intBits_le h.2) (by decide))
def CDivB (_ j : Int) : Prop := 0 < j ∧ j.natAbs < 2 ^ 2000
theorem op_fdivB : OpR X (binaryOp .FloorDiv) (rI CDivB fun i j => .int (i / j)) := opI fun i j _ _ _ _ _ hc q => by
  have h1 : (0 : Int) < j := hc.1
  have h0 : j.natAbs ≠ 0 := by omega
  have h2 : j.natAbs.log2 < 2000 := (Nat.log2_lt h0).mpr hc.2
  exact floordiv_int (by omega) (by rw [Int.fdiv_eq_ediv_of_nonneg i (by omega)]; exact q) (.inl (PyProof.noPylong_of_log2 (by omega)))
theorem call_sumI (hc : X.calm = true) : CallR X (.builtin "sum") (fun xs H Q => ∃ (a : Addr) (ns : List Int), xs = [.ref a] ∧ SqL X.K H a (ns.map V.int) ∧ Q (.int ns.sum) H) := by
  intro pins s σ H xs us Q I r h
  obtain ⟨a, ns, rfl, hq, q⟩ := h
  obtain ⟨u, rfl, r1⟩ := vals1 r
  cases r1
  obtain ⟨its, rv, pl, hz⟩ := I.list hq
  have hi : IntsAre its ns := intsAre_of rv
  obtain ⟨xs, e⟩ := hi.allInts.items
  have hl := pl.isList
  rw [e] at hl
  refine sum_intListG (I.ok.hd hc) hl fun h' tk t' hk => ?_
  have e1 : its = (intItems xs).toList := by rw [← e]
  have e2 : xs.toList.map (·.1) = ns := by rw [← nums_intItems, ← e1, hi.numsOf]
  have es : preSum (numAt xs) xs.size = ns.sum := by rw [preSum_eq, List.take_of_length_le (by simp), e2]
  rw [es]
  exact ⟨.int ns.sum, H, I.kept hk, ⟨_, rfl⟩, q⟩
theorem bools_walk {pins : List (Addr × Obj)} {σ : St} {H : Hp} {s : Shared} {l : Addr} {bs : List Bool} (I : Inv X pins σ H s) (hq : SqL X.K H l (bs.map V.bl)) :
    ∃ its : List Value, its.length = bs.length ∧ s.heap.IsList l its.toArray ∧ l ≠ s.heap.objs.size ∧ ∀ (i : Nat) (v : Value), its.toArray[i]? = some v → v = .bool (bs.getD i false) := by
  obtain ⟨its, rv, pl, hz⟩ := I.list hq
  refine ⟨its, by rw [← rv.length, List.length_map], pl.isList, ?_, fun i v e => ?_⟩
  · obtain ⟨o, n, e, _⟩ := pl
    exact Nat.ne_of_lt (Heap.lt_size e)
  · have e' : its[i]? = some v := by simpa using e
    have hi : i < its.length := (List.getElem?_eq_some_iff.mp e').1
    have hb : i < bs.length := by have := rv.length; rw [List.length_map] at this; omega
    obtain ⟨u, hu, ru⟩ := rv.get (i := i) (x := .bl bs[i]) (by simp [hb])
    rw [e'] at hu
    cases hu
    have : v = Value.bool bs[i] := ru
    rw [this]
    simp [List.getD, hb]
theorem range_any (bs : List Bool) : (List.range bs.length).any (fun i => bs.getD i false) = bs.any id := by
  rw [Bool.eq_iff_iff]
  simp only [List.any_eq_true, List.mem_range, id]
  constructor
  · rintro ⟨i, hi, e⟩
    refine ⟨bs[i], List.getElem_mem hi, ?_⟩
    simpa [List.getD, hi] using e
  · rintro ⟨x, hx, e⟩
    obtain ⟨i, hi, rfl⟩ := List.mem_iff_getElem.mp hx
    exact ⟨i, hi, by simpa [List.getD, hi] using e⟩
theorem range_all (bs : List Bool) : (List.range bs.length).all (fun i => bs.getD i false) = bs.all id := by
  rw [Bool.eq_iff_iff]
  simp only [List.all_eq_true, List.mem_range, id]
  constructor
  · intro h x hx
    obtain ⟨i, hi, rfl⟩ := List.mem_iff_getElem.mp hx
    simpa [List.getD, hi] using h i hi
  · intro h i hi
    have := h bs[i] (List.getElem_mem hi)
    simpa [List.getD, hi] using this
theorem call_anyB (hc : X.calm = true) : CallR X (.builtin "any") (fun xs H Q => ∃ (a : Addr) (bs : List Bool), xs = [.ref a] ∧ SqL X.K H a (bs.map V.bl) ∧ Q (.bl (bs.any id)) H) := by
  intro pins s σ H xs us Q I r h
  obtain ⟨a, bs, rfl, hq, q⟩ := h
  obtain ⟨u, rfl, r1⟩ := vals1 r
  cases r1
  obtain ⟨its, hlen, hl, hne, hit⟩ := bools_walk I hq
  refine call_any_walk (wpAny_pyIter_list hl ?_)
  refine ⟨s.heap.objs.size, _, _, _, _, _, fun i => bs.getD i false, rfl, Walks.list (A := X.A.in1) (I.ok.hd hc) s.heap.objs.size a hne its.toArray, ⟨⟨_, Heap.get?_push_size _ rfl, rfl, rfl⟩, hl.at fun o e => Heap.get?_push_of_some _ e⟩, fun i v s' Q' E' e hQ => ?_, fun h' tk hk => ?_⟩
  · rw [hit i v e]
    exact wpAny_truthy_bool hQ
  · have e : (List.range its.toArray.size).any (fun i => bs.getD i false) = bs.any id := by rw [List.size_toArray, hlen]; exact range_any bs
    rw [e]
    refine ⟨.bl (bs.any id), H, I.kept fun b o e => hk b o ?_ (Heap.get?_push_of_some _ e), rfl, q⟩
    intro z
    have z' : b = s.heap.objs.size := by simpa using z
    rw [z'] at e
    exact absurd (Heap.lt_size e) (Nat.lt_irrefl _)
theorem call_allB (hc : X.calm = true) : CallR X (.builtin "all") (fun xs H Q => ∃ (a : Addr) (bs : List Bool), xs = [.ref a] ∧ SqL X.K H a (bs.map V.bl) ∧ Q (.bl (bs.all id)) H) := by
  intro pins s σ H xs us Q I r h
  obtain ⟨a, bs, rfl, hq, q⟩ := h
  obtain ⟨u, rfl, r1⟩ := vals1 r
  cases r1
  obtain ⟨its, hlen, hl, hne, hit⟩ := bools_walk I hq
  refine call_all_walk (wpAny_pyIter_list hl ?_)
  refine ⟨s.heap.objs.size, _, _, _, _, _, fun i => bs.getD i false, rfl, Walks.list (A := X.A.in1) (I.ok.hd hc) s.heap.objs.size a hne its.toArray, ⟨⟨_, Heap.get?_push_size _ rfl, rfl, rfl⟩, hl.at fun o e => Heap.get?_push_of_some _ e⟩, fun i v s' Q' E' e hQ => ?_, fun h' tk hk => ?_⟩
  · rw [hit i v e]
    exact wpAny_truthy_bool hQ
  · have e : (List.range its.toArray.size).all (fun i => bs.getD i false) = bs.all id := by rw [List.size_toArray, hlen]; exact range_all bs
    rw [e]
    refine ⟨.bl (bs.all id), H, I.kept fun b o e => hk b o ?_ (Heap.get?_push_of_some _ e), rfl, q⟩
    intro z
    have z' : b = s.heap.objs.size := by simpa using z
    rw [z'] at e
    exact absurd (Heap.lt_size e) (Nat.lt_irrefl _)
end
section
variable {prog : Program} {w : World} {A : Around} {E : Value → Shared → Prop}
end
section
variable {X : Cx} {pos : Pos}
def gLst (K : PySem.W.Frag) (n : Nat) (t : TGs) : TG := fun v σ H Q => ∃ a xs, v = .ref a ∧ SqL K H a xs ∧ xs.length = n ∧ t xs σ H Q
end
end L2
namespace L2
open PySem PySem.Spec PyProof.Rows
section
variable {X : Cx} {a b c : Expr} {ta tb tc : TE} {pos : Pos}
def CMulU (i j : Int) : Prop := CMul i j ∨ CMulB i j
theorem op_mulU : OpR X (binaryOp .Mult) (rI CMulU fun i j => .int (i * j)) := opI fun _ _ _ _ _ _ _ hc q => mul_int q (hc.elim (fun h => h.ok) fun h => h.ok)
theorem CMulU.l {i j : Int} (h1 : -(2 ^ 64) < i) (h2 : i < 2 ^ 64) : CMulU i j := .inl (.inl ⟨h1, h2⟩)
theorem CMulU.r {i j : Int} (h1 : -(2 ^ 64) < j) (h2 : j < 2 ^ 64) : CMulU i j := .inl (.inr ⟨h1, h2⟩)
theorem CMulU.big {i j : Int} (h1 : i.natAbs < 2 ^ 2000) (h2 : j.natAbs < 2 ^ 2000) : CMulU i j := .inr ⟨h1, h2⟩
theorem call_isinstT : CallR X (.builtin "isinstance") (fun xs H Q => ∃ x n t k, xs = [x, .ty n] ∧ TyOf X.K H x t ∧ PySem.W.kitOne X.K t (.type n) = some k ∧ Q (.bl k) H) := by
  intro pins s σ H xs us Q I r h
  obtain ⟨x, n, t, k, rfl, ty, e, q⟩ := h
  obtain ⟨u, w', rfl, rx, rc⟩ := vals2 r
  cases rc
  exact isinst_ok I rx ty e fun tk => ⟨.bl k, H, I.tok _, rfl, q⟩
theorem call_isinstC : CallR X (.builtin "isinstance") (fun xs H Q => ∃ x C t k, xs = [x, .ref C] ∧ TyOf X.K H x t ∧ PySem.W.kitOne X.K t (.ref C) = some k ∧ Q (.bl k) H) := by
  intro pins s σ H xs us Q I r h
  obtain ⟨x, C, t, k, rfl, ty, e, q⟩ := h
  obtain ⟨u, w', rfl, rx, rc⟩ := vals2 r
  cases rc
  exact isinst_ok I rx ty e fun tk => ⟨.bl k, H, I.tok _, rfl, q⟩
theorem pe_ty {x : Str} (T : String) (hg : Gl X x) (hm : X.mg x = none) (hv : bootBuiltins x = some (.type T)) (hn : x ≠ "__name__" := by decide) (hd : (x == ("__debug__" : Str)) = false := by decide) : PE X (.Name x pos) (tC (.ty T)) := pe_bltn hg hm hv rfl hn hd
end
section
variable {D : Ends} {σ : St} {H : Hp} {t u : TS} {te ta tb tc : TE} {tt tu : TT} {Q : VK} {QB : Bool → Hp → Prop} {QA : List V → Hp → Prop} {QG : St → Hp → Prop} {v x y : V} {vs : List V} {i j : Nat} {g : TG} {gs : TGs} {A : TA} {K : PySem.W.Frag}
theorem ap_seq : tSeq t u D σ H = t { D with nx := u D } σ H := rfl
theorem ap_next : tNext D σ H = D.nx σ H := rfl
theorem ap_asg : tAsg te g D σ H = te σ H fun x H1 => g x σ H1 D.nx := rfl
theorem ap_name : gName i v σ H QG = QG (σ.set i (some v)) H := rfl
theorem ap_var : tVar i σ H Q = ∃ v, σ[i]? = some (some v) ∧ Q v H := rfl
theorem ap_c : tC v σ H Q = Q v H := rfl
theorem ap_op {r : R2} : tOp r ta tb σ H Q = ta σ H fun x H1 => tb σ H1 fun y H2 => r x y H2 Q := rfl
theorem ap_un {r : V → Hp → VK → Prop} : tUn r ta σ H Q = ta σ H fun x H1 => r x H1 Q := rfl
theorem ap_rI {C : Int → Int → Prop} {f : Int → Int → V} : rI C f x y H Q = ∃ i j, x = .int i ∧ y = .int j ∧ C i j ∧ Q (f i j) H := rfl
theorem ap_rI0 {f : Int → Int → V} : rI0 f x y H Q = ∃ i j, x = .int i ∧ y = .int j ∧ Q (f i j) H := rfl
theorem ap_rU {f : Int → V} : rU f x H Q = ∃ i, x = .int i ∧ Q (f i) H := rfl
theorem ap_rEq : rEq x y H Q = (scal x y = true ∧ Q (.bl (decide (x = y))) H) := rfl
theorem ap_rNe : rNe x y H Q = (scal x y = true ∧ Q (.bl (!decide (x = y))) H) := rfl
theorem ap_ret : tRet te D σ H = te σ H D.rt := rfl
theorem ap_retN : tRetN D σ H = D.rt .non H := rfl
theorem ap_drop : tDrop te D σ H = te σ H fun _ H1 => D.nx σ H1 := rfl
theorem ap_if : tIfS tt t u D σ H = tt σ H fun b H1 => if b = true then t D σ H1 else u D σ H1 := rfl
theorem ap_test : tTest te σ H QB = te σ H fun x H' => ∃ k, x = .bl k ∧ QB k H' := rfl
theorem ap_tB : tB te σ H QB = te σ H fun x H1 => ∃ c, x = .bl c ∧ QB c H1 := rfl
theorem ap_and : tAnd tt tu σ H QB = tt σ H fun c H1 => if c = true then tu σ H1 QB else QB false H1 := rfl
theorem ap_or : tOr tt tu σ H QB = tt σ H fun c H1 => if c = true then QB true H1 else tu σ H1 QB := rfl
theorem ap_not : tNot tt σ H QB = tt σ H fun c H1 => QB (!c) H1 := rfl
theorem ap_andV : tAndV ta tb σ H Q = ta σ H fun x H1 => ∃ c, x = .bl c ∧ if c = true then tb σ H1 Q else Q (.bl false) H1 := rfl
theorem ap_orV : tOrV ta tb σ H Q = ta σ H fun x H1 => ∃ c, x = .bl c ∧ if c = true then Q (.bl true) H1 else tb σ H1 Q := rfl
theorem ap_notV : tNotV ta σ H Q = ta σ H fun x H1 => ∃ c, x = .bl c ∧ Q (.bl (!c)) H1 := rfl
theorem ap_ifE : tIf tt ta tb σ H Q = tt σ H fun c H1 => if c = true then ta σ H1 Q else tb σ H1 Q := rfl
theorem ap_call {sp : Sp} {dvs : List V} {E : XK} : tCall sp dvs E A σ H Q = A σ H fun vs H1 => sp (vs ++ dvs) H1 Q E := rfl
theorem ap_nil : tNil σ H QA = QA [] H := rfl
theorem ap_cons : tCons ta A σ H QA = ta σ H fun x H1 => A σ H1 fun xs H2 => QA (x :: xs) H2 := rfl
theorem ap_cb {r : List V → Hp → VK → Prop} : tCB r A σ H Q = A σ H fun vs H1 => r vs H1 Q := rfl
theorem ap_lst : tLst A σ H Q = A σ H fun xs H1 => xs.length ≤ sizeLine ∧ ∀ p, H1 p = none → Q (.ref p) (upd H1 p (.lst xs)) := rfl
theorem ap_tup : tTup A σ H Q = A σ H fun xs H1 => xs.length ≤ sizeLine ∧ ∀ p, H1 p = none → Q (.ref p) (upd H1 p (.tup xs)) := rfl
theorem ap_chain {r r' : R2} : tChain r r' ta tb tc σ H Q = ta σ H fun x H1 => tb σ H1 fun y H2 => r x y H2 fun z H3 => ∃ k, z = .bl k ∧ (if k = true then tc σ H3 fun w' H4 => r' y w' H4 Q else Q (.bl false) H3) := rfl
theorem ap_sl {r : V → Option Int → Option Int → Hp → VK → Prop} {tl th : TO} : tSl r te tl th σ H Q = te σ H fun x H1 => tl σ H1 fun l H2 => th σ H2 fun u H3 => r x l u H3 Q := rfl
theorem ap_noPart {QO : Option Int → Hp → Prop} : tNoPart σ H QO = QO none H := rfl
theorem ap_part {QO : Option Int → Hp → Prop} : tPart te σ H QO = te σ H fun x H1 => ∃ i, x = .int i ∧ QO (some i) H1 := rfl
theorem ap_gNil : gNil vs σ H QG = (vs = [] ∧ QG σ H) := rfl
theorem ap_gCons {u : TGs} : gCons g u vs σ H QG = ∃ v r, vs = v :: r ∧ g v σ H fun σ' H' => u r σ' H' QG := rfl
theorem ap_gLst {n : Nat} : gLst K n gs v σ H QG = ∃ a xs, v = .ref a ∧ SqL K H a xs ∧ xs.length = n ∧ gs xs σ H QG := rfl
theorem ap_gTup {n : Nat} : gTup K n gs v σ H QG = ∃ a xs, v = .ref a ∧ SqT K H a xs ∧ xs.length = n ∧ gs xs σ H QG := rfl
theorem ap_bm {T : String} {r : V → List V → Hp → VK → Prop} : tBM K T r te A σ H Q = te σ H fun x H1 => tyV K T x H1 ∧ A σ H1 fun xs H2 => r x xs H2 Q := rfl
theorem ap_bm0 {T : String} {r : V → List V → Hp → VK → Prop} : tBM0 K T r te σ H Q = te σ H fun x H1 => tyV K T x H1 ∧ r x [] H1 Q := rfl
theorem ap_ixL {x y : V} : rIxL K x y H Q = ∃ p xs i v, x = .ref p ∧ y = .int i ∧ SqL K H p xs ∧ atI xs i = some v ∧ Q v H := rfl
theorem ap_slL {lo hi : Option Int} : rSlL K x lo hi H Q = ∃ a xs, x = .ref a ∧ SqL K H a xs ∧ ∀ p, H p = none → Q (.ref p) (upd H p (.lst (cutV xs lo hi))) := rfl
theorem scal_int (i j : Int) : scal (.int i) (.int j) = true := rfl
theorem scal_str (i j : Str) : scal (.str i) (.str j) = true := rfl
theorem scal_bl (i j : Bool) : scal (.bl i) (.bl j) = true := rfl
theorem start_eq (N : List Str) (vs : List V) : start N vs = vs.map some ++ List.replicate (N.length - vs.length) none := rfl
end
end L2
namespace L2
open PySem PySem.Spec PyProof.Rows
theorem filt_true {α : Type} (l : List α) : l.filter (fun _ => true) = l := by simp
theorem Same.upd {H H' : Hp} {a : Addr} {o : HO} (h : Same H H') (hn : H a = Option.none) : Same H (upd H' a o) := fun b u e => by
  rw [upd_ne (ne_of_none e hn)]
  exact h b u e
theorem Same.new {H : Hp} {a : Addr} {o : HO} (hn : H a = Option.none) : Same H (L2.upd H a o) := Same.upd (Same.refl H) hn
section
variable {K : PySem.W.Frag} {a D : Addr} {xs : List V} {g : TG} {tt : TT} {te : TE} {σ0 : St} {H1 : Hp} {Q : VK}
theorem comp_step {xs : List V} (J : It) (Sσ : St → Prop) (p : V → Bool) (F : V → V) (hD : H1 D = Option.none) (h0 : Sσ σ0) (hz : xs.length ≤ sizeLine)
    (hgo : ∀ (i : Nat) x H, xs[i]? = some x → Same H1 H → J.go i H ∧ ∀ y H', J.yld i H y H' → y = x ∧ H' = H) (hstop : ∀ H, Same H1 H → J.stop xs.length H)
    (hs : ∀ x ∈ xs, ∀ (σ : St) (H : Hp) (R1 : St → VK) (R2 : St → Hp → Prop), Sσ σ → Same H1 H → (p x = true → ∀ σ4 H6, Sσ σ4 → Same H H6 → R1 σ4 (F x) H6) → (p x = false → ∀ σ4 H6, Sσ σ4 → Same H H6 → R2 σ4 H6) →
      g x σ H fun σ4 H4 => tt σ4 H4 fun b H5 => if b = true then te σ4 H5 (R1 σ4) else R2 σ4 H5)
    (k : ∀ H', Same H1 H' → H' D = some (.lst ((xs.filter p).map F)) → Q (.ref D) H') :
    ∃ W : Nat → Nat → List V → St → Hp → Prop, (∃ m, W 0 m [] σ0 (upd H1 D (.lst []))) ∧ ∀ i m acc σ1 H2, W i m acc σ1 H2 → H2 D = some (.lst acc) →
      (J.stop i H2 ∧ Q (.ref D) H2) ∨ (J.go i H2 ∧ ∀ x H3, J.yld i H2 x H3 → g x σ1 H3 fun σ4 H4 => tt σ4 H4 fun b H5 =>
        if b = true then te σ4 H5 fun v H6 => ∃ acc', H6 D = some (.lst acc') ∧ acc'.length < sizeLine ∧ ∃ m', m' < m ∧ W (i + 1) m' (acc' ++ [v]) σ4 (upd H6 D (.lst (acc' ++ [v])))
        else ∃ m', m' < m ∧ ∃ acc', H5 D = some (.lst acc') ∧ W (i + 1) m' acc' σ4 H5) := by
  refine ⟨fun i m acc σ H => m = xs.length - i ∧ i ≤ xs.length ∧ Sσ σ ∧ Same H1 H ∧ acc = ((xs.take i).filter p).map F, ⟨xs.length, rfl, Nat.zero_le _, h0, Same.new hD, by simp⟩, ?_⟩
  rintro i m acc σ H ⟨rfl, hi, hσ, sm, rfl⟩ hA
  by_cases hlt : i < xs.length
  · have hx : xs[i]? = some xs[i] := by simp [hlt]
    obtain ⟨go, yl⟩ := hgo i xs[i] H hx sm
    refine .inr ⟨go, fun y H' hy => ?_⟩
    obtain ⟨rfl, rfl⟩ := yl y H' hy
    have htake : xs.take (i + 1) = xs.take i ++ [xs[i]] := by rw [List.take_add_one, hx]; rfl
    have hlen : (((xs.take i).filter p).map F).length ≤ i := by
      rw [List.length_map]
      exact Nat.le_trans (List.length_filter_le _ _) (by rw [List.length_take]; exact Nat.min_le_left _ _)
    refine hs xs[i] (List.getElem_mem hlt) σ H' _ _ hσ sm (fun hp σ4 H6 hσ4 s6 => ?_) (fun hp σ4 H6 hσ4 s6 => ?_)
    · refine ⟨_, s6 _ _ hA, by omega, xs.length - (i + 1), by omega, rfl, hlt, hσ4, (sm.trans s6).upd hD, ?_⟩
      rw [htake, List.filter_append, List.map_append]
      simp [hp]
    · refine ⟨xs.length - (i + 1), by omega, _, s6 _ _ hA, rfl, hlt, hσ4, sm.trans s6, ?_⟩
      rw [htake, List.filter_append, List.map_append]
      simp [hp]
  · have e : i = xs.length := by omega
    subst e
    refine .inl ⟨hstop H sm, k H sm ?_⟩
    rw [hA, List.take_length]
theorem comp_list (Sσ : St → Prop) (p : V → Bool) (F : V → V) (hS : SqL K H1 a xs) (hD : H1 D = Option.none) (h0 : Sσ σ0) (hz : xs.length ≤ sizeLine)
    (hs : ∀ x ∈ xs, ∀ (σ : St) (H : Hp) (R1 : St → VK) (R2 : St → Hp → Prop), Sσ σ → Same H1 H → (p x = true → ∀ σ4 H6, Sσ σ4 → Same H H6 → R1 σ4 (F x) H6) → (p x = false → ∀ σ4 H6, Sσ σ4 → Same H H6 → R2 σ4 H6) →
      g x σ H fun σ4 H4 => tt σ4 H4 fun b H5 => if b = true then te σ4 H5 (R1 σ4) else R2 σ4 H5)
    (k : ∀ H', Same H1 H' → H' D = some (.lst ((xs.filter p).map F)) → Q (.ref D) H') :
    ∃ W : Nat → Nat → List V → St → Hp → Prop, (∃ m, W 0 m [] σ0 (upd H1 D (.lst []))) ∧ ∀ i m acc σ1 H2, W i m acc σ1 H2 → H2 D = some (.lst acc) →
      ((Itl K a).stop i H2 ∧ Q (.ref D) H2) ∨ ((Itl K a).go i H2 ∧ ∀ x H3, (Itl K a).yld i H2 x H3 → g x σ1 H3 fun σ4 H4 => tt σ4 H4 fun b H5 =>
        if b = true then te σ4 H5 fun v H6 => ∃ acc', H6 D = some (.lst acc') ∧ acc'.length < sizeLine ∧ ∃ m', m' < m ∧ W (i + 1) m' (acc' ++ [v]) σ4 (upd H6 D (.lst (acc' ++ [v])))
        else ∃ m', m' < m ∧ ∃ acc', H5 D = some (.lst acc') ∧ W (i + 1) m' acc' σ4 H5) :=
  comp_step (Itl K a) Sσ p F hD h0 hz (fun i x H hx sm => ⟨⟨xs, x, sm.seq hS, hx⟩, fun y H' hy => ⟨Option.some.inj ((hy.2 xs (sm.seq hS)).symm.trans hx), hy.1⟩⟩) (fun H sm => ⟨xs, sm.seq hS, Nat.le_refl _⟩) hs k
theorem comp_range {lo : Int} {n : Nat} (Sσ : St → Prop) (p : V → Bool) (F : V → V) (hD : H1 D = Option.none) (h0 : Sσ σ0) (hz : n ≤ sizeLine)
    (hs : ∀ i : Nat, i < n → ∀ (σ : St) (H : Hp) (R1 : St → VK) (R2 : St → Hp → Prop), Sσ σ → Same H1 H → (p (.int (lo + i)) = true → ∀ σ4 H6, Sσ σ4 → Same H H6 → R1 σ4 (F (.int (lo + i))) H6) → (p (.int (lo + i)) = false → ∀ σ4 H6, Sσ σ4 → Same H H6 → R2 σ4 H6) →
      g (.int (lo + i)) σ H fun σ4 H4 => tt σ4 H4 fun b H5 => if b = true then te σ4 H5 (R1 σ4) else R2 σ4 H5)
    (k : ∀ H', Same H1 H' → H' D = some (.lst ((((List.range n).map fun (i : Nat) => V.int (lo + i)).filter p).map F)) → Q (.ref D) H') :
    ∃ W : Nat → Nat → List V → St → Hp → Prop, (∃ m, W 0 m [] σ0 (upd H1 D (.lst []))) ∧ ∀ i m acc σ1 H2, W i m acc σ1 H2 → H2 D = some (.lst acc) →
      ((Itr lo n).stop i H2 ∧ Q (.ref D) H2) ∨ ((Itr lo n).go i H2 ∧ ∀ x H3, (Itr lo n).yld i H2 x H3 → g x σ1 H3 fun σ4 H4 => tt σ4 H4 fun b H5 =>
        if b = true then te σ4 H5 fun v H6 => ∃ acc', H6 D = some (.lst acc') ∧ acc'.length < sizeLine ∧ ∃ m', m' < m ∧ W (i + 1) m' (acc' ++ [v]) σ4 (upd H6 D (.lst (acc' ++ [v])))
        else ∃ m', m' < m ∧ ∃ acc', H5 D = some (.lst acc') ∧ W (i + 1) m' acc' σ4 H5) := by
  refine comp_step (xs := (List.range n).map fun (i : Nat) => V.int (lo + i)) (Itr lo n) Sσ p F hD h0 (by simpa using hz) (fun i x H hx sm => ?_) (fun H sm => ?_) (fun x hx σ H R1 R2 h1 h2 h3 h4 => ?_) k
  · have hi : i < n := by simpa using (List.getElem?_eq_some_iff.mp hx).1
    have e : x = .int (lo + i) := by
      rw [List.getElem?_map, List.getElem?_range hi] at hx
      exact (Option.some.inj hx).symm
    exact ⟨hi, fun y H' hy => ⟨hy.2.trans e.symm, hy.1⟩⟩
  · show n ≤ _
    simp
  · obtain ⟨i, hi, rfl⟩ := List.mem_map.mp hx
    exact hs i (List.mem_range.mp hi) σ H R1 R2 h1 h2 h3 h4
end
end L2
namespace L2
open PySem PySem.Spec PyProof.Rows
inductive DV where
  | non | bl (b : Bool) | int (i : Int) | str (x : Str) | lst (xs : List DV) | tup (xs : List DV)
mutual
inductive RepD (K : PySem.W.Frag) (H : Hp) : V → DV → Prop
  | non : RepD K H .non .non
  | bl (b : Bool) : RepD K H (.bl b) (.bl b)
  | int (i : Int) : RepD K H (.int i) (.int i)
  | str (x : Str) : RepD K H (.str x) (.str x)
  | lst {a : Addr} {vs : List V} {ds : List DV} (h : SqL K H a vs) (hs : RepsD K H vs ds) : RepD K H (.ref a) (.lst ds)
  | tup {a : Addr} {vs : List V} {ds : List DV} (h : SqT K H a vs) (hs : RepsD K H vs ds) : RepD K H (.ref a) (.tup ds)
inductive RepsD (K : PySem.W.Frag) (H : Hp) : List V → List DV → Prop
  | nil : RepsD K H [] []
  | cons {v : V} {d : DV} {vs : List V} {ds : List DV} (h : RepD K H v d) (hs : RepsD K H vs ds) : RepsD K H (v :: vs) (d :: ds)
end
mutual
def deqD : DV → DV → Bool
  | .non, .non => true
  | .bl a, .bl b => a == b
  | .int a, .int b => a == b
  | .bl a, .int b => (if a then 1 else 0) == b
  | .int a, .bl b => a == (if b then 1 else 0)
  | .str a, .str b => a == b
  | .lst xs, .lst ys => deqDs xs ys
  | .tup xs, .tup ys => deqDs xs ys
  | _, _ => false
def deqDs : List DV → List DV → Bool
  | [], [] => true
  | x :: xs, y :: ys => deqD x y && deqDs xs ys
  | _, _ => false
end
mutual
def depD : DV → Nat
  | .lst xs => depDs xs + 1
  | .tup xs => depDs xs + 1
  | _ => 0
def depDs : List DV → Nat
  | [] => 0
  | x :: xs => max (depD x) (depDs xs)
end
theorem RepsD.length {K : PySem.W.Frag} {H : Hp} : ∀ {vs : List V} {ds : List DV}, RepsD K H vs ds → vs.length = ds.length
  | _, _, .nil => rfl
  | _, _, .cons _ hs => congrArg (· + 1) (RepsD.length hs)
theorem RepsD.get {K : PySem.W.Frag} {H : Hp} : ∀ {vs : List V} {ds : List DV} {j : Nat} {v : V} {d : DV}, RepsD K H vs ds → vs[j]? = some v → ds[j]? = some d → RepD K H v d
  | _, _, _, _, _, .nil, h, _ => by simp at h
  | _, _, 0, _, _, .cons h _, e1, e2 => by simp at e1 e2; subst e1 e2; exact h
  | _, _, j + 1, _, _, .cons _ hs, e1, e2 => RepsD.get (j := j) hs (by simpa using e1) (by simpa using e2)
theorem depDs_get : ∀ {ds : List DV} {j : Nat} {d : DV}, ds[j]? = some d → depD d ≤ depDs ds
  | [], _, _, h => by simp at h
  | x :: xs, 0, d, h => by simp at h; subst h; unfold depDs; exact Nat.le_max_left _ _
  | x :: xs, j + 1, d, h => by unfold depDs; exact Nat.le_trans (depDs_get (j := j) (by simpa using h)) (Nat.le_max_right _ _)
theorem deqDs_all : ∀ (xs ys : List DV), xs.length = ys.length → deqDs xs ys = (List.range xs.length).all fun j => deqD (xs.getD j .non) (ys.getD j .non)
  | [], [], _ => rfl
  | x :: xs, y :: ys, h => by
    unfold deqDs
    rw [deqDs_all xs ys (by simpa using h), List.length_cons, List.range_succ_eq_map, List.all_cons, List.all_map]
    rfl
  | [], _ :: _, h => by simp at h
  | _ :: _, [], h => by simp at h
theorem deqDs_len : ∀ (xs ys : List DV), xs.length ≠ ys.length → deqDs xs ys = false
  | [], [], h => absurd rfl h
  | x :: xs, y :: ys, h => by
    unfold deqDs
    rw [deqDs_len xs ys (by simpa using h), Bool.and_false]
  | [], _ :: _, _ => by unfold deqDs; rfl
  | _ :: _, [], _ => by unfold deqDs; rfl
theorem deqD_lst (xs ys : List DV) : deqD (.lst xs) (.lst ys) = deqDs xs ys := by unfold deqD; rfl
theorem deqD_tup (xs ys : List DV) : deqD (.tup xs) (.tup ys) = deqDs xs ys := by unfold deqD; rfl
mutual
theorem deqD_refl : ∀ d : DV, deqD d d = true
  | .non => by unfold deqD; rfl
  | .bl a => by unfold deqD; simp
  | .int a => by unfold deqD; simp
  | .str a => by unfold deqD; simp
  | .lst xs => by unfold deqD; exact deqDs_refl xs
  | .tup xs => by unfold deqD; exact deqDs_refl xs
theorem deqDs_refl : ∀ ds : List DV, deqDs ds ds = true
  | [] => by unfold deqDs; rfl
  | x :: xs => by unfold deqDs; rw [deqD_refl x, deqDs_refl xs]; rfl
end
section
variable {X : Cx} {pins : List (Addr × Obj)} {σ : St} {H : Hp} {s : Shared}
theorem Inv.noboth (I : Inv X pins σ H s) {a : Addr} {xs ys : List V} (h : SqL X.K H a xs) (h' : SqT X.K H a ys) : False := by
  obtain ⟨its, r, ⟨o, n, e, c, _⟩, _⟩ := I.list h
  obtain ⟨its', r', ⟨o', e', c', _⟩, _⟩ := I.tuple h'
  rw [e] at e'; cases e'
  rw [c] at c'
  exact absurd c' (by decide)
mutual
theorem RepD.inj (I : Inv X pins σ H s) : ∀ {v : V} {d d' : DV}, RepD X.K H v d → RepD X.K H v d' → d = d'
  | _, _, _, .non, .non => rfl
  | _, _, _, .bl _, .bl _ => rfl
  | _, _, _, .int _, .int _ => rfl
  | _, _, _, .str _, .str _ => rfl
  | _, _, _, .lst h hs, .lst h' hs' => by
    have e := I.list_inj h h'
    subst e
    rw [RepsD.inj I hs hs']
  | _, _, _, .tup h hs, .tup h' hs' => by
    have e := I.tuple_inj h h'
    subst e
    rw [RepsD.inj I hs hs']
  | _, _, _, .lst h _, .tup h' _ => (I.noboth h h').elim
  | _, _, _, .tup h _, .lst h' _ => (I.noboth h' h).elim
theorem RepsD.inj (I : Inv X pins σ H s) : ∀ {vs : List V} {ds ds' : List DV}, RepsD X.K H vs ds → RepsD X.K H vs ds' → ds = ds'
  | _, _, _, .nil, .nil => rfl
  | _, _, _, .cons h hs, .cons h' hs' => by rw [RepD.inj I h h', RepsD.inj I hs hs']
end
theorem in1_units (A : Around) : A.in1.units = A.units + 1 := rfl
theorem eqAt_flatL (I : Inv X pins σ H s) {A : Around} {d1 d2 : DV} {v1 v2 : V} {u1 u2 : Value} (hd : depD d1 ≤ 0) (hu' : A.units < cLine) (h1 : RepD X.K H v1 d1) (h2 : RepD X.K H v2 d2) (r1 : RelV v1 u1) (r2 : RelV v2 u2) : SeqAt.EqAt A s u1 u2 (deqD d1 d2) := by
  cases h1 with
  | lst h hs => unfold depD at hd; omega
  | tup h hs => unfold depD at hd; omega
  | non =>
    cases (show u1 = Value.none from r1)
    cases h2 with
    | non => cases (show u2 = Value.none from r2); unfold deqD; exact SeqAt.EqAt.same _
    | bl b => cases (show u2 = Value.bool b from r2); unfold deqD; exact SeqAt.EqAt.none_bool b
    | int i => obtain ⟨t, e⟩ := (show ∃ t, u2 = Value.int i t from r2); subst e; unfold deqD; exact SeqAt.EqAt.none_int i t
    | str x => obtain ⟨t, e⟩ := (show ∃ t, u2 = Value.str x t from r2); subst e; unfold deqD; exact SeqAt.EqAt.none_str x t
    | lst h hs => obtain ⟨its, _, p, _⟩ := I.list h; cases r2; unfold deqD; exact SeqAt.EqAt.none_list p.isList hu'
    | tup h hs => obtain ⟨its, _, p, _⟩ := I.tuple h; cases r2; unfold deqD; exact SeqAt.EqAt.none_tuple p hu'
  | bl a =>
    cases (show u1 = Value.bool a from r1)
    cases h2 with
    | non => cases (show u2 = Value.none from r2); unfold deqD; exact SeqAt.EqAt.bool_none a
    | bl b => cases (show u2 = Value.bool b from r2); unfold deqD; exact SeqAt.EqAt.bool_bool a b
    | int i => obtain ⟨t, e⟩ := (show ∃ t, u2 = Value.int i t from r2); subst e; unfold deqD; exact SeqAt.EqAt.bool_int a i t
    | str x => obtain ⟨t, e⟩ := (show ∃ t, u2 = Value.str x t from r2); subst e; unfold deqD; exact SeqAt.EqAt.bool_str a x t
    | lst h hs => obtain ⟨its, _, p, _⟩ := I.list h; cases r2; unfold deqD; exact SeqAt.EqAt.bool_list a p.isList hu'
    | tup h hs => obtain ⟨its, _, p, _⟩ := I.tuple h; cases r2; unfold deqD; exact SeqAt.EqAt.bool_tuple a p hu'
  | int a =>
    obtain ⟨t1, e1⟩ := (show ∃ t, u1 = Value.int a t from r1); subst e1
    cases h2 with
    | non => cases (show u2 = Value.none from r2); unfold deqD; exact SeqAt.EqAt.int_none a t1
    | bl b => cases (show u2 = Value.bool b from r2); unfold deqD; exact SeqAt.EqAt.int_bool a t1 b
    | int i => obtain ⟨t, e⟩ := (show ∃ t, u2 = Value.int i t from r2); subst e; unfold deqD; exact SeqAt.EqAt.int_int a t1 i t
    | str x => obtain ⟨t, e⟩ := (show ∃ t, u2 = Value.str x t from r2); subst e; unfold deqD; exact SeqAt.EqAt.int_str a t1 x t
    | lst h hs => obtain ⟨its, _, p, _⟩ := I.list h; cases r2; unfold deqD; exact SeqAt.EqAt.int_list a t1 p.isList hu'
    | tup h hs => obtain ⟨its, _, p, _⟩ := I.tuple h; cases r2; unfold deqD; exact SeqAt.EqAt.int_tuple a t1 p hu'
  | str a =>
    obtain ⟨t1, e1⟩ := (show ∃ t, u1 = Value.str a t from r1); subst e1
    cases h2 with
    | non => cases (show u2 = Value.none from r2); unfold deqD; exact SeqAt.EqAt.str_none a t1
    | bl b => cases (show u2 = Value.bool b from r2); unfold deqD; exact SeqAt.EqAt.str_bool a t1 b
    | int i => obtain ⟨t, e⟩ := (show ∃ t, u2 = Value.int i t from r2); subst e; unfold deqD; exact SeqAt.EqAt.str_int a t1 i t
    | str x => obtain ⟨t, e⟩ := (show ∃ t, u2 = Value.str x t from r2); subst e; unfold deqD; exact SeqAt.EqAt.str_str a t1 x t
    | lst h hs => obtain ⟨its, _, p, _⟩ := I.list h; cases r2; unfold deqD; exact SeqAt.EqAt.str_list a t1 p.isList hu'
    | tup h hs => obtain ⟨its, _, p, _⟩ := I.tuple h; cases r2; unfold deqD; exact SeqAt.EqAt.str_tuple a t1 p hu'
theorem eqAt_items {A : Around} {vs1 vs2 : List V} {ds1 ds2 : List DV} {its1 its2 : List Value} (r1 : Vals vs1 its1) (r2 : Vals vs2 its2) (h1 : RepsD X.K H vs1 ds1) (h2 : RepsD X.K H vs2 ds2)
    (ih : ∀ (d1 d2 : DV) (v1 v2 : V) (u1 u2 : Value), depD d1 ≤ depDs ds1 → RepD X.K H v1 d1 → RepD X.K H v2 d2 → RelV v1 u1 → RelV v2 u2 → SeqAt.EqAt A s u1 u2 (deqD d1 d2)) :
    ∀ (j : Nat) (a : j < its1.toArray.size) (b : j < its2.toArray.size), SeqAt.EqAt A s its1.toArray[j] its2.toArray[j] (deqD (ds1.getD j .non) (ds2.getD j .non)) := by
  intro j a b
  have l1 := r1.length
  have l2 := r2.length
  have m1 := h1.length
  have m2 := h2.length
  simp only [List.size_toArray] at a b
  have a1 : j < vs1.length := by omega
  have a2 : j < vs2.length := by omega
  have b1 : j < ds1.length := by omega
  have b2 : j < ds2.length := by omega
  obtain ⟨w1, e1, q1⟩ := r1.get (i := j) (x := vs1[j]) (by simp [a1])
  obtain ⟨w2, e2, q2⟩ := r2.get (i := j) (x := vs2[j]) (by simp [a2])
  have z1 : its1.toArray[j] = w1 := by simpa [a] using e1
  have z2 : its2.toArray[j] = w2 := by simpa [b] using e2
  have y1 : ds1.getD j .non = ds1[j] := by simp [List.getD, b1]
  have y2 : ds2.getD j .non = ds2[j] := by simp [List.getD, b2]
  rw [z1, z2, y1, y2]
  exact ih _ _ _ _ _ _ (depDs_get (j := j) (by simp [b1])) (h1.get (j := j) (by simp [a1]) (by simp [b1])) (h2.get (j := j) (by simp [a2]) (by simp [b2])) q1 q2
theorem eqAt_D (I : Inv X pins σ H s) : ∀ (n : Nat) (A : Around) (d1 d2 : DV) (v1 v2 : V) (u1 u2 : Value), depD d1 ≤ n → A.units + n < cLine → RepD X.K H v1 d1 → RepD X.K H v2 d2 → RelV v1 u1 → RelV v2 u2 → SeqAt.EqAt A s u1 u2 (deqD d1 d2) := by
  intro n
  induction n with
  | zero => exact fun A d1 d2 v1 v2 u1 u2 hd hu h1 h2 r1 r2 => eqAt_flatL I hd (by omega) h1 h2 r1 r2
  | succ n ih =>
    intro A d1 d2 v1 v2 u1 u2 hd hu h1 h2 r1 r2
    have hu' : A.units < cLine := by omega
    have hin : A.in1.units + n < cLine := by rw [in1_units]; omega
    cases h1 with
    | non => exact eqAt_flatL I (by unfold depD; omega) hu' .non h2 r1 r2
    | bl a => exact eqAt_flatL I (by unfold depD; omega) hu' (.bl a) h2 r1 r2
    | int a => exact eqAt_flatL I (by unfold depD; omega) hu' (.int a) h2 r1 r2
    | str a => exact eqAt_flatL I (by unfold depD; omega) hu' (.str a) h2 r1 r2
    | @lst a vs ds h hs =>
      obtain ⟨its, rv, p, _⟩ := I.list h
      cases (show u1 = Value.ref a from r1)
      have hd' : depDs ds ≤ n := by unfold depD at hd; omega
      cases h2 with
      | non => cases (show u2 = Value.none from r2); unfold deqD; exact SeqAt.EqAt.list_none p.isList hu'
      | bl b => cases (show u2 = Value.bool b from r2); unfold deqD; exact SeqAt.EqAt.list_bool b p.isList hu'
      | int i => obtain ⟨t, e⟩ := (show ∃ t, u2 = Value.int i t from r2); subst e; unfold deqD; exact SeqAt.EqAt.list_int i t p.isList hu'
      | str x => obtain ⟨t, e⟩ := (show ∃ t, u2 = Value.str x t from r2); subst e; unfold deqD; exact SeqAt.EqAt.list_str x t p.isList hu'
      | @lst a2 vs2 ds2 h' hs' =>
        obtain ⟨its2, rv2, p2, _⟩ := I.list h'
        cases (show u2 = Value.ref a2 from r2)
        unfold deqD
        by_cases hne : a = a2
        · subst hne
          have e := I.list_inj h h'
          subst e
          rw [RepsD.inj I hs hs', deqDs_refl]
          exact SeqAt.EqAt.same _
        · have l1 := rv.length
          have l2 := rv2.length
          have m1 := hs.length
          have m2 := hs'.length
          by_cases hz : ds.length = ds2.length
          · rw [deqDs_all _ _ hz]
            have := SeqAt.EqAt.of_refs hne (SeqAt.RcAt.lists (A := A) (e := fun j => deqD (ds.getD j .non) (ds2.getD j .non)) p.isList p2.isList (by simp only [List.size_toArray]; omega) hu'
              (eqAt_items rv rv2 hs hs' fun d1 d2 v1 v2 u1 u2 hdd g1 g2 q1 q2 => ih A.in1 d1 d2 v1 v2 u1 u2 (by omega) hin g1 g2 q1 q2))
            rw [List.size_toArray, show its.length = ds.length by omega] at this
            exact this
          · rw [deqDs_len _ _ hz]
            exact SeqAt.EqAt.of_refs hne (SeqAt.RcAt.lists_lengths p.isList p2.isList (by simp only [List.size_toArray, bne_iff_ne]; omega) hu')
      | @tup a2 vs2 ds2 h' hs' =>
        obtain ⟨its2, rv2, p2, _⟩ := I.tuple h'
        cases (show u2 = Value.ref a2 from r2)
        unfold deqD
        exact SeqAt.EqAt.list_tuple p.isList p2 hu'
    | @tup a vs ds h hs =>
      obtain ⟨its, rv, p, _⟩ := I.tuple h
      cases (show u1 = Value.ref a from r1)
      have hd' : depDs ds ≤ n := by unfold depD at hd; omega
      cases h2 with
      | non => cases (show u2 = Value.none from r2); unfold deqD; exact SeqAt.EqAt.tuple_none p hu'
      | bl b => cases (show u2 = Value.bool b from r2); unfold deqD; exact SeqAt.EqAt.tuple_bool b p hu'
      | int i => obtain ⟨t, e⟩ := (show ∃ t, u2 = Value.int i t from r2); subst e; unfold deqD; exact SeqAt.EqAt.tuple_int i t p hu'
      | str x => obtain ⟨t, e⟩ := (show ∃ t, u2 = Value.str x t from r2); subst e; unfold deqD; exact SeqAt.EqAt.tuple_str x t p hu'
      | @lst a2 vs2 ds2 h' hs' =>
        obtain ⟨its2, rv2, p2, _⟩ := I.list h'
        cases (show u2 = Value.ref a2 from r2)
        unfold deqD
        exact SeqAt.EqAt.tuple_list p p2.isList hu'
      | @tup a2 vs2 ds2 h' hs' =>
        obtain ⟨its2, rv2, p2, _⟩ := I.tuple h'
        cases (show u2 = Value.ref a2 from r2)
        unfold deqD
        by_cases hne : a = a2
        · subst hne
          have e := I.tuple_inj h h'
          subst e
          rw [RepsD.inj I hs hs', deqDs_refl]
          exact SeqAt.EqAt.same _
        · have l1 := rv.length
          have l2 := rv2.length
          have m1 := hs.length
          have m2 := hs'.length
          have := SeqAt.EqAt.of_refs hne (SeqAt.RcAt.tuples (A := A) (e := fun j => deqD (ds.getD j .non) (ds2.getD j .non)) p p2 hu'
              (eqAt_items rv rv2 hs hs' fun d1 d2 v1 v2 u1 u2 hdd g1 g2 q1 q2 => ih A.in1 d1 d2 v1 v2 u1 u2 (by omega) hin g1 g2 q1 q2))
          simp only [List.size_toArray] at this
          by_cases hz : ds.length = ds2.length
          · rw [deqDs_all _ _ hz]
            rw [show its.length = ds.length by omega, show its2.length = ds.length by omega, Nat.min_self, beq_self_eq_true, Bool.and_true] at this
            exact this
          · rw [deqDs_len _ _ hz]
            rw [show (its.length == its2.length) = false from beq_eq_false_iff_ne.mpr (by omega), Bool.and_false] at this
            exact this
def rEqD (K : PySem.W.Frag) : R2 := fun x y H Q => ∃ d1 d2, RepD K H x d1 ∧ RepD K H y d2 ∧ 1 ≤ depD d1 ∧ depD d1 ≤ 20 ∧ Q (.bl (deqD d1 d2)) H
def rNeD (K : PySem.W.Frag) : R2 := fun x y H Q => ∃ d1 d2, RepD K H x d1 ∧ RepD K H y d2 ∧ 1 ≤ depD d1 ∧ depD d1 ≤ 20 ∧ Q (.bl (!deqD d1 d2)) H
theorem op_eqD {k : Nat} (hr : Room k X.A) : OpR X (compareOp .Eq) (rEqD X.K) := by
  intro pins s σ H x y v u Q I rx ry h
  obtain ⟨d1, d2, h1, h2, hd1, hd, q⟩ := h
  have hr' := hr.units
  have hu' : X.A.units < cLine := by omega
  have hin : X.A.in1.units + 20 < cLine := by rw [in1_units]; omega
  have fin : ∀ b, SeqAt.RcAt X.A s v u b → b = (deqD d1 d2) → wpAny (model X.prog X.w) X.A (compareOp .Eq v u) (EP X pins σ Q) X.xe s := fun b hb e => by
    subst e
    exact hb X.prog X.w X.xe _ ⟨.bl _, H, I, rfl, q⟩
  cases h1 with
  | non => unfold depD at hd1; omega
  | bl a => unfold depD at hd1; omega
  | int a => unfold depD at hd1; omega
  | str a => unfold depD at hd1; omega
  | @lst a vs ds h hs =>
    obtain ⟨its, rv, p, _⟩ := I.list h
    cases (show v = Value.ref a from rx)
    have hd' : depDs ds ≤ 20 := by unfold depD at hd; omega
    cases h2 with
    | non => cases (show u = Value.none from ry); exact fin _ (SeqAt.RcAt.list_none p.isList hu') (by unfold deqD; rfl)
    | bl b => cases (show u = Value.bool b from ry); exact fin _ (SeqAt.RcAt.list_bool b p.isList hu') (by unfold deqD; rfl)
    | int i => obtain ⟨t, e⟩ := (show ∃ t, u = Value.int i t from ry); subst e; exact fin _ (SeqAt.RcAt.list_int i t p.isList hu') (by unfold deqD; rfl)
    | str z => obtain ⟨t, e⟩ := (show ∃ t, u = Value.str z t from ry); subst e; exact fin _ (SeqAt.RcAt.list_str z t p.isList hu') (by unfold deqD; rfl)
    | @tup a2 vs2 ds2 h' hs' =>
      obtain ⟨its2, rv2, p2, _⟩ := I.tuple h'
      cases (show u = Value.ref a2 from ry)
      exact fin _ (SeqAt.RcAt.list_tuple p.isList p2 hu') (by unfold deqD; rfl)
    | @lst a2 vs2 ds2 h' hs' =>
      obtain ⟨its2, rv2, p2, _⟩ := I.list h'
      cases (show u = Value.ref a2 from ry)
      have l1 := rv.length
      have l2 := rv2.length
      have m1 := hs.length
      have m2 := hs'.length
      by_cases hz : ds.length = ds2.length
      · refine fin _ (SeqAt.RcAt.lists (A := X.A) (e := fun j => deqD (ds.getD j .non) (ds2.getD j .non)) p.isList p2.isList (by simp only [List.size_toArray]; omega) hu'
          (eqAt_items rv rv2 hs hs' fun d1 d2 v1 v2 u1 u2 hdd g1 g2 q1 q2 => eqAt_D I 20 X.A.in1 d1 d2 v1 v2 u1 u2 (by omega) hin g1 g2 q1 q2)) ?_
        rw [deqD_lst, deqDs_all _ _ hz, List.size_toArray, show its.length = ds.length by omega]
      · refine fin _ (SeqAt.RcAt.lists_lengths p.isList p2.isList (by simp only [List.size_toArray, bne_iff_ne]; omega) hu') ?_
        unfold deqD
        rw [deqDs_len _ _ hz]
        all_goals rfl
  | @tup a vs ds h hs =>
    obtain ⟨its, rv, p, _⟩ := I.tuple h
    cases (show v = Value.ref a from rx)
    have hd' : depDs ds ≤ 20 := by unfold depD at hd; omega
    cases h2 with
    | non => cases (show u = Value.none from ry); exact fin _ (SeqAt.RcAt.tuple_none p hu') (by unfold deqD; rfl)
    | bl b => cases (show u = Value.bool b from ry); exact fin _ (SeqAt.RcAt.tuple_bool b p hu') (by unfold deqD; rfl)
    | int i => obtain ⟨t, e⟩ := (show ∃ t, u = Value.int i t from ry); subst e; exact fin _ (SeqAt.RcAt.tuple_int i t p hu') (by unfold deqD; rfl)
    | str z => obtain ⟨t, e⟩ := (show ∃ t, u = Value.str z t from ry); subst e; exact fin _ (SeqAt.RcAt.tuple_str z t p hu') (by unfold deqD; rfl)
    | @lst a2 vs2 ds2 h' hs' =>
      obtain ⟨its2, rv2, p2, _⟩ := I.list h'
      cases (show u = Value.ref a2 from ry)
      exact fin _ (SeqAt.RcAt.tuple_list p p2.isList hu') (by unfold deqD; rfl)
    | @tup a2 vs2 ds2 h' hs' =>
      obtain ⟨its2, rv2, p2, _⟩ := I.tuple h'
      cases (show u = Value.ref a2 from ry)
      have l1 := rv.length
      have l2 := rv2.length
      have m1 := hs.length
      have m2 := hs'.length
      refine fin _ (SeqAt.RcAt.tuples (A := X.A) (e := fun j => deqD (ds.getD j .non) (ds2.getD j .non)) p p2 hu'
          (eqAt_items rv rv2 hs hs' fun d1 d2 v1 v2 u1 u2 hdd g1 g2 q1 q2 => eqAt_D I 20 X.A.in1 d1 d2 v1 v2 u1 u2 (by omega) hin g1 g2 q1 q2)) ?_
      rw [deqD_tup]
      simp only [List.size_toArray]
      by_cases hz : ds.length = ds2.length
      · rw [deqDs_all _ _ hz, show its.length = ds.length by omega, show its2.length = ds.length by omega, Nat.min_self, beq_self_eq_true, Bool.and_true]
      · rw [deqDs_len _ _ hz, show (its.length == its2.length) = false from beq_eq_false_iff_ne.mpr (by omega), Bool.and_false]
theorem op_neD {k : Nat} (hr : Room k X.A) : OpR X (compareOp .NotEq) (rNeD X.K) := by
  intro pins s σ H x y v u Q I rx ry h
  obtain ⟨d1, d2, h1, h2, hd1, hd, q⟩ := h
  have hr' := hr.units
  have hu' : X.A.units < cLine := by omega
  have hin : X.A.in1.units + 20 < cLine := by rw [in1_units]; omega
  have fin : ∀ b, SeqAt.RcNeAt X.A s v u b → b = (!deqD d1 d2) → wpAny (model X.prog X.w) X.A (compareOp .NotEq v u) (EP X pins σ Q) X.xe s := fun b hb e => by
    subst e
    exact hb X.prog X.w X.xe _ ⟨.bl _, H, I, rfl, q⟩
  cases h1 with
  | non => unfold depD at hd1; omega
  | bl a => unfold depD at hd1; omega
  | int a => unfold depD at hd1; omega
  | str a => unfold depD at hd1; omega
  | @lst a vs ds h hs =>
    obtain ⟨its, rv, p, _⟩ := I.list h
    cases (show v = Value.ref a from rx)
    have hd' : depDs ds ≤ 20 := by unfold depD at hd; omega
    cases h2 with
    | non => cases (show u = Value.none from ry); exact fin _ (SeqAt.RcNeAt.list_none p.isList hu') (by unfold deqD; rfl)
    | bl b => cases (show u = Value.bool b from ry); exact fin _ (SeqAt.RcNeAt.list_bool b p.isList hu') (by unfold deqD; rfl)
    | int i => obtain ⟨t, e⟩ := (show ∃ t, u = Value.int i t from ry); subst e; exact fin _ (SeqAt.RcNeAt.list_int i t p.isList hu') (by unfold deqD; rfl)
    | str z => obtain ⟨t, e⟩ := (show ∃ t, u = Value.str z t from ry); subst e; exact fin _ (SeqAt.RcNeAt.list_str z t p.isList hu') (by unfold deqD; rfl)
    | @tup a2 vs2 ds2 h' hs' =>
      obtain ⟨its2, rv2, p2, _⟩ := I.tuple h'
      cases (show u = Value.ref a2 from ry)
      exact fin _ (SeqAt.RcNeAt.list_tuple p.isList p2 hu') (by unfold deqD; rfl)
    | @lst a2 vs2 ds2 h' hs' =>
      obtain ⟨its2, rv2, p2, _⟩ := I.list h'
      cases (show u = Value.ref a2 from ry)
      have l1 := rv.length
      have l2 := rv2.length
      have m1 := hs.length
      have m2 := hs'.length
      by_cases hz : ds.length = ds2.length
      · refine fin _ (SeqAt.RcNeAt.lists (A := X.A) (e := fun j => deqD (ds.getD j .non) (ds2.getD j .non)) p.isList p2.isList (by simp only [List.size_toArray]; omega) hu'
          (eqAt_items rv rv2 hs hs' fun d1 d2 v1 v2 u1 u2 hdd g1 g2 q1 q2 => eqAt_D I 20 X.A.in1 d1 d2 v1 v2 u1 u2 (by omega) hin g1 g2 q1 q2)) ?_
        rw [deqD_lst, deqDs_all _ _ hz, List.size_toArray, show its.length = ds.length by omega]
      · refine fin _ (SeqAt.RcNeAt.lists_lengths p.isList p2.isList (by simp only [List.size_toArray, bne_iff_ne]; omega) hu') ?_
        unfold deqD
        rw [deqDs_len _ _ hz]
        all_goals rfl
  | @tup a vs ds h hs =>
    obtain ⟨its, rv, p, _⟩ := I.tuple h
    cases (show v = Value.ref a from rx)
    have hd' : depDs ds ≤ 20 := by unfold depD at hd; omega
    cases h2 with
    | non => cases (show u = Value.none from ry); exact fin _ (SeqAt.RcNeAt.tuple_none p hu') (by unfold deqD; rfl)
    | bl b => cases (show u = Value.bool b from ry); exact fin _ (SeqAt.RcNeAt.tuple_bool b p hu') (by unfold deqD; rfl)
    | int i => obtain ⟨t, e⟩ := (show ∃ t, u = Value.int i t from ry); subst e; exact fin _ (SeqAt.RcNeAt.tuple_int i t p hu') (by unfold deqD; rfl)
    | str z => obtain ⟨t, e⟩ := (show ∃ t, u = Value.str z t from ry); subst e; exact fin _ (SeqAt.RcNeAt.tuple_str z t p hu') (by unfold deqD; rfl)
    | @lst a2 vs2 ds2 h' hs' =>
      obtain ⟨its2, rv2, p2, _⟩ := I.list h'
      cases (show u = Value.ref a2 from ry)
      exact fin _ (SeqAt.RcNeAt.tuple_list p p2.isList hu') (by unfold deqD; rfl)
    | @tup a2 vs2 ds2 h' hs' =>
      obtain ⟨its2, rv2, p2, _⟩ := I.tuple h'
      cases (show u = Value.ref a2 from ry)
      have l1 := rv.length
      have l2 := rv2.length
      have m1 := hs.length
      have m2 := hs'.length
      refine fin _ (SeqAt.RcNeAt.tuples (A := X.A) (e := fun j => deqD (ds.getD j .non) (ds2.getD j .non)) p p2 hu'
          (eqAt_items rv rv2 hs hs' fun d1 d2 v1 v2 u1 u2 hdd g1 g2 q1 q2 => eqAt_D I 20 X.A.in1 d1 d2 v1 v2 u1 u2 (by omega) hin g1 g2 q1 q2)) ?_
      rw [deqD_tup]
      simp only [List.size_toArray]
      by_cases hz : ds.length = ds2.length
      · rw [deqDs_all _ _ hz, show its.length = ds.length by omega, show its2.length = ds.length by omega, Nat.min_self, beq_self_eq_true, Bool.and_true]
      · rw [deqDs_len _ _ hz, show (its.length == its2.length) = false from beq_eq_false_iff_ne.mpr (by omega), Bool.and_false]
theorem repsD_ints (K : PySem.W.Frag) (H : Hp) : ∀ ns : List Int, RepsD K H (ns.map V.int) (ns.map DV.int)
  | [] => .nil
  | n :: r => .cons (.int n) (repsD_ints K H r)
theorem deqDs_ints : ∀ xs ys : List Int, deqDs (xs.map DV.int) (ys.map DV.int) = decide (xs = ys)
  | [], [] => by simp [deqDs]
  | [], _ :: _ => by simp [deqDs]
  | _ :: _, [] => by simp [deqDs]
  | x :: xs, y :: ys => by
    simp only [List.map_cons, deqDs, deqD, deqDs_ints xs ys]
    by_cases h : x = y <;> by_cases h2 : xs = ys <;> simp [h, h2]
theorem depDs_ints : ∀ xs : List Int, depDs (xs.map DV.int) = 0
  | [] => by simp [depDs]
  | x :: xs => by simp [depDs, depD, depDs_ints xs]
end
end L2
namespace L2
open PySem PySem.Spec PyProof.Rows
section
variable {X : Cx} {K : PySem.W.Frag} {a b o e : Expr} {ta tb to te : TE} {pos : Pos} {tg : Expr}
theorem ix_listK (hK : X.K = K := by rfl) : IxR X (rIxL K) := hK ▸ ix_list
theorem ix_tupK (hK : X.K = K := by rfl) : IxR X (rIxT K) := hK ▸ ix_tup
theorem sl_listK (hK : X.K = K := by rfl) : SlR X (rSlL K) := hK ▸ sl_list
theorem op_inK (hK : X.K = K := by rfl) : OpR X (compareOp .In) (rIn K false) := hK ▸ op_in_seq
theorem op_eqDK {k : Nat} (hr : Room k X.A) (hK : X.K = K := by rfl) : OpR X (compareOp .Eq) (rEqD K) := hK ▸ op_eqD hr
theorem op_neDK {k : Nat} (hr : Room k X.A) (hK : X.K = K := by rfl) : OpR X (compareOp .NotEq) (rNeD K) := hK ▸ op_neD hr
def rLen (K : PySem.W.Frag) : List V → Hp → VK → Prop := fun xs H Q => ∃ p ys, xs = [.ref p] ∧ (SqL K H p ys ∨ SqT K H p ys) ∧ Q (.int ys.length) H
theorem call_lenK (hK : X.K = K := by rfl) : CallR X (.builtin "len") (rLen K) := hK ▸ call_len_seq
def rSum (K : PySem.W.Frag) : List V → Hp → VK → Prop := fun xs H Q => ∃ (a : Addr) (ns : List Int), xs = [.ref a] ∧ SqL K H a (ns.map V.int) ∧ Q (.int ns.sum) H
theorem call_sumK (hc : X.calm = true) (hK : X.K = K := by rfl) : CallR X (.builtin "sum") (rSum K) := hK ▸ call_sumI hc
def rAny (K : PySem.W.Frag) : List V → Hp → VK → Prop := fun xs H Q => ∃ (a : Addr) (bs : List Bool), xs = [.ref a] ∧ SqL K H a (bs.map V.bl) ∧ Q (.bl (bs.any id)) H
theorem call_anyK (hc : X.calm = true) (hK : X.K = K := by rfl) : CallR X (.builtin "any") (rAny K) := hK ▸ call_anyB hc
def rAll (K : PySem.W.Frag) : List V → Hp → VK → Prop := fun xs H Q => ∃ (a : Addr) (bs : List Bool), xs = [.ref a] ∧ SqL K H a (bs.map V.bl) ∧ Q (.bl (bs.all id)) H
theorem call_allK (hc : X.calm = true) (hK : X.K = K := by rfl) : CallR X (.builtin "all") (rAll K) := hK ▸ call_allB hc
def rListOf (K : PySem.W.Frag) : List V → Hp → VK → Prop := fun xs H Q => ∃ p ys, xs = [.ref p] ∧ (SqL K H p ys ∨ SqT K H p ys) ∧ ∀ l, H l = none → Q (.ref l) (upd H l (.lst ys))
theorem call_listK (hK : X.K = K := by rfl) : CallR X (.type "list") (rListOf K) := hK ▸ call_list_of
def rTupOf (K : PySem.W.Frag) : List V → Hp → VK → Prop := fun xs H Q => ∃ p ys, xs = [.ref p] ∧ ((SqL K H p ys ∧ ∀ l, H l = none → Q (.ref l) (upd H l (.tup ys))) ∨ (SqT K H p ys ∧ Q (.ref p) H))
def rIsT (K : PySem.W.Frag) : List V → Hp → VK → Prop := fun xs H Q => ∃ x n t k, xs = [x, .ty n] ∧ TyOf K H x t ∧ PySem.W.kitOne K t (.type n) = some k ∧ Q (.bl k) H
theorem call_isTK (hK : X.K = K := by rfl) : CallR X (.builtin "isinstance") (rIsT K) := hK ▸ call_isinstT
def rIsC (K : PySem.W.Frag) : List V → Hp → VK → Prop := fun xs H Q => ∃ x C t k, xs = [x, .ref C] ∧ TyOf K H x t ∧ PySem.W.kitOne K t (.ref C) = some k ∧ Q (.bl k) H
theorem call_isCK (hK : X.K = K := by rfl) : CallR X (.builtin "isinstance") (rIsC K) := hK ▸ call_isinstC
def rMax : List V → Hp → VK → Prop := fun xs H Q => ∃ i j, xs = [.int i, .int j] ∧ Q (.int (if j > i then j else i)) H
def rMin : List V → Hp → VK → Prop := fun xs H Q => ∃ i j, xs = [.int i, .int j] ∧ Q (.int (if j < i then j else i)) H
theorem call_minK (hc : X.calm = true) : CallR X (.builtin "min") rMin := call_min2 hc
theorem pi_listK (hl : PE X o to) (hK : X.K = K := by rfl) : PI X tg o (iList K to) := hK ▸ pi_list hl
theorem pi_tupK (hl : PE X o to) (hK : X.K = K := by rfl) : PI X tg o (iTup K to) := hK ▸ pi_tup hl
theorem pg_tupK {es : List Expr} {k : Nat} {t : TGs} {n : Nat} (hc : X.calm = true) (h : PGs X es t) (hn : (assignEach es X.env).length = n := by rfl) (hst : (assignEach es X.env).findIdx? (·.1) = none := by rfl) (hK : X.K = K := by rfl) : PG X (.Tuple es k pos) (gTup K n t) := hK ▸ pg_tup hc h hn hst
theorem pe_fldK {f : Str} (he : PE X e ta) (hb : attributeBase e f X.env (eval e X.env) = eval e X.env) (hK : X.K = K := by rfl) : PE X (.Attribute e f pos) (tFld K ta f) := hK ▸ pe_fld he hb
theorem PE.imp {t t' : TE} (h : PE X e t) (hi : ∀ σ H Q, t' σ H Q → t σ H Q) : PE X e t' := fun pins s σ H Q I hw => h pins s σ H Q I (hi σ H Q hw)
theorem pe_bmK {T : String} {name : Str} {id : String} {r : V → List V → Hp → VK → Prop} {es : List Expr} {t : TA} {apos cpos : Pos} (pa : PlainAttrs T) (slot : Slot T name id) (hty : typeOf (.builtin id) = pure (.type "method_descriptor")) (hm : MtR X id r) (ho : PE X o to) (ha : PA X (e :: es) t)
    (hbase : attributeBase o name X.env (eval o X.env) = eval o X.env := by rfl)
    (hfew : ((backTo cpos (starEach (e :: es) X.env)).all (fun x => !x.1) && (backToKw cpos (keywordEach [] X.env)).all (fun x => x.1.isSome)
      && decide ((e :: es).length + ([] : List Keyword).length + (if ([] : List Keyword).isEmpty then 0 else 1) < 30)) = true := by rfl)
    (hline : (apos.endLine == cpos.line) = true := by rfl) (hs : starEach (e :: es) X.env = (false, eval e X.env) :: starEach es X.env := by rfl) (hplain : (backTo cpos (starEach es X.env)).any (·.1) = false := by rfl) (hK : X.K = K := by rfl) :
    PE X (.Call (.Attribute o name apos) (e :: es) [] cpos) (tBM K T r to t) := hK ▸ pe_bm pa slot hty hm ho ha hbase hfew hline hs hplain
theorem pe_bm0K {T : String} {name : Str} {id : String} {r : V → List V → Hp → VK → Prop} {apos cpos : Pos} (pa : PlainAttrs T) (slot : Slot T name id) (hty : typeOf (.builtin id) = pure (.type "method_descriptor")) (hm : MtR X id r) (ho : PE X o to)
    (hbase : attributeBase o name X.env (eval o X.env) = eval o X.env := by rfl) (hline : (apos.endLine == cpos.line) = true := by rfl) (hK : X.K = K := by rfl) : PE X (.Call (.Attribute o name apos) [] [] cpos) (tBM0 K T r to) := hK ▸ pe_bm0 pa slot hty hm ho hbase hline
end
section
variable {K : PySem.W.Frag} {H : Hp} {Q : VK} {p : Addr} {x y : V}
theorem ap_noIf {σ : St} {QB : Bool → Hp → Prop} : tNoIf σ H QB = QB true H := rfl
theorem ap_rLen : rLen K [.ref p] H Q = ∃ ys, (SqL K H p ys ∨ SqT K H p ys) ∧ Q (.int (ys.length : Int)) H := by simp [rLen]
theorem ap_rSum : rSum K [.ref p] H Q = ∃ ns : List Int, SqL K H p (ns.map V.int) ∧ Q (.int ns.sum) H := by simp [rSum]
theorem ap_rAny : rAny K [.ref p] H Q = ∃ bs : List Bool, SqL K H p (bs.map V.bl) ∧ Q (.bl (bs.any id)) H := by simp [rAny]
theorem ap_rAll : rAll K [.ref p] H Q = ∃ bs : List Bool, SqL K H p (bs.map V.bl) ∧ Q (.bl (bs.all id)) H := by simp [rAll]
theorem ap_rListOf : rListOf K [.ref p] H Q = ∃ ys, (SqL K H p ys ∨ SqT K H p ys) ∧ ∀ l, H l = none → Q (.ref l) (upd H l (.lst ys)) := by simp [rListOf]
theorem ap_rIsT {n : String} : rIsT K [x, .ty n] H Q = ∃ t k, TyOf K H x t ∧ PySem.W.kitOne K t (.type n) = some k ∧ Q (.bl k) H := propext ⟨fun ⟨x', n', t, k, e, h⟩ => by
    injection e with e1 e2
    injection e2 with e2 _
    injection e2 with e2
    subst e1 e2
    exact ⟨t, k, h⟩, fun ⟨t, k, h⟩ => ⟨x, n, t, k, rfl, h⟩⟩
theorem ap_append : rAppend (.ref p) [y] H Q = ∃ xs, H p = some (.lst xs) ∧ xs.length < sizeLine ∧ Q .non (upd H p (.lst (xs ++ [y]))) := by simp [rAppend]
theorem ap_rCat {l b : Addr} : rCat (.ref l) (.ref b) H Q = ∃ xs zs, H l = some (.lst xs) ∧ H b = some (.lst zs) ∧ xs.length + zs.length ≤ sizeLine ∧ ∀ p, H p = none → Q (.ref p) (upd H p (.lst (xs ++ zs))) := by simp [rCat]
theorem ap_rMax {i j : Int} : rMax [.int i, .int j] H Q = Q (.int (if j > i then j else i)) H := propext ⟨fun ⟨i', j', e, h⟩ => by cases e; exact h, fun h => ⟨i, j, rfl, h⟩⟩
theorem ap_rMin {i j : Int} : rMin [.int i, .int j] H Q = Q (.int (if j < i then j else i)) H := propext ⟨fun ⟨i', j', e, h⟩ => by cases e; exact h, fun h => ⟨i, j, rfl, h⟩⟩
end
end L2
namespace L2
open PySem PySem.Spec PyProof.Rows
section
variable {K : PySem.W.Frag} {a : Addr} {xs : List V} {g : TG} {tb : TS} {D : Ends} {σ : St} {H : Hp} {wi : TI} {cap : List (Option Nat)} {tt : TT} {te tl : TE} {Q : VK} {ta : TA} {R : It → Hp → Prop}
def ForP (J : It) (g : TG) (tb : TS) (D : Ends) (σ : St) (H1 : Hp) : Prop := ∃ W : Nat → Nat → St → Hp → Prop, (∃ m, W 0 m σ H1) ∧ ∀ i m σ H, W i m σ H →
  (J.stop i H ∧ D.nx σ H) ∨ (J.go i H ∧ ∃ N : St → Hp → Prop, (∀ σ' H', N σ' H' → ∃ m', m' < m ∧ W (i + 1) m' σ' H') ∧ ∀ x H', J.yld i H x H' → g x σ H' fun σ2 H2 => tb { D with nx := N, ct := N, bk := D.nx } σ2 H2)
theorem ap_for : tFor wi g tb D σ H = wi σ H fun J H1 => ForP J g tb D σ H1 := rfl
theorem ForP.list (Pv : Nat → St → Hp → Prop) (h0 : Pv 0 σ H) (hl : ∀ i σ H, i ≤ xs.length → Pv i σ H → SqL K H a xs)
    (hs : ∀ i x σ H, xs[i]? = some x → Pv i σ H → g x σ H fun σ2 H2 => tb { D with nx := Pv (i + 1), ct := Pv (i + 1), bk := D.nx } σ2 H2) (hd : ∀ σ H, Pv xs.length σ H → D.nx σ H) : ForP (Itl K a) g tb D σ H := for_list Pv h0 hl hs hd
theorem ForP.tup (Pv : Nat → St → Hp → Prop) (h0 : Pv 0 σ H) (hl : ∀ i σ H, i ≤ xs.length → Pv i σ H → SqT K H a xs)
    (hs : ∀ i x σ H, xs[i]? = some x → Pv i σ H → g x σ H fun σ2 H2 => tb { D with nx := Pv (i + 1), ct := Pv (i + 1), bk := D.nx } σ2 H2) (hd : ∀ σ H, Pv xs.length σ H → D.nx σ H) : ForP (Itt K a) g tb D σ H := for_tup Pv h0 hl hs hd
theorem ForP.range {lo : Int} {n : Nat} (Pv : Nat → St → Hp → Prop) (h0 : Pv 0 σ H)
    (hs : ∀ i σ H, i < n → Pv i σ H → g (.int (lo + i)) σ H fun σ2 H2 => tb { D with nx := Pv (i + 1), ct := Pv (i + 1), bk := D.nx } σ2 H2) (hd : ∀ σ H, Pv n σ H → D.nx σ H) : ForP (Itr lo n) g tb D σ H := for_range Pv h0 hs hd
theorem ap_iList : iList K tl σ H R = tl σ H fun x H1 => ∃ a, x = .ref a ∧ (∃ xs, SqL K H1 a xs) ∧ R (Itl K a) H1 := rfl
theorem ap_iTup : iTup K tl σ H R = tl σ H fun x H1 => ∃ a, x = .ref a ∧ (∃ xs, SqT K H1 a xs) ∧ R (Itt K a) H1 := rfl
theorem ap_iRng1 : iRng1 ta σ H R = ta σ H fun vs H1 => ∃ j : Int, vs = [.int j] ∧ -(2 ^ 62) ≤ j ∧ j < 2 ^ 62 ∧ R (Itr 0 j.toNat) H1 := rfl
theorem ap_iRng2 : iRng2 ta σ H R = ta σ H fun vs H1 => ∃ i j : Int, vs = [.int i, .int j] ∧ (-(2 ^ 62) ≤ i ∧ i < 2 ^ 62 ∧ -(2 ^ 62) ≤ j ∧ j < 2 ^ 62) ∧ R (Itr i (j - i).toNat) H1 := rfl
def CompP (cap : List (Option Nat)) (J : It) (g : TG) (tt : TT) (te : TE) (σ : St) (H1 : Hp) (Q : VK) : Prop := ∀ D, H1 D = Option.none →
  ∃ W : Nat → Nat → List V → St → Hp → Prop, (∃ m, W 0 m [] (capSt σ cap) (upd H1 D (.lst []))) ∧ ∀ i m acc σ1 H2, W i m acc σ1 H2 → H2 D = some (.lst acc) →
    (J.stop i H2 ∧ Q (.ref D) H2) ∨ (J.go i H2 ∧ ∀ x H3, J.yld i H2 x H3 → g x σ1 H3 fun σ4 H4 => tt σ4 H4 fun b H5 =>
      if b = true then te σ4 H5 fun v H6 => ∃ acc', H6 D = some (.lst acc') ∧ acc'.length < sizeLine ∧ ∃ m', m' < m ∧ W (i + 1) m' (acc' ++ [v]) σ4 (upd H6 D (.lst (acc' ++ [v])))
      else ∃ m', m' < m ∧ ∃ acc', H5 D = some (.lst acc') ∧ W (i + 1) m' acc' σ4 H5)
theorem ap_comp : tComp cap wi g tt te σ H Q = wi σ H fun J H1 => CompP cap J g tt te σ H1 Q := rfl
theorem CompP.list (Sσ : St → Prop) (p : V → Bool) (F : V → V) (hS : SqL K H a xs) (h0 : Sσ (capSt σ cap)) (hz : xs.length ≤ sizeLine)
    (hs : ∀ x ∈ xs, ∀ (σ : St) (H5 : Hp) (R1 : St → VK) (R2 : St → Hp → Prop), Sσ σ → Same H H5 → (p x = true → ∀ σ4 H6, Sσ σ4 → Same H5 H6 → R1 σ4 (F x) H6) → (p x = false → ∀ σ4 H6, Sσ σ4 → Same H5 H6 → R2 σ4 H6) →
      g x σ H5 fun σ4 H4 => tt σ4 H4 fun b H5 => if b = true then te σ4 H5 (R1 σ4) else R2 σ4 H5)
    (k : ∀ D H', H D = Option.none → Same H H' → H' D = some (.lst ((xs.filter p).map F)) → Q (.ref D) H') : CompP cap (Itl K a) g tt te σ H Q :=
  fun D hD => comp_list Sσ p F hS hD h0 hz hs fun H' s e => k D H' hD s e
theorem CompP.range {lo : Int} {n : Nat} (Sσ : St → Prop) (p : V → Bool) (F : V → V) (h0 : Sσ (capSt σ cap)) (hz : n ≤ sizeLine)
    (hs : ∀ i : Nat, i < n → ∀ (σ : St) (H5 : Hp) (R1 : St → VK) (R2 : St → Hp → Prop), Sσ σ → Same H H5 → (p (.int (lo + i)) = true → ∀ σ4 H6, Sσ σ4 → Same H5 H6 → R1 σ4 (F (.int (lo + i))) H6) → (p (.int (lo + i)) = false → ∀ σ4 H6, Sσ σ4 → Same H5 H6 → R2 σ4 H6) →
      g (.int (lo + i)) σ H5 fun σ4 H4 => tt σ4 H4 fun b H5 => if b = true then te σ4 H5 (R1 σ4) else R2 σ4 H5)
    (k : ∀ D H', H D = Option.none → Same H H' → H' D = some (.lst ((((List.range n).map fun (i : Nat) => V.int (lo + i)).filter p).map F)) → Q (.ref D) H') : CompP cap (Itr lo n) g tt te σ H Q :=
  fun D hD => comp_range Sσ p F hD h0 hz hs fun H' s e => k D H' hD s e
theorem cut_none (xs : List V) (n : Nat) : cutV xs none (some (n : Int)) = xs.take n := by
  unfold cutV
  rw [HT.sIx_none, HT.sIx_nat, List.drop_zero, Nat.sub_zero]
  rcases Nat.le_total n xs.length with h | h
  · rw [Nat.min_eq_left h]
  · rw [Nat.min_eq_right h, List.take_of_length_le h, List.take_of_length_le (Nat.le_refl _)]
end
end L2
namespace L2
open PySem PySem.Spec PyProof.Rows
def MonoE (t : TE) : Prop := ∀ σ H (Q Q' : VK), (∀ v H', Q v H' → Q' v H') → t σ H Q → t σ H Q'
def MonoT (t : TT) : Prop := ∀ σ H (Q Q' : Bool → Hp → Prop), (∀ v H', Q v H' → Q' v H') → t σ H Q → t σ H Q'
def MonoA (t : TA) : Prop := ∀ σ H (Q Q' : List V → Hp → Prop), (∀ v H', Q v H' → Q' v H') → t σ H Q → t σ H Q'
def MonoO (t : TO) : Prop := ∀ σ H (Q Q' : Option Int → Hp → Prop), (∀ v H', Q v H' → Q' v H') → t σ H Q → t σ H Q'
def MonoR (r : R2) : Prop := ∀ x y H (Q Q' : VK), (∀ v H', Q v H' → Q' v H') → r x y H Q → r x y H Q'
def MonoU (r : V → Hp → VK → Prop) : Prop := ∀ x H (Q Q' : VK), (∀ v H', Q v H' → Q' v H') → r x H Q → r x H Q'
def MonoC (r : List V → Hp → VK → Prop) : Prop := ∀ xs H (Q Q' : VK), (∀ v H', Q v H' → Q' v H') → r xs H Q → r xs H Q'
def MonoM (r : V → List V → Hp → VK → Prop) : Prop := ∀ x xs H (Q Q' : VK), (∀ v H', Q v H' → Q' v H') → r x xs H Q → r x xs H Q'
def MonoL (r : V → Option Int → Option Int → Hp → VK → Prop) : Prop := ∀ x l u H (Q Q' : VK), (∀ v H', Q v H' → Q' v H') → r x l u H Q → r x l u H Q'
def MonoG (g : TG) : Prop := ∀ v σ H (Q Q' : St → Hp → Prop), (∀ σ H, Q σ H → Q' σ H) → g v σ H Q → g v σ H Q'
def MonoGs (g : TGs) : Prop := ∀ v σ H (Q Q' : St → Hp → Prop), (∀ σ H, Q σ H → Q' σ H) → g v σ H Q → g v σ H Q'
def MonoI (wi : TI) : Prop := ∀ σ H (R R' : It → Hp → Prop), (∀ J H', R J H' → R' J H') → wi σ H R → wi σ H R'
def MonoP (sp : Sp) : Prop := ∀ vs H (Q Q' : VK) (E : XK), (∀ v H', Q v H' → Q' v H') → sp vs H Q E → sp vs H Q' E
structure LeE (D D' : Ends) : Prop where
  nx : ∀ σ H, D.nx σ H → D'.nx σ H
  rt : ∀ v H, D.rt v H → D'.rt v H
  bk : ∀ σ H, D.bk σ H → D'.bk σ H
  ct : ∀ σ H, D.ct σ H → D'.ct σ H
def MonoS (t : TS) : Prop := ∀ D D' σ H, LeE D D' → t D σ H → t D' σ H
section
variable {t u : TS} {te ta tb tc : TE} {tt tu : TT} {A : TA} {g : TG} {gs : TGs} {r r' : R2} {i n : Nat} {v : V} {K : PySem.W.Frag} {wi : TI}
theorem mn_var : MonoE (tVar i) := fun _ _ _ _ f ⟨v, e, q⟩ => ⟨v, e, f _ _ q⟩
theorem mn_c : MonoE (tC v) := fun _ _ _ _ f q => f _ _ q
theorem mn_op (hr : MonoR r) (ha : MonoE ta) (hb : MonoE tb) : MonoE (tOp r ta tb) := fun σ H _ _ f q => ha σ H _ _ (fun x H1 q1 => hb σ H1 _ _ (fun y H2 q2 => hr x y H2 _ _ f q2) q1) q
theorem mn_un {r : V → Hp → VK → Prop} (hr : MonoU r) (ha : MonoE ta) : MonoE (tUn r ta) := fun σ H _ _ f q => ha σ H _ _ (fun x H1 q1 => hr x H1 _ _ f q1) q
theorem mn_rI {C : Int → Int → Prop} {f : Int → Int → V} : MonoR (rI C f) := fun _ _ _ _ _ k ⟨i, j, e1, e2, c, q⟩ => ⟨i, j, e1, e2, c, k _ _ q⟩
theorem mn_rI0 {f : Int → Int → V} : MonoR (rI0 f) := fun _ _ _ _ _ k ⟨i, j, e1, e2, q⟩ => ⟨i, j, e1, e2, k _ _ q⟩
theorem mn_rU {f : Int → V} : MonoU (rU f) := fun _ _ _ _ k ⟨i, e1, q⟩ => ⟨i, e1, k _ _ q⟩
theorem mn_rEq : MonoR rEq := fun _ _ _ _ _ k ⟨s, q⟩ => ⟨s, k _ _ q⟩
theorem mn_rNe : MonoR rNe := fun _ _ _ _ _ k ⟨s, q⟩ => ⟨s, k _ _ q⟩
theorem mn_rEqD : MonoR (rEqD K) := fun _ _ _ _ _ k ⟨a, b, c, d, e, f, q⟩ => ⟨a, b, c, d, e, f, k _ _ q⟩
theorem mn_rNeD : MonoR (rNeD K) := fun _ _ _ _ _ k ⟨a, b, c, d, e, f, q⟩ => ⟨a, b, c, d, e, f, k _ _ q⟩
theorem mn_ixL : MonoR (rIxL K) := fun _ _ _ _ _ k ⟨p, xs, i, v, a, b, c, d, q⟩ => ⟨p, xs, i, v, a, b, c, d, k _ _ q⟩
theorem mn_ixT : MonoR (rIxT K) := fun _ _ _ _ _ k ⟨p, xs, i, v, a, b, c, d, q⟩ => ⟨p, xs, i, v, a, b, c, d, k _ _ q⟩
theorem mn_in {b : Bool} : MonoR (rIn K b) := fun _ _ _ _ _ k ⟨p, xs, a, b, c, d, q⟩ => ⟨p, xs, a, b, c, d, k _ _ q⟩
theorem mn_isN : MonoR (fun x y H Q => y = V.non ∧ Q (.bl (decide (x = .non))) H) := fun _ _ _ _ _ k ⟨e, q⟩ => ⟨e, k _ _ q⟩
theorem mn_notN : MonoR (fun x y H Q => y = V.non ∧ Q (.bl (!decide (x = .non))) H) := fun _ _ _ _ _ k ⟨e, q⟩ => ⟨e, k _ _ q⟩
theorem mn_cat : MonoR rCat := fun _ _ _ _ _ k ⟨a, b, c, d, e, f, g, h, i, q⟩ => ⟨a, b, c, d, e, f, g, h, i, fun p hp => k _ _ (q p hp)⟩
theorem mn_test (h : MonoE te) : MonoT (tTest te) := fun σ H _ _ f q => h σ H _ _ (fun x H1 ⟨k, e, q1⟩ => ⟨k, e, f _ _ q1⟩) q
theorem mn_tB (h : MonoE te) : MonoT (tB te) := fun σ H _ _ f q => h σ H _ _ (fun x H1 ⟨k, e, q1⟩ => ⟨k, e, f _ _ q1⟩) q
theorem mn_not (h : MonoT tt) : MonoT (tNot tt) := fun σ H _ _ f q => h σ H _ _ (fun c H1 q1 => f _ _ q1) q
theorem mn_and (h : MonoT tt) (h2 : MonoT tu) : MonoT (tAnd tt tu) := fun σ H _ _ f q => h σ H _ _ (fun c H1 q1 => by
  cases c with
  | true => exact h2 σ H1 _ _ f q1
  | false => exact f _ _ q1) q
theorem mn_or (h : MonoT tt) (h2 : MonoT tu) : MonoT (tOr tt tu) := fun σ H _ _ f q => h σ H _ _ (fun c H1 q1 => by
  cases c with
  | true => exact f _ _ q1
  | false => exact h2 σ H1 _ _ f q1) q
theorem mn_nil : MonoA tNil := fun _ _ _ _ f q => f _ _ q
theorem mn_cons (h : MonoE ta) (h2 : MonoA A) : MonoA (tCons ta A) := fun σ H _ _ f q => h σ H _ _ (fun x H1 q1 => h2 σ H1 _ _ (fun xs H2 q2 => f _ _ q2) q1) q
theorem mn_cb {r : List V → Hp → VK → Prop} (hr : MonoC r) (h : MonoA A) : MonoE (tCB r A) := fun σ H _ _ f q => h σ H _ _ (fun x H1 q1 => hr _ _ _ _ f q1) q
theorem mn_call {sp : Sp} {dvs : List V} {E : XK} (hr : MonoP sp) (h : MonoA A) : MonoE (tCall sp dvs E A) := fun σ H _ _ f q => h σ H _ _ (fun x H1 q1 => hr _ _ _ _ _ f q1) q
theorem mn_lst (h : MonoA A) : MonoE (tLst A) := fun σ H _ _ f q => h σ H _ _ (fun x H1 ⟨z, q1⟩ => ⟨z, fun p hp => f _ _ (q1 p hp)⟩) q
theorem mn_tup (h : MonoA A) : MonoE (tTup A) := fun σ H _ _ f q => h σ H _ _ (fun x H1 ⟨z, q1⟩ => ⟨z, fun p hp => f _ _ (q1 p hp)⟩) q
theorem mn_len : MonoC (rLen K) := fun _ _ _ _ k ⟨p, ys, a, b, q⟩ => ⟨p, ys, a, b, k _ _ q⟩
theorem mn_sum : MonoC (rSum K) := fun _ _ _ _ k ⟨p, ys, a, b, q⟩ => ⟨p, ys, a, b, k _ _ q⟩
theorem mn_any : MonoC (rAny K) := fun _ _ _ _ k ⟨p, ys, a, b, q⟩ => ⟨p, ys, a, b, k _ _ q⟩
theorem mn_all : MonoC (rAll K) := fun _ _ _ _ k ⟨p, ys, a, b, q⟩ => ⟨p, ys, a, b, k _ _ q⟩
theorem mn_max : MonoC rMax := fun _ _ _ _ k ⟨p, ys, a, q⟩ => ⟨p, ys, a, k _ _ q⟩
theorem mn_min : MonoC rMin := fun _ _ _ _ k ⟨p, ys, a, q⟩ => ⟨p, ys, a, k _ _ q⟩
theorem mn_listOf : MonoC (rListOf K) := fun _ _ _ _ k ⟨p, ys, a, b, q⟩ => ⟨p, ys, a, b, fun l hl => k _ _ (q l hl)⟩
theorem mn_isT : MonoC (rIsT K) := fun _ _ _ _ k ⟨x, n, t, kk, a, b, c, q⟩ => ⟨x, n, t, kk, a, b, c, k _ _ q⟩
theorem mn_isC : MonoC (rIsC K) := fun _ _ _ _ k ⟨x, n, t, kk, a, b, c, q⟩ => ⟨x, n, t, kk, a, b, c, k _ _ q⟩
theorem mn_noPart : MonoO tNoPart := fun _ _ _ _ f q => f _ _ q
theorem mn_part (h : MonoE te) : MonoO (tPart te) := fun σ H _ _ f q => h σ H _ _ (fun x H1 ⟨i, e, q1⟩ => ⟨i, e, f _ _ q1⟩) q
theorem mn_sl {r : V → Option Int → Option Int → Hp → VK → Prop} {tl th : TO} (hr : MonoL r) (h : MonoE te) (hl : MonoO tl) (hh : MonoO th) : MonoE (tSl r te tl th) := fun σ H _ _ f q =>
  h σ H _ _ (fun x H1 q1 => hl σ H1 _ _ (fun l H2 q2 => hh σ H2 _ _ (fun u H3 q3 => hr _ _ _ _ _ _ f q3) q2) q1) q
theorem mn_slL : MonoL (rSlL K) := fun _ _ _ _ _ _ k ⟨a, xs, e, h, q⟩ => ⟨a, xs, e, h, fun p hp => k _ _ (q p hp)⟩
theorem mn_bm {T : String} {r : V → List V → Hp → VK → Prop} (hr : MonoM r) (h : MonoE te) (hA : MonoA A) : MonoE (tBM K T r te A) := fun σ H _ _ f q => h σ H _ _ (fun x H1 ⟨ty, q1⟩ => ⟨ty, hA σ H1 _ _ (fun xs H2 q2 => hr _ _ _ _ _ f q2) q1⟩) q
theorem mn_bm0 {T : String} {r : V → List V → Hp → VK → Prop} (hr : MonoM r) (h : MonoE te) : MonoE (tBM0 K T r te) := fun σ H _ _ f q => h σ H _ _ (fun x H1 ⟨ty, q1⟩ => ⟨ty, hr _ _ _ _ _ f q1⟩) q
theorem mn_append : MonoM rAppend := fun _ _ _ _ _ k ⟨l, xs, y, a, b, c, d, q⟩ => ⟨l, xs, y, a, b, c, d, k _ _ q⟩
theorem mn_chain (h1 : MonoR r) (h2 : MonoR r') (ha : MonoE ta) (hb : MonoE tb) (hc : MonoE tc) : MonoE (tChain r r' ta tb tc) := fun σ H _ _ f q =>
  ha σ H _ _ (fun x H1 q1 => hb σ H1 _ _ (fun y H2 q2 => h1 x y H2 _ _ (fun z H3 ⟨k, e, q3⟩ => ⟨k, e, by
    cases k with
    | true => exact hc σ H3 _ _ (fun w' H4 q4 => h2 y w' H4 _ _ f q4) q3
    | false => exact f _ _ q3⟩) q2) q1) q
theorem mn_andV (ha : MonoE ta) (hb : MonoE tb) : MonoE (tAndV ta tb) := fun σ H _ _ f q => ha σ H _ _ (fun x H1 ⟨c, e, q1⟩ => ⟨c, e, by
  cases c with
  | true => exact hb σ H1 _ _ f q1
  | false => exact f _ _ q1⟩) q
theorem mn_orV (ha : MonoE ta) (hb : MonoE tb) : MonoE (tOrV ta tb) := fun σ H _ _ f q => ha σ H _ _ (fun x H1 ⟨c, e, q1⟩ => ⟨c, e, by
  cases c with
  | true => exact f _ _ q1
  | false => exact hb σ H1 _ _ f q1⟩) q
theorem mn_notV (ha : MonoE ta) : MonoE (tNotV ta) := fun σ H _ _ f q => ha σ H _ _ (fun x H1 ⟨c, e, q1⟩ => ⟨c, e, f _ _ q1⟩) q
theorem mn_ifE (h : MonoT tt) (ha : MonoE ta) (hb : MonoE tb) : MonoE (tIf tt ta tb) := fun σ H _ _ f q => h σ H _ _ (fun c H1 q1 => by
  cases c with
  | true => exact ha σ H1 _ _ f q1
  | false => exact hb σ H1 _ _ f q1) q
theorem mn_name : MonoG (gName i) := fun _ _ _ _ _ f q => f _ _ q
theorem mn_gNil : MonoGs gNil := fun _ _ _ _ _ f ⟨e, q⟩ => ⟨e, f _ _ q⟩
theorem mn_gCons (h : MonoG g) (h2 : MonoGs gs) : MonoGs (gCons g gs) := fun _ σ H _ _ f ⟨v, r, e, q⟩ => ⟨v, r, e, h _ _ _ _ _ (fun σ1 H1 q1 => h2 _ _ _ _ _ f q1) q⟩
theorem mn_gLst (h : MonoGs gs) : MonoG (gLst K n gs) := fun _ _ _ _ _ f ⟨a, xs, e, s, l, q⟩ => ⟨a, xs, e, s, l, h _ _ _ _ _ f q⟩
theorem mn_gTup (h : MonoGs gs) : MonoG (gTup K n gs) := fun _ _ _ _ _ f ⟨a, xs, e, s, l, q⟩ => ⟨a, xs, e, s, l, h _ _ _ _ _ f q⟩
theorem mn_next : MonoS tNext := fun _ _ _ _ f q => f.nx _ _ q
theorem mn_nxE : MonoS Ends.nx := fun _ _ _ _ f q => f.nx _ _ q
theorem mn_never : MonoS tNever := fun _ _ _ _ _ q => q
theorem mn_break : MonoS tBreak := fun _ _ _ _ f q => f.bk _ _ q
theorem mn_cont : MonoS tCont := fun _ _ _ _ f q => f.ct _ _ q
theorem mn_ret (h : MonoE te) : MonoS (tRet te) := fun _ _ σ H f q => h σ H _ _ f.rt q
theorem mn_retN : MonoS tRetN := fun _ _ _ _ f q => f.rt _ _ q
theorem mn_drop (h : MonoE te) : MonoS (tDrop te) := fun _ _ σ H f q => h σ H _ _ (fun _ H1 q1 => f.nx _ _ q1) q
theorem mn_asg (h : MonoE te) (hg : MonoG g) : MonoS (tAsg te g) := fun _ _ σ H f q => h σ H _ _ (fun x H1 q1 => hg _ _ _ _ _ f.nx q1) q
theorem mn_seq (h : MonoS t) (h2 : MonoS u) : MonoS (tSeq t u) := fun D D' σ H f q => h { D with nx := u D } { D' with nx := u D' } σ H ⟨fun σ1 H1 q1 => h2 D D' σ1 H1 f q1, f.rt, f.bk, f.ct⟩ q
theorem mn_if (h : MonoT tt) (ht : MonoS t) (hu : MonoS u) : MonoS (tIfS tt t u) := fun _ _ σ H f q => h σ H _ _ (fun c H1 q1 => by
  cases c with
  | true => exact ht _ _ σ H1 f q1
  | false => exact hu _ _ σ H1 f q1) q
theorem seq_join {D : Ends} {σ : St} {H : Hp} (P : St → Hp → Prop) (m : MonoS t) (h : t { D with nx := P } σ H) (k : ∀ σ' H', P σ' H' → u D σ' H') : tSeq t u D σ H :=
  m { D with nx := P } { D with nx := u D } σ H ⟨k, fun _ _ q => q, fun _ _ q => q, fun _ _ q => q⟩ h
end
end L2
namespace L2
open PySem PySem.Spec PyProof.Rows
section
variable {X : Cx} {pins : List (Addr × Obj)} {σ : St} {H : Hp} {s : Shared} {h' : Heap}
theorem Inv.turnedN {t' : Nat} {fp : List Addr} (I : Inv X pins σ H s) (hf : ∀ b ∈ fp, FpOk X pins H b) (k : ∀ b o, b ∉ fp → s.heap.get? b = some o → h'.get? b = some o) : Inv X pins σ H { s with heap := h', toks := t' } := by
  have nit : ∀ b u, H b = some u → b ∉ fp := fun b u e z => by rw [(hf b z).1] at e; cases e
  refine I.step (g' := s.gens) (d' := s.drawn) (ch := fp) (fun b hb => ⟨(hf b hb).2.2.2.1, (hf b hb).2.1, (hf b hb).2.2.2.2.1, (hf b hb).2.2.2.2.2⟩) (fun b o _ _ hc e _ => k b o hc e) (fun b o _ _ hc e _ => ⟨o.slots, k b o hc e⟩) (fun _ _ _ _ n => n)
    (fun b o hc e => ⟨o, k b o hc e⟩) (fun _ _ e => e) (fun _ _ _ e => e) (fun b ps e => ⟨#[], by rw [e]; simp⟩) (fun m hm => ?_) (fun b u e => ?_) I.bare
  · obtain ⟨o, es, ep, ho, r⟩ := hm
    exact ⟨o, es, ep, k _ o (fun z => (hf _ z).2.1 rfl) ho, r⟩
  · refine (I.hok b u e).stay (fun c v hc q => k c v ?_ q) (fun _ q => q) fun _ _ q => q
    rcases hc with z | z
    · rw [z]; exact nit b u e
    · exact nit c _ z
theorem Inv.turnedT {t' : Nat} {fp : List Addr} {T : Addr} {o : HO} (I : Inv X pins σ H s) (hf : ∀ b ∈ fp, FpOk X pins H b) (hT : s.heap.objs.size ≤ T) (k : ∀ b o, b ∉ fp → s.heap.get? b = some o → h'.get? b = some o)
    (new : ObjOk X.prog X.w (upd H T o) h' T o) : Inv X pins σ (upd H T o) { s with heap := h', toks := t' } := by
  have nit : ∀ b u, H b = some u → b ∉ fp := fun b u e z => by rw [(hf b z).1] at e; cases e
  have hn : H T = none := I.hok.fresh hT
  refine I.step (g' := s.gens) (d' := s.drawn) (ch := fp) (fun b hb => ⟨(hf b hb).2.2.2.1, (hf b hb).2.1, (hf b hb).2.2.2.2.1, (hf b hb).2.2.2.2.2⟩) (fun b o _ _ hc e _ => k b o hc e) (fun b o _ _ hc e _ => ⟨o.slots, k b o hc e⟩)
    (fun b o _ e n => by rw [upd_ne (Nat.ne_of_lt (Nat.lt_of_lt_of_le (Heap.lt_size e) hT))]; exact n)
    (fun b o hc e => ⟨o, k b o hc e⟩) (fun b xs e => by rw [upd_ne (ne_of_none e hn)]; exact e) (fun b o xs e => by rw [upd_ne (ne_of_none e hn)]; exact e) (fun b ps e => ⟨#[], by rw [upd_ne (ne_of_none e hn), e]; simp⟩) (fun m hm => ?_) (fun b u e => ?_) I.bare
  · obtain ⟨o, es, ep, ho, r⟩ := hm
    exact ⟨o, es, ep, k _ o (fun z => (hf _ z).2.1 rfl) ho, r⟩
  · by_cases hb : b = T
    · subst hb; rw [upd_same] at e; cases e; exact new
    · rw [upd_ne hb] at e
      refine (I.hok b u e).stay (fun c v hc q => k c v ?_ q) (fun c q => by rw [upd_ne (ne_of_none q hn)]; exact q) fun c xs q => by rw [upd_ne (ne_of_none q hn)]; exact q
      rcases hc with z | z
      · rw [z]; exact nit b u e
      · exact nit c _ z
end
theorem ne_cls {h : Heap} {a b : Addr} {oa ob : Obj} {ca cb : Value} (ha : h.get? a = some oa) (hb : h.get? b = some ob) (ea : oa.cls = ca) (eb : ob.cls = cb) (hc : ca ≠ cb) : a ≠ b := by
  intro e; subst e; rw [ha] at hb; cases hb; exact hc (ea.symm.trans eb)
def Itz (K : PySem.W.Frag) (a b : Addr) : It :=
  ⟨fun i H => ∃ xs ys x y, SqL K H a xs ∧ SqL K H b ys ∧ xs[i]? = some x ∧ ys[i]? = some y,
   fun i H v H' => ∃ p x y, H p = none ∧ v = .ref p ∧ H' = upd H p (.tup [x, y]) ∧ (∀ xs, SqL K H a xs → xs[i]? = some x) ∧ ∀ ys, SqL K H b ys → ys[i]? = some y,
   fun i H => ∃ xs ys, SqL K H a xs ∧ SqL K H b ys ∧ (xs.length ≤ i ∨ ys.length ≤ i)⟩
theorem zipApart_of {h : Heap} {z TI TO i1 i2 a b : Addr} {f0 u v : Value} {xs ys : Array Value} {j1 j2 : Nat} (hTT : TI ≠ TO) (h12 : i1 ≠ i2) (hz : IsZip h z TI TO f0) (hTI : IsPair h TI (.ref i1) (.ref i2)) (hTO : IsPair h TO u v)
    (h1 : h.IsListIter i1 a j1) (h2 : h.IsListIter i2 b j2) (p1 : h.IsList a xs) (p2 : h.IsList b ys) : ZipApart z TI TO i1 i2 a b := by
  obtain ⟨o1, e1, c1, _⟩ := h1
  obtain ⟨o2, e2, c2, _⟩ := h2
  obtain ⟨l1, f1, d1, _⟩ := p1
  obtain ⟨l2, f2, d2, _⟩ := p2
  exact ⟨ne_cls hTI hz rfl rfl (by simp), ne_cls hTO hz rfl rfl (by simp), ne_cls e1 hz c1 rfl (by simp), ne_cls e2 hz c2 rfl (by simp), hTT, ne_cls hTI e1 rfl c1 (by simp), ne_cls hTI e2 rfl c2 (by simp), ne_cls hTO e1 rfl c1 (by simp), ne_cls hTO e2 rfl c2 (by simp), h12,
    ne_cls f1 hz d1 rfl (by simp), ne_cls f1 hTO d1 rfl (by simp), ne_cls f1 e1 d1 c1 (by simp), ne_cls f1 e2 d1 c2 (by simp), ne_cls f2 hz d2 rfl (by simp), ne_cls f2 hTO d2 rfl (by simp), ne_cls f2 e1 d2 c1 (by simp), ne_cls f2 e2 d2 c2 (by simp)⟩
theorem turn_zip {P : Program} {w : World} {K : PySem.W.Frag} {elts : List Expr} {x1 : Nat} {pos : Pos} (a b z TI TO i1 i2 : Addr) (hTT : TI ≠ TO) (h12 : i1 ≠ i2) :
    Turn P w K (.Tuple elts x1 pos) (Itz K a b) [z, TI, TO, i1, i2] z (fun i h => IsZip h z TI TO .none ∧ IsPair h TI (.ref i1) (.ref i2) ∧ (∃ u v, IsPair h TO u v) ∧ h.IsListIter i1 a i ∧ h.IsListIter i2 b i) where
  mem := by simp
  obj := fun i h st c hb => by
    obtain ⟨hz, hTI, ⟨u, v, hTO⟩, ⟨o1, e1, c1, d1⟩, ⟨o2, e2, c2, d2⟩⟩ := st
    simp only [List.mem_cons, List.not_mem_nil, or_false] at hb
    rcases hb with rfl | rfl | rfl | rfl | rfl
    · exact ⟨_, hz, fun v z => by cases z⟩
    · exact ⟨_, hTI, fun v z => by cases z⟩
    · exact ⟨_, hTO, fun v z => by cases z⟩
    · exact ⟨_, e1, fun v z => by rw [d1] at z; cases z⟩
    · exact ⟨_, e2, fun v z => by rw [d2] at z; cases z⟩
  keep := fun i h h' st k => by
    obtain ⟨hz, hTI, ⟨u, v, hTO⟩, h1, h2⟩ := st
    exact ⟨k _ (by simp) _ hz, k _ (by simp) _ hTI, ⟨u, v, k _ (by simp) _ hTO⟩, h1.at fun o e => k _ (by simp) o e, h2.at fun o e => k _ (by simp) o e⟩
  item := by
    intro X hP hw hK hc i pins s σ H E I hf st hg
    subst hP hw hK
    obtain ⟨xs, ys, x, y, hq1, hq2, hx, hy⟩ := hg
    obtain ⟨its1, rv1, p1, _⟩ := I.list hq1
    obtain ⟨its2, rv2, p2, _⟩ := I.list hq2
    obtain ⟨u1, hu1, ru1⟩ := rv1.get hx
    obtain ⟨u2, hu2, ru2⟩ := rv2.get hy
    obtain ⟨hz, hTI, ⟨ua, ub, hTO⟩, h1, h2⟩ := st
    have D := zipApart_of hTT h12 hz hTI hTO h1 h2 p1.isList p2.isList
    refine wpAny_pyNext_zip_item D hz hTI hTO h1 h2 p1.isList p2.isList (x := u1) (y := u2) (by simpa using hu1) (by simpa using hu2) fun h' a1 a2 a3 a4 a5 a6 a7 => ?_
    refine ⟨_, rfl, wpAny_letOwnedTupleGo_zip (s := { s with heap := h' }) a1 fun h'' b1 b2 => ?_⟩
    have nz : s.heap.objs.size ≠ z := Nat.ne_of_gt (Heap.lt_size hz)
    have k : ∀ c o, c ∉ [z, TI, TO, i1, i2] → s.heap.get? c = some o → h''.get? c = some o := fun c o hc e => by
      simp only [List.mem_cons, List.not_mem_nil, or_false, not_or] at hc
      exact (b2.2 c hc.1).trans (a7 c o hc.1 hc.2.2.1 hc.2.2.2.1 hc.2.2.2.2 e)
    have hTup : h''.get? s.heap.objs.size = some { cls := .type "tuple", data := .seq #[u1, u2] } := (b2.2 _ nz).trans a5
    refine ⟨.ref s.heap.objs.size, upd H s.heap.objs.size (.tup [x, y]), I.turnedT (t' := s.toks) hf (Nat.le_refl _) k ⟨by rw [sizeLine_eq]; simp, [u1, u2], .cons ru1 (.cons ru2 .nil), _, hTup, rfl, _, rfl⟩, rfl,
      ⟨_, x, y, I.hok.fresh (Nat.le_refl _), rfl, rfl, fun xs' q => by rw [I.list_inj q hq1]; exact hx, fun ys' q => by rw [I.list_inj q hq2]; exact hy⟩, ?_, fun c hb => ?_⟩
    · exact ⟨b1, (b2.2 _ D.TIz).trans (a7 _ _ D.TIz D.TITO D.TIi1 D.TIi2 hTI), ⟨_, _, (b2.2 _ D.TOz).trans a2⟩, a3.at fun o e => (b2.2 _ D.i1z).trans e, a4.at fun o e => (b2.2 _ D.i2z).trans e⟩
    · obtain ⟨o, e⟩ : ∃ o, s.heap.get? c = some o := by
        simp only [List.mem_cons, List.not_mem_nil, or_false] at hb
        rcases hb with rfl | rfl | rfl | rfl | rfl
        · exact ⟨_, hz⟩
        · exact ⟨_, hTI⟩
        · exact ⟨_, hTO⟩
        · obtain ⟨o, e, _⟩ := h1; exact ⟨o, e⟩
        · obtain ⟨o, e, _⟩ := h2; exact ⟨o, e⟩
      rw [upd_ne (Nat.ne_of_lt (Heap.lt_size e))]
      exact (hf c hb).1
  done := by
    intro X hP hw hK hc i pins s σ H E I hf st hg
    subst hP hw hK
    obtain ⟨xs, ys, hq1, hq2, hx⟩ := hg
    obtain ⟨its1, rv1, p1, _⟩ := I.list hq1
    obtain ⟨its2, rv2, p2, _⟩ := I.list hq2
    obtain ⟨hz, hTI, ⟨ua, ub, hTO⟩, h1, h2⟩ := st
    have D := zipApart_of hTT h12 hz hTI hTO h1 h2 p1.isList p2.isList
    have l1 := rv1.length
    have l2 := rv2.length
    refine wpAny_pyNext_zip_end (I.ok.hd hc) D hz hTI hTO h1 h2 p1.isList p2.isList (hx.elim (fun h => .inl (by simp; omega)) fun h => .inr (by simp; omega)) fun h' k => ⟨rfl, I.turnedN (t' := s.toks) hf fun c o hc e => ?_⟩
    simp only [List.mem_cons, List.not_mem_nil, or_false, not_or] at hc
    exact k c o hc.1 hc.2.2.1 hc.2.2.2.1 hc.2.2.2.2 e
  self := fun _ _ _ _ _ st h => wpAny_pyIter_zip st.1 h
def Ite (K : PySem.W.Frag) (a : Addr) : It :=
  ⟨fun i H => ∃ xs x, SqL K H a xs ∧ xs[i]? = some x,
   fun i H v H' => ∃ p x, H p = none ∧ v = .ref p ∧ H' = upd H p (.tup [.int i, x]) ∧ ∀ xs, SqL K H a xs → xs[i]? = some x,
   fun i H => ∃ xs, SqL K H a xs ∧ xs.length ≤ i⟩
theorem turn_enum {P : Program} {w : World} {K : PySem.W.Frag} {elts : List Expr} {x1 : Nat} {pos : Pos} (a e it : Addr) (hei : e ≠ it) :
    Turn P w K (.Tuple elts x1 pos) (Ite K a) [e, it] e (fun i h => (∃ old, IsEnum h e it i old) ∧ h.IsListIter it a i) where
  mem := by simp
  obj := fun i h st c hb => by
    obtain ⟨⟨old, he⟩, ⟨o1, e1, c1, d1⟩⟩ := st
    simp only [List.mem_cons, List.not_mem_nil, or_false] at hb
    rcases hb with rfl | rfl
    · exact ⟨_, he, fun v z => by cases z⟩
    · exact ⟨_, e1, fun v z => by rw [d1] at z; cases z⟩
  keep := fun i h h' st k => by
    obtain ⟨⟨old, he⟩, h1⟩ := st
    exact ⟨⟨old, k _ (by simp) _ he⟩, h1.at fun o e => k _ (by simp) o e⟩
  item := by
    intro X hP hw hK hc i pins s σ H E I hf st hg
    subst hP hw hK
    obtain ⟨xs, x, hq1, hx⟩ := hg
    obtain ⟨its1, rv1, p1, _⟩ := I.list hq1
    obtain ⟨u1, hu1, ru1⟩ := rv1.get hx
    obtain ⟨⟨old, he⟩, h1⟩ := st
    refine wpAny_pyNext_enum_item he h1 p1.isList (x := u1) (by simpa using hu1) hei fun h' a1 a2 a3 a4 a5 => ?_
    refine ⟨_, rfl, wpAny_letOwnedTupleGo_enum (s := { s with heap := h', toks := s.toks + 1 }) a1 fun h'' b1 b2 => ?_⟩
    have ne : s.heap.objs.size ≠ e := Nat.ne_of_gt (Heap.lt_size he)
    have k : ∀ c o, c ∉ [e, it] → s.heap.get? c = some o → h''.get? c = some o := fun c o hc q => by
      simp only [List.mem_cons, List.not_mem_nil, or_false, not_or] at hc
      exact (b2.2 c hc.1).trans (a5 c o hc.1 hc.2 q)
    have hTup : h''.get? s.heap.objs.size = some { cls := .type "tuple", data := .seq #[.int i s.toks, u1] } := (b2.2 _ ne).trans a3
    refine ⟨.ref s.heap.objs.size, upd H s.heap.objs.size (.tup [.int i, x]), I.turnedT (t' := s.toks + 1) hf (Nat.le_refl _) k ⟨by rw [sizeLine_eq]; simp, [.int i s.toks, u1], .cons ⟨_, rfl⟩ (.cons ru1 .nil), _, hTup, rfl, _, rfl⟩, rfl,
      ⟨_, x, I.hok.fresh (Nat.le_refl _), rfl, rfl, fun xs' q => by rw [I.list_inj q hq1]; exact hx⟩, ⟨⟨u1, by simpa using b1⟩, a2.at fun o q => (b2.2 _ (Ne.symm hei)).trans q⟩, fun c hb => ?_⟩
    obtain ⟨o, q⟩ : ∃ o, s.heap.get? c = some o := by
      simp only [List.mem_cons, List.not_mem_nil, or_false] at hb
      rcases hb with rfl | rfl
      · exact ⟨_, he⟩
      · obtain ⟨o, q, _⟩ := h1; exact ⟨o, q⟩
    rw [upd_ne (Nat.ne_of_lt (Heap.lt_size q))]
    exact (hf c hb).1
  done := by
    intro X hP hw hK hc i pins s σ H E I hf st hg
    subst hP hw hK
    obtain ⟨xs, hq1, hx⟩ := hg
    obtain ⟨its1, rv1, p1, _⟩ := I.list hq1
    obtain ⟨⟨old, he⟩, h1⟩ := st
    have l1 := rv1.length
    refine wpAny_pyNext_enum_end (I.ok.hd hc) he h1 p1.isList (by simp; omega) fun h' k => ⟨rfl, I.turnedN (t' := s.toks) hf fun c o hc q => ?_⟩
    simp only [List.mem_cons, List.not_mem_nil, or_false, not_or] at hc
    exact k c o hc.2 q
  self := fun _ _ _ _ _ st h => by
    obtain ⟨⟨old, he⟩, _⟩ := st
    exact wpAny_pyIter_enum he h
section
variable {X : Cx} {K : PySem.W.Frag} {ta : TA} {elts : List Expr} {x1 : Nat} {tpos : Pos}
def iZip (K : PySem.W.Frag) (ta : TA) : TI := fun σ H R => ta σ H fun vs H1 => ∃ a b, vs = [.ref a, .ref b] ∧ (∃ xs, SqL K H1 a xs) ∧ (∃ ys, SqL K H1 b ys) ∧ R (Itz K a b) H1
def iEnum (K : PySem.W.Frag) (ta : TA) : TI := fun σ H R => ta σ H fun vs H1 => ∃ a, vs = [.ref a] ∧ (∃ xs, SqL K H1 a xs) ∧ R (Ite K a) H1
theorem pi_zip {a b : Expr} {p pos : Pos} (hg : Gl X "zip") (hm : X.mg "zip" = none) (ha : PA X [a, b] ta) (hs : starEach [a, b] X.env = [(false, eval a X.env), (false, eval b X.env)] := by rfl) (hs2 : starEach [b] X.env = [(false, eval b X.env)] := by rfl) (hK : X.K = K := by rfl) :
    PI X (.Tuple elts x1 tpos) (.Call (.Name "zip" p) [a, b] [] pos) (iZip K ta) := by
  subst hK
  intro pins s σ H R I h
  refine Call_ (ld_blt I hg hm (by decide +kernel) (PyProof.Rows.callWith_type1 (T := "zip") (thn (ha pos pins s σ H _ I h) fun us s1 ⟨vs, H1, I1, r1, q1⟩ => ?_) (by rw [hs, hs2]) (by rw [hs2]; rfl)))
  obtain ⟨l1, l2, e, ⟨xs, hx⟩, ⟨ys, hy⟩, q⟩ := q1
  subst e
  obtain ⟨u, v, rfl, ru, rv⟩ := vals2 r1
  cases ru
  cases rv
  obtain ⟨its1, _, p1, _⟩ := I1.list hx
  obtain ⟨its2, _, p2, _⟩ := I1.list hy
  refine call_zip_2 p1.isList p2.isList fun h' g1 g2 g3 g4 g5 g6 k => ?_
  have I2 : Inv X pins σ H1 { s1 with heap := h' } := I1.kept (t' := s1.toks) k
  refine wpAny_pyIter_zip (s := { s1 with heap := h' }) g1 ⟨_, [s1.heap.objs.size + 4, s1.heap.objs.size + 2, s1.heap.objs.size + 3, s1.heap.objs.size, s1.heap.objs.size + 1], _, _, H1, rfl, I2, turn_zip l1 l2 _ _ _ _ _ (show ((s1.heap.objs.size : Nat) + 2 ≠ s1.heap.objs.size + 3) by omega) (show ((s1.heap.objs.size : Nat) ≠ s1.heap.objs.size + 1) by omega), ⟨g1, g2, ⟨_, _, g3⟩, g4, g5⟩, fun c hc => ?_, q⟩
  have hc' : s1.heap.objs.size ≤ c := by
    simp only [List.mem_cons, List.not_mem_nil, or_false] at hc
    have hc2 : ∃ k : Nat, c = s1.heap.objs.size + k := by
      rcases hc with rfl | rfl | rfl | rfl | rfl
      · exact ⟨4, rfl⟩
      · exact ⟨2, rfl⟩
      · exact ⟨3, rfl⟩
      · exact ⟨0, rfl⟩
      · exact ⟨1, rfl⟩
    obtain ⟨k, rfl⟩ := hc2
    exact Nat.le_add_right _ k
  exact I1.fpOk hc' (I1.hok.fresh hc')
theorem pi_enum {a : Expr} {p pos : Pos} (hg : Gl X "enumerate") (hm : X.mg "enumerate" = none) (ha : PA X [a] ta) (hs : starEach [a] X.env = [(false, eval a X.env)] := by rfl) (hK : X.K = K := by rfl) :
    PI X (.Tuple elts x1 tpos) (.Call (.Name "enumerate" p) [a] [] pos) (iEnum K ta) := by
  subst hK
  intro pins s σ H R I h
  refine Call_ (ld_blt I hg hm (by decide +kernel) (PyProof.Rows.callWith_type1 (T := "enumerate") (thn (ha pos pins s σ H _ I h) fun us s1 ⟨vs, H1, I1, r1, q1⟩ => ?_) (by rw [hs]; rfl) rfl))
  obtain ⟨l1, e, ⟨xs, hx⟩, q⟩ := q1
  subst e
  obtain ⟨u, rfl, ru⟩ := vals1 r1
  cases ru
  obtain ⟨its1, _, p1, _⟩ := I1.list hx
  refine call_enumerate_list p1.isList fun h' g1 g2 g3 k => ?_
  have I2 : Inv X pins σ H1 { s1 with heap := h' } := I1.kept (t' := s1.toks) k
  refine wpAny_pyIter_enum (s := { s1 with heap := h' }) g1 ⟨_, [s1.heap.objs.size + 1, s1.heap.objs.size], _, _, H1, rfl, I2, turn_enum l1 _ _ (show ((s1.heap.objs.size : Nat) + 1 ≠ s1.heap.objs.size) by omega), ⟨⟨_, g1⟩, g2⟩, fun c hc => ?_, q⟩
  have hc' : s1.heap.objs.size ≤ c := by
    simp only [List.mem_cons, List.not_mem_nil, or_false] at hc
    have hc2 : ∃ k : Nat, c = s1.heap.objs.size + k := by
      rcases hc with rfl | rfl
      · exact ⟨1, rfl⟩
      · exact ⟨0, rfl⟩
    obtain ⟨k, rfl⟩ := hc2
    exact Nat.le_add_right _ k
  exact I1.fpOk hc' (I1.hok.fresh hc')
variable {σ : St} {H : Hp} {R : It → Hp → Prop} {g : TG} {tb : TS} {D : Ends} {a b : Addr} {xs ys : List V}
theorem ap_iZip : iZip K ta σ H R = ta σ H fun vs H1 => ∃ a b, vs = [.ref a, .ref b] ∧ (∃ xs, SqL K H1 a xs) ∧ (∃ ys, SqL K H1 b ys) ∧ R (Itz K a b) H1 := rfl
theorem ap_iEnum : iEnum K ta σ H R = ta σ H fun vs H1 => ∃ a, vs = [.ref a] ∧ (∃ xs, SqL K H1 a xs) ∧ R (Ite K a) H1 := rfl
theorem ForP.zip (Pv : Nat → St → Hp → Prop) (hlen : xs.length = ys.length) (h0 : Pv 0 σ H) (hl : ∀ i σ H, i ≤ xs.length → Pv i σ H → SqL K H a xs ∧ SqL K H b ys)
    (hs : ∀ i x y σ H p, xs[i]? = some x → ys[i]? = some y → Pv i σ H → H p = none → g (.ref p) σ (upd H p (.tup [x, y])) fun σ2 H2 => tb { D with nx := Pv (i + 1), ct := Pv (i + 1), bk := D.nx } σ2 H2) (hd : ∀ σ H, Pv xs.length σ H → D.nx σ H) : ForP (Itz K a b) g tb D σ H := by
  refine ⟨fun i m σ H => m = xs.length - i ∧ i ≤ xs.length ∧ Pv i σ H, ⟨xs.length, by simp, Nat.zero_le _, h0⟩, ?_⟩
  rintro i m σ H ⟨rfl, hi, p⟩
  obtain ⟨q1, q2⟩ := hl i σ H hi p
  by_cases hlt : i < xs.length
  · refine .inr ⟨⟨xs, ys, xs[i], ys[i], q1, q2, by simp [hlt], by simp [hlen ▸ hlt]⟩, Pv (i + 1), fun σ' H' p' => ⟨xs.length - (i + 1), by omega, rfl, hlt, p'⟩, fun v H' y => ?_⟩
    obtain ⟨pp, x, y, hp, rfl, rfl, e1, e2⟩ := y
    exact hs i x y σ _ pp (e1 xs q1) (e2 ys q2) p hp
  · have e : i = xs.length := by omega
    subst e
    exact .inl ⟨⟨xs, ys, q1, q2, .inl (Nat.le_refl _)⟩, hd σ H p⟩
end
end L2
namespace L2
open PySem PySem.Spec PyProof.Rows
def DK (h h' : Heap) : Prop := ∀ b o, h.get? b = some o → ∃ o', h'.get? b = some o' ∧ o'.dict = o.dict
theorem DK.refl {h : Heap} : DK h h := fun b o e => ⟨o, e, rfl⟩
theorem DK.trans {h h1 h2 : Heap} (a : DK h h1) (b : DK h1 h2) : DK h h2 := fun c o e => by
  obtain ⟨o1, e1, d1⟩ := a c o e
  obtain ⟨o2, e2, d2⟩ := b c o1 e1
  exact ⟨o2, e2, d2.trans d1⟩
structure KD {α : Type} (t : Sem α) : Prop where
  out : ∀ (M : Model) (Γ : PySem.Ctx) (P : α → Pos → Shared → Prop) (E : Value → Pos → Shared → Prop) (p : Pos) (s : Shared), Sem.wp M Γ t P E p s → Sem.wp M Γ t (fun a p' s' => P a p' s' ∧ DK s.heap s'.heap) E p s
theorem KD.bind {α β : Type} {m : Sem α} {f : α → Sem β} (h : KD m) (k : ∀ a, KD (f a)) : KD (m >>= f) := ⟨fun M Γ P E p s hw => by
  have hw : Sem.wp M Γ (m.bind f) P E p s := hw
  show Sem.wp M Γ (m.bind f) _ E p s
  rw [Sem.wp_bind] at hw ⊢
  refine Sem.wp_mono M Γ m (fun a p1 s1 h1 => ?_) (fun _ _ _ z => z) p s (h.out M Γ _ E p s hw)
  exact Sem.wp_mono M Γ (f a) (fun b p2 s2 h2 => ⟨h2.1, h1.2.trans h2.2⟩) (fun _ _ _ z => z) p1 s1 ((k a).out M Γ P E p1 s1 h1.1)⟩
theorem KD.pure {α : Type} (a : α) : KD (Pure.pure a : Sem α) := ⟨fun M Γ P E p s h => ⟨h, DK.refl⟩⟩
theorem KD.uns {α : Type} (w : String) : KD (unsupported w : Sem α) := ⟨fun M Γ P E p s h => h⟩
theorem KD.load (a : Addr) : KD (load a) := ⟨fun M Γ P E p s ⟨o, e, h⟩ => ⟨o, e, h, DK.refl⟩⟩
theorem KD.stack : KD PySem.stack := ⟨fun M Γ P E p s h => ⟨h, DK.refl⟩⟩
theorem KD.alloc (o : Obj) : KD (alloc o) := ⟨fun M Γ P E p s h => ⟨h, fun b o' e => ⟨o', Heap.get?_push_of_some o e, rfl⟩⟩⟩
theorem get_nf {h : Heap} {a : Addr} {o : Obj} (e : h.get? a = some o) : o.isFreed = false := by
  unfold Heap.get? at e
  split at e
  · cases e
  · rename_i hn
    obtain ⟨c, dd, da, sl⟩ := o
    cases da <;> first | rfl | exact (hn _ _ _ e).elim
theorem KD.update (a : Addr) (f : Obj → Obj) (hf : ∀ o, o.isFreed = false → (f o).isFreed = false ∧ (f o).dict = o.dict) : KD (update a f) := ⟨fun M Γ P E p s ⟨e, h⟩ => ⟨e, h, fun b o eb => by
  by_cases hb : b = a
  · subst hb
    obtain ⟨f1, f2⟩ := hf o (get_nf eb)
    exact ⟨f o, Heap.get?_update_self f eb f1, f2⟩
  · exact ⟨o, Heap.get?_update_of_ne f (Ne.symm hb) eb, rfl⟩⟩⟩
theorem wpAny_kd {α : Type} {M : Model} {A : Around} {t : Sem α} {Q : α → Shared → Prop} {E : Value → Shared → Prop} {s : Shared} (k : KD t) (h : wpAny M A t Q E s) : wpAny M A t (fun a s' => Q a s' ∧ DK s.heap s'.heap) E s := fun Γ p hA => k.out M Γ _ _ p s (h Γ p hA)
theorem KD.fieldsOf (v : Value) : KD (fieldsOf v) := by
  unfold PySem.fieldsOf
  split
  · refine (KD.load _).bind fun o => ?_
    split
    · exact .pure _
    · exact .uns _
  · exact .uns _
theorem KD.field (v : Value) (i : Nat) : KD (field v i) := by
  unfold PySem.field
  refine (KD.fieldsOf v).bind fun o => ?_
  split
  · exact .pure _
  · exact .uns _
theorem KD.updateField (a : Addr) (i : Nat) (v : Value) : KD (updateField a i v) := by
  unfold PySem.updateField
  refine (KD.load _).bind fun o => ?_
  split
  · split
    · refine KD.update _ _ fun o h => ?_
      unfold Obj.mapFields
      split
      · exact ⟨rfl, rfl⟩
      · exact ⟨h, rfl⟩
    · exact .uns _
  · exact .uns _
theorem KD.setField (v : Value) (i : Nat) (x : Value) : KD (setField v i x) := by
  unfold PySem.setField
  split
  · exact KD.updateField _ _ _
  · exact .uns _
theorem KD.setFlight (e : Value) (f : Option Addr) : KD (setFlight e f) := by
  unfold PySem.setFlight
  refine (KD.field _ _).bind fun tb => ?_
  split
  · exact KD.setField _ _ _
  · exact .pure _
theorem KD.readyFrames : ∀ l, KD (readyFrames l)
  | [] => by rw [readyFrames.eq_1]; exact .pure _
  | env :: l => by
    rw [readyFrames.eq_2]
    split
    · refine (KD.load _).bind fun o => ?_
      split
      · exact .pure _
      · refine KD.bind ?_ fun im => KD.bind ?_ fun bk => KD.bind (KD.update _ _ fun o h => ⟨by obtain ⟨c, dd, da, sl⟩ := o; cases da <;> first | rfl | exact h, rfl⟩) fun _ => KD.readyFrames l
        · unfold behindIsImport
          split
          · exact .pure _
          · split
            · exact .pure _
            · exact (KD.field _ _).bind fun _ => .pure _
        · unfold keptBack
          split
          · split
            · exact .pure _
            · refine KD.bind ?_ fun _ => .pure _
              unfold underTheClaimsCaller
              exact KD.stack.bind fun _ => .pure _
          · exact .pure _
    · exact .uns _
theorem KD.frameOf (env : Env) : KD (frameOf env) := by
  unfold PySem.frameOf
  refine KD.bind ?_ fun l => KD.bind ?_ fun f => ?_
  · unfold frameEnvs
    exact KD.stack.bind fun _ => .pure _
  · unfold frameObject
    split
    · exact .pure _
    · exact (KD.readyFrames _).bind fun _ => .pure _
  · split
    · exact .pure _
    · exact .uns _
theorem KD.entryPlaceOf (f : Addr) (b : Bool) : KD (entryPlaceOf f b) := by
  unfold PySem.entryPlaceOf
  refine KD.stack.bind fun acts => ?_
  split <;> exact .pure _
theorem KD.newRec (ty : String) (vs : Array Value) : KD (newObj (.type ty) (.fields vs)) := by
  have h : KD (newObjAsIs (.type ty) (.fields vs)) := (KD.alloc _).bind fun _ => .pure _
  unfold newObj
  dsimp only
  split
  · exact KD.bind (.uns _) fun _ => h
  · exact h
theorem KD.newEntry (a b c d e : Value) (l : List Value) : KD (EntryCells.newEntry a b c d e l) := by
  unfold EntryCells.newEntry newFields
  exact KD.newRec _ _
theorem KD.noteFrame (e : Value) (env : Env) : KD (noteFrame e env) := by
  unfold PySem.noteFrame
  split
  · refine (KD.field _ _).bind fun head => ?_
    have jp : ∀ f, KD (do
      let a ← PySem.frameOf env
      let pl ← PySem.entryPlaceOf f (head != Value.none)
      let b ← EntryCells.newEntry head a Value.none (rawInt f) Value.none pl
      PySem.setField e 1 b) := fun f => (KD.frameOf env).bind fun _ => (KD.entryPlaceOf _ _).bind fun _ => (KD.newEntry _ _ _ _ _ _).bind fun _ => KD.setField _ _ _
    dsimp only
    split
    · refine (KD.field _ _).bind fun x => ?_
      split
      · exact .pure _
      · exact (KD.setField _ _ _).bind fun _ => jp _
    · exact jp _
  · exact .uns _
theorem KD.leaving (env : Env) (e : Value) : KD (leaving env e) := by
  unfold PySem.leaving
  exact (KD.noteFrame _ _).bind fun _ => KD.setFlight _ _
def DictIs (h : Heap) (e : Addr) (dd : Option Addr) : Prop := ∃ o, h.get? e = some o ∧ o.dict = dd
theorem DictIs.dk {h h' : Heap} {e : Addr} {dd : Option Addr} (x : DictIs h e dd) (k : DK h h') : DictIs h' e dd := by
  obtain ⟨o, e1, e2⟩ := x
  obtain ⟨o', e3, e4⟩ := k e o e1
  exact ⟨o', e3, e4.trans e2⟩
end L2
namespace L2
open PySem PySem.Spec PyProof.Rows
theorem ObjOk.there {P : Program} {w : World} {H : Hp} {h : Heap} {a : Addr} {o : HO} (x : ObjOk P w H h a o) : ∃ u, h.get? a = some u := by
  induction o with
  | lst xs => obtain ⟨z, its, n, r, e⟩ := x; exact ⟨_, e⟩
  | tup xs => obtain ⟨z, its, r, ob, e, c⟩ := x; exact ⟨_, e⟩
  | dK kvs => obtain ⟨z, y, vs, r, ob, es, ep, e, c⟩ := x; exact ⟨_, e⟩
  | dT kvs => obtain ⟨z, y, xs, r, ob, es, ep, e, c⟩ := x; exact ⟨_, e⟩
  | set S n => obtain ⟨ob, es, ep, t, e, c⟩ := x; exact ⟨_, e⟩
  | ins C dx fs => obtain ⟨d, z, ne, e, mA, _⟩ := x; exact ⟨_, e⟩
  | own y => exact x
  | xd fs => obtain ⟨mA, ⟨od, es, ep, e, c⟩, r⟩ := x; exact ⟨_, e⟩
  | rng lo hi => obtain ⟨t, u, v, e⟩ := x; exact ⟨_, e⟩
  | frz ob u ih => obtain ⟨e, q⟩ := x; exact ⟨_, e⟩
  | tbl ps => exact ⟨_, (show h.get? a = some _ from x)⟩
  | met f y => exact ⟨_, (show h.get? a = some _ from x)⟩
  | ext φ => obtain ⟨p, e, st⟩ := x; exact e
def CX1 (P : Program) (w : World) : CXT := fun outer H s E e s' => ∃ (ea C : Addr) (a0 : Value) (H' : Hp) (B : Heap) (dd : Option Addr), e = .ref ea ∧ s'.os = s.os ∧ AllBare s'.gens ∧ Un (frs outer) [] H H' s.heap s'.heap ∧ HOk P w H' B ∧
  Heap.FlyingW B outer ea (.ref C) a0 s'.heap ∧ (∀ b o, s.heap.get? b = some o → H b = none → b ∉ frs outer → B.get? b = some o) ∧ (∀ b o, s.heap.get? b = some o → b ∉ frs outer → ∃ o', B.get? b = some o') ∧ H' ea = none ∧ DictIs s'.heap ea dd ∧ E (.ref C) dd H'
theorem pass1 {P : Program} {w : World} {X : Cx} : Passes (CX1 P w) X E0 := fun _ _ _ _ _ _ _ ⟨_, _, _, _, _, _, _, _, _, _, _, _, _, _, _, _, h⟩ => h.elim
section
variable {P : Program} {w : World} {K : PySem.W.Frag} {mg : Str → Option Value} {base : Heap} {N : List Str} {qual : Str} {scope : Scope} {f : Addr} {cd : Value} {A : Around} {outer : List Env} {s₀ : Shared} {H₀ : Hp} {E : XK}
theorem raise_core {pins : List (Addr × Obj)} {σ : St} {H : Hp} {s : Shared} {e C : Addr} {oe : Obj} {vs : Array Value} {a0 : Value} (I : Inv (cxOf (CX1 P w) P w K mg base N qual scope f cd A outer s₀ H₀ E) pins σ H s) (he : s.heap.get? e = some oe) (hcl : oe.cls = .ref C) (hda : oe.data = .fields vs) (h1 : vs[1]? = some .none) (h0 : vs[0]? = some a0)
    (hH : H e = none) (hs0 : s₀.heap.get? e = none) (hE : E (.ref C) oe.dict H) : (cxOf (CX1 P w) P w K mg base N qual scope f cd A outer s₀ H₀ E).xe (.ref e) s := by
  have hstk : (cxOf (CX1 P w) P w K mg base N qual scope f cd A outer s₀ H₀ E).stack = envOfC qual scope s₀.heap.objs.size f cd :: outer := rfl
  have fr := I.ok.frames
  have nfr : ∀ b o, s₀.heap.get? b = some o → b ∉ frs outer → b ∉ frs (envOfC qual scope s₀.heap.objs.size f cd :: outer) := fun b o q n hb => by
    rcases List.mem_cons.mp (I.stkSub b hb) with z | z
    · exact absurd (Heap.lt_size q) (by rw [z]; exact Nat.lt_irrefl _)
    · exact n z
  have hin : ∀ env ∈ (envOfC qual scope s₀.heap.objs.size f cd :: outer), ∀ b, env.frame = some b → b ∈ e :: frs (envOfC qual scope s₀.heap.objs.size f cd :: outer) := fun env he b hb => List.mem_cons_of_mem _ (List.mem_filterMap.mpr ⟨env, he, hb⟩)
  have stk : s.heap.FunFrames (PySem.W.hideAll s.heap (e :: frs (envOfC qual scope s₀.heap.objs.size f cd :: outer))) (envOfC qual scope s₀.heap.objs.size f cd :: outer) := PySem.W.funFrames_hide I.stack hin
  have hB : ∀ b o, s.heap.get? b = some o → b ≠ e → b ∉ frs (envOfC qual scope s₀.heap.objs.size f cd :: outer) → (PySem.W.hideAll s.heap (e :: frs (envOfC qual scope s₀.heap.objs.size f cd :: outer))).get? b = some o := fun b o q ne n => PySem.W.hideAll_get _ q fun z => (List.mem_cons.mp z).elim ne n
  have hBe : (PySem.W.hideAll s.heap (e :: frs (envOfC qual scope s₀.heap.objs.size f cd :: outer))).get? e = none := PySem.W.hideAll_none _ List.mem_cons_self
  refine wpAny_mono (wpAny_kd (KD.leaving _ _) (wpAny_leaving_firstW (base := PySem.W.hideAll s.heap (e :: frs (envOfC qual scope s₀.heap.objs.size f cd :: outer))) (Q := fun _ s2 => ∃ h2, s2 = { s with heap := h2 } ∧ Heap.LeftW (PySem.W.hideAll s.heap (e :: frs (envOfC qual scope s₀.heap.objs.size f cd :: outer))) (envOfC qual scope s₀.heap.objs.size f cd :: outer) e oe.cls a0 s.heap h2) fr stk rfl he (fun b o q => PySem.W.of_hideAll _ q) hBe hda h1 h0 fun h2 lw => ⟨h2, rfl, lw⟩)) (fun _ s2 z => ?_) (fun _ _ z => z)
  obtain ⟨⟨h2, rfl, st, ff, tr, ups⟩, dk⟩ := z
  rw [hcl] at tr
  have ne0 : ∀ b o, s₀.heap.get? b = some o → b ≠ e := fun b o q z => by rw [z, hs0] at q; cases q
  have k1 : ∀ b o, s₀.heap.get? b = some o → H₀ b = none → b ∉ frs outer → (PySem.W.hideAll s.heap (e :: frs (envOfC qual scope s₀.heap.objs.size f cd :: outer))).get? b = some o := fun b o q n hb => hB b o (I.base.keep b o q n hb (by simp [cxOf])) (ne0 b o q) (nfr b o q hb)
  have k2 : ∀ b o, s₀.heap.get? b = some o → b ∉ frs outer → ∃ o', (PySem.W.hideAll s.heap (e :: frs (envOfC qual scope s₀.heap.objs.size f cd :: outer))).get? b = some o' := fun b o q hb => by
    obtain ⟨o', q'⟩ := I.base.there b o q (by simp [cxOf])
    exact ⟨o', hB b o' q' (ne0 b o q) (nfr b o q hb)⟩
  have k3 : ∀ b o, s₀.heap.get? b = some o → b ∈ frs outer → ∃ o1, s.heap.get? b = some o1 ∧ (H₀ b = none → ∃ sl, o1 = { o with slots := sl }) ∧ ∃ sl, h2.get? b = some { o1 with slots := sl } := fun b o q hb => by
    obtain ⟨o1, q1⟩ := I.base.there b o q (by simp [cxOf])
    have hm : b ∈ frs (envOfC qual scope s₀.heap.objs.size f cd :: outer) := by
      obtain ⟨env, he, hf⟩ := List.mem_filterMap.mp hb
      exact List.mem_filterMap.mpr ⟨env, List.mem_cons_of_mem _ he, hf⟩
    obtain ⟨_, o2, q2, nd⟩ := stk.mem hm
    rw [q1] at q2; cases q2
    refine ⟨o1, q1, fun n => ?_, ups b o1 q1 nd⟩
    obtain ⟨sl, q3⟩ := I.base.slot b o q n hb (by simp [cxOf])
    rw [q1] at q3
    exact ⟨sl, Option.some.inj q3⟩
  have fo : h2.FunFrames (PySem.W.hideAll s.heap (e :: frs (envOfC qual scope s₀.heap.objs.size f cd :: outer))) outer := ff.2.2
  refine ⟨e, C, a0, H, _, oe.dict, rfl, I.os, I.bare, ⟨fun b o q n hb _ => st b o (k1 b o q n hb), fun b o q n hb _ => ?_, fun b o q n _ => I.base.free b o q n (by simp [cxOf]), fun b o q _ => ?_, I.base.tups, I.base.frzs, I.base.tbls⟩, fun a o q => ?_, ⟨st, hBe, fo, tr⟩, k1, k2, hH, DictIs.dk ⟨oe, he, rfl⟩ dk, hE⟩
  · obtain ⟨o1, _, e1, sl, e2⟩ := k3 b o q hb
    obtain ⟨sl1, rfl⟩ := e1 n
    exact ⟨sl, e2⟩
  · by_cases hb : b ∈ frs outer
    · obtain ⟨o1, _, _, sl, e2⟩ := k3 b o q hb
      exact ⟨_, e2⟩
    · obtain ⟨o', q'⟩ := k2 b o q hb
      exact ⟨o', st b o' q'⟩
  · have nf : ∀ b u, H b = some u → b ∉ frs (envOfC qual scope s₀.heap.objs.size f cd :: outer) := fun b u z hb => by
      have := I.stkFree b hb
      rw [this] at z; cases z
    have nn : ∀ b u, H b = some u → b ≠ e := fun b u z hb => by rw [hb, hH] at z; cases z
    refine (I.hok a o q).stay (fun b u hb z => ?_) (fun _ z => z) fun _ _ z => z
    rcases hb with z1 | z1
    · subst z1; exact hB b u z (nn b o q) (nf b o q)
    · exact hB b u z (nn b _ z1) (nf b _ z1)
theorem passes_cx : Passes (CX1 P w) (cxOf (CX1 P w) P w K mg base N qual scope f cd A outer s₀ H₀ E) E := by
  intro pins σ H s e s' I h
  obtain ⟨ea, C, a0, H', B, dd, rfl, os, bare, un, hok, fl, k1, k2, hn, hdd, hE⟩ := h
  have hstk : (cxOf (CX1 P w) P w K mg base N qual scope f cd A outer s₀ H₀ E).stack = envOfC qual scope s₀.heap.objs.size f cd :: outer := rfl
  rw [hstk] at un fl k1 k2
  have nfr : ∀ b o, s₀.heap.get? b = some o → b ∉ frs outer → b ∉ frs (envOfC qual scope s₀.heap.objs.size f cd :: outer) := fun b o q n hb => by
    rcases List.mem_cons.mp (I.stkSub b hb) with z | z
    · exact absurd (Heap.lt_size q) (by rw [z]; exact Nat.lt_irrefl _)
    · exact n z
  refine wpAny_mono (wpAny_kd (KD.leaving _ _) (wpAny_leaves_onW (Q := fun _ s2 => ∃ h2, s2 = { s' with heap := h2 } ∧ Heap.FlyingW B outer ea (.ref C) a0 h2 ∧ Heap.UpToSlots s'.heap h2) I.ok.frames rfl fl fun h2 fl2 ups => ⟨h2, rfl, fl2, ups⟩)) (fun _ s2 z => ?_) (fun _ _ z => z)
  obtain ⟨⟨h2, rfl, fl2, ups⟩, dk⟩ := z
  have st : ∀ b o, B.get? b = some o → h2.get? b = some o := fl2.1
  have q1 : ∀ b o, s₀.heap.get? b = some o → H₀ b = none → b ∉ frs outer → B.get? b = some o := fun b o q n hb => k1 b o (I.base.keep b o q n hb (by simp [cxOf])) (I.base.free b o q n (by simp [cxOf])) (nfr b o q hb)
  have q2 : ∀ b o, s₀.heap.get? b = some o → b ∉ frs outer → ∃ o', B.get? b = some o' := fun b o q hb => by
    obtain ⟨o', q'⟩ := I.base.there b o q (by simp [cxOf])
    exact k2 b o' q' (nfr b o q hb)
  have q3 : ∀ b o, s₀.heap.get? b = some o → b ∈ frs outer → ∃ o1, s'.heap.get? b = some o1 ∧ (H₀ b = none → ∃ sl, o1 = { o with slots := sl }) ∧ ∃ sl, h2.get? b = some { o1 with slots := sl } := fun b o q hb => by
    have hm : b ∈ frs (envOfC qual scope s₀.heap.objs.size f cd :: outer) := by
      obtain ⟨env, he, hf⟩ := List.mem_filterMap.mp hb
      exact List.mem_filterMap.mpr ⟨env, List.mem_cons_of_mem _ he, hf⟩
    obtain ⟨_, o1, z1, nd⟩ := fl.2.2.1.mem hm
    refine ⟨o1, z1, fun n => ?_, ups b o1 z1 nd⟩
    obtain ⟨sl, y1⟩ := I.base.slot b o q n hb (by simp [cxOf])
    obtain ⟨sl2, y2⟩ := un.slot b _ y1 (I.base.free b o q n (by simp [cxOf])) hm (by simp)
    rw [z1] at y2
    exact ⟨sl2, Option.some.inj y2⟩
  refine ⟨ea, C, a0, H', B, dd, rfl, os.trans I.os, bare, ⟨fun b o q n hb _ => st b o (q1 b o q n hb), fun b o q n hb _ => ?_, fun b o q n _ => ?_, fun b o q _ => ?_, fun b xs z => un.tups b xs (I.base.tups b xs z), fun b o xs z => un.frzs b o xs (I.base.frzs b o xs z), fun b ps z => ?_⟩, hok, fl2, q1, q2, hn, hdd.dk dk, hE⟩
  · obtain ⟨o1, _, e1, sl, e2⟩ := q3 b o q hb
    obtain ⟨sl1, rfl⟩ := e1 n
    exact ⟨sl, e2⟩
  · obtain ⟨o', q'⟩ := I.base.there b o q (by simp [cxOf])
    exact un.free b o' q' (I.base.free b o q n (by simp [cxOf])) (by simp)
  · by_cases hb : b ∈ frs outer
    · obtain ⟨o1, _, _, sl, e2⟩ := q3 b o q hb
      exact ⟨_, e2⟩
    · obtain ⟨o', q'⟩ := q2 b o q hb
      exact ⟨o', st b o' q'⟩
  · obtain ⟨m1, e1⟩ := I.base.tbls b ps z
    obtain ⟨m2, e2⟩ := un.tbls b _ e1
    exact ⟨m1 ++ m2, by rw [e2, Array.append_assoc]⟩
end
end L2
namespace L2
open PySem PySem.Spec PyProof.Rows
structure XCls (K : PySem.W.Frag) (C : Addr) : Prop where
  ex : PySem.W.excIn K C [.type "ValueError", .type "Exception", .type "BaseException", .type "object"] "ValueError.__new__" = true
theorem XCls.obj {K : PySem.W.Frag} {C : Addr} {h : Heap} (c : XCls K C) (X : K.In h) : ∃ bm N nm qn bs hdc sn sub ab col dd k0 k1 k2 k3 k5 mN, h.get? C = some (excClassObj nm qn C N bs bm hdc sn sub ab col dd k0 k1 k2 k3 k5 "ValueError.__new__") ∧ h.Ns N mN ∧ mN "__init__" = none ∧
    OwnTail h [.type "ValueError", .type "Exception", .type "BaseException", .type "object"] bm := by
  have z := c.ex
  unfold PySem.W.excIn at z
  split at z
  · rename_i dd cd sl hlook
    split at z
    · rename_i C2 tl k0 k1 k2 k3 nn k5 hmro hsl
      simp only [Bool.and_eq_true, beq_iff_eq, Bool.not_eq_true'] at z
      obtain ⟨⟨⟨⟨⟨e1, e2⟩, e3⟩, e4⟩, e5⟩, e6⟩ := z
      subst e1 e2
      obtain ⟨nm, bs, mro, ns, qn, hdc, sn, sub, ab, col, del⟩ := cd
      dsimp only at hmro e3 e5 e6
      subst hmro e3
      obtain ⟨lst⟩ := sl
      dsimp only at hsl
      subst hsl
      exact ⟨tl, ns, nm, qn, bs, hdc, sn, sub, ab, col, dd, k0, k1, k2, k3, k5, _, X _ _ hlook, .of_isNs (PySem.W.isNs_of_in X e5), PySem.W.nsMap_none_of_in X e5 e6, PySem.W.tail_of_in X e4⟩
    · cases z
  · cases z
def tRaise (C : Addr) (E : XK) (t : TA) : TS := fun _ σ H => t σ H fun vs H1 => vs.length ≤ sizeLine ∧ E (.ref C) none H1
section
variable {X : Cx} {x : Str} {C : Addr} {E : XK} {e : Expr} {es : List Expr} {t : TA} {np cpos pos : Pos}
theorem PS.nox {st : Stmt} {t : TS} (h : PS X.nox st t) : PS X st t := fun pins s σ H D I hw =>
  wpAny_mono (h pins s σ H D (I.wish _) hw) (fun _ _ q => q.unwish) fun _ _ z => False.elim z
theorem PA.nox {es : List Expr} {t : TA} (h : PA X.nox es t) : PA X es t := fun pos pins s σ H Q I hw =>
  wpAny_mono (h pos pins s σ H Q (I.wish _) hw) (fun _ _ ⟨v, H', I', r, q⟩ => ⟨v, H', I'.unwish, r, q⟩) fun _ _ z => False.elim z
theorem Fun.okX {P : Program} {w : World} {K : PySem.W.Frag} {mg : Str → Option Value} {base : Heap} {x qual : Str} {st : Stmt} {f : Addr} {fd : FuncData} {N ps : List Str} {k : Nat} {sp : Sp} (F : Fun K x qual st f fd) (S : FnScope N ps (defScope st)) (len : ∀ vs H Q E, sp vs H Q E → vs.length = ps.length)
    (hbody : ∀ (cdv : Value) (A : Around) (outer : List Env) (s : Shared) (H : Hp) (vs : List V) (Q : VK) (E : XK), Room k (A.deeper (envOfC qual (defScope st) s.heap.objs.size f cdv)) → sp vs H Q E →
      ∃ t, PSs (cxOf (CX1 P w) P w K mg base N qual (defScope st) f cdv A outer s H E) (defBody st) t ∧ t { nx := fun _ H' => Q .non H', rt := Q } (start N vs) H) : FnOk P w K mg base (CX1 P w) (k + 1) f fd ps sp := by
  obtain ⟨oc, od, kV, doc, pm, an, cdv, ct, osl, rfl, lk, hcd⟩ := F.ex
  exact fn_of lk hcd S len fun A outer s H vs Q E hr hsp => hbody cdv A outer s H vs Q E hr hsp
theorem FnOk.calm {P : Program} {w : World} {K : PySem.W.Frag} {mg : Str → Option Value} {base : Heap} {k : Nat} {f : Addr} {fd : FuncData} {ps : List Str} {sp : Sp} (F : FnOk P w K mg base CX0 k f fd ps sp) : FnOk P w K mg base (CX1 P w) k f fd ps sp :=
  ⟨F.len, fun A outer s H args us vs Q E hr e0 hb hv hs => codeAny_mono (F.run A outer s H args us vs Q E hr e0 hb hv hs) fun r s' h => by
    cases r with
    | error e => exact False.elim h
    | ok fl => cases fl <;> exact h⟩
end
end L2
namespace L2
open PySem PySem.Spec PyProof.Rows
section
variable {prog : Program} {w : World} {A : Around} {E : Value → Shared → Prop} {h : Heap} {g : Array GenState} {d : Drawn} {t : Nat} {os : OsState} {a : Addr} {o : Obj}
  {nm q : Str} {C N : Addr} {bs bm : List Value} {hdct : Bool} {sn : List Str} {sub : List Value} {ab : Bool} {col : Option Bool} {dd : Option Addr} {k0 k1 k2 k3 k5 : Option Value} {newId : String} {K : PySem.W.Frag}
theorem xc_get {R : Result → Shared → Prop} (hC : h.get? C = some (excClassObj nm q C N bs bm hdct sn sub ab col dd k0 k1 k2 k3 k5 newId)) (hob : bm.contains (.type "object") = true)
    (hx : h.get? a = some o) (hc : o.cls = .ref C) (hq : R (.ok (.ret (.ref C))) ⟨h, g, d, t, os⟩) :
    codeAny (model prog w) A (.call (.builtin "getset_descriptor.__get__") ⟨[.builtin "object.__class__", .ref a, .ref C], []⟩) R ⟨h, g, d, t, os⟩ := by
  have hT5 : (⟨h, g, d, t, os⟩ : Shared).TypeIs (.builtin "object.__class__") "getset_descriptor" := F.typeOf_object_class
  have hcB : (Value.ref C :: bm).contains (.type (".".intercalate ("object.__class__".cutAt '.').dropLast)) = true := by
    rw [show (".".intercalate ("object.__class__".cutAt '.').dropLast) = "object" by decide +kernel, List.contains_cons, hob, Bool.or_true]
  refine codeAny_call_builtin F.slot_gs_get.plain F.entry_gs_get (F.slot_gs_get.check _ _ _ _ _ _ _ _ hT5 (F.args_gs_get _ _ _) ?_)
  repeat (any_goals (first | assumption | (with_reducible refine wpAny_loadPart_at hx ?_; rw [hc]) | (with_reducible refine wpAny_isSubtype_exc hC ?_; rw [hcB]) | wp_step))
  refine ⟨Code.quiet_builtin _ (by decide +kernel), codeAny_builtin F.entry_object_class ?_⟩
  repeat (any_goals (first | assumption | (with_reducible refine wpAny_loadPart_at hx ?_; rw [hc]) | wp_step))
structure XAsk (K : PySem.W.Frag) (C : Addr) : Prop where
  cl : PySem.W.findIn K (.ref C) "__class__" = some (some (.builtin "object.__class__"))
  ga : PySem.W.findIn K (.ref C) "__getattribute__" = some (some (.builtin "BaseException.__getattribute__"))
  gh : PySem.W.findIn K (.ref C) "__getattr__" = some none
theorem xc_entry {tk : Tok} {Q : Fin → Shared → Prop} (KX : K.In h) (Z : XAsk K C) (hC : h.get? C = some (excClassObj nm q C N bs bm hdct sn sub ab col dd k0 k1 k2 k3 k5 newId)) (hob : bm.contains (.type "object") = true)
    (hx : h.get? a = some o) (hc : o.cls = .ref C) (hq : Q (.done (.ret (.ref C))) ⟨h, g, d, t, os⟩) :
    wpAny (model prog w) A (Builtin.«object.__getattribute__» ⟨[.ref a, .str "__class__" tk], []⟩) Q E ⟨h, g, d, t, os⟩ := by
  have hT5 : (⟨h, g, d, t, os⟩ : Shared).TypeIs (.builtin "object.__class__") "getset_descriptor" := F.typeOf_object_class
  have f5 := F.typeOf_object_class
  have f6 := F.slot_gs_get.lookup
  have f7 := F.slot_gs_set.lookup
  have LK := PySem.W.looks_findIn (M := model prog w) KX Z.cl
  repeat (any_goals (first | assumption | (with_reducible refine wpAny_loadPart_at hx ?_; rw [hc]) | with_reducible refine LK.at ?_ | wp_step))
  refine xc_get hC hob hx hc ?_
  repeat (any_goals (first | assumption | wp_step))
theorem xc_call {tk : Tok} {R : Result → Shared → Prop} (KX : K.In h) (Z : XAsk K C) (hC : h.get? C = some (excClassObj nm q C N bs bm hdct sn sub ab col dd k0 k1 k2 k3 k5 newId)) (hob : bm.contains (.type "object") = true) (hbe : bm.contains (.type "BaseException") = true)
    (hx : h.get? a = some o) (hc : o.cls = .ref C) (hq : R (.ok (.ret (.ref C))) ⟨h, g, d, t, os⟩) :
    codeAny (model prog w) A (.call (.builtin "BaseException.__getattribute__") ⟨[.ref a, .str "__class__" tk], []⟩) R ⟨h, g, d, t, os⟩ := by
  have hcB : (Value.ref C :: bm).contains (.type "BaseException") = true := by rw [List.contains_cons, hbe, Bool.or_true]
  have hk : builtinKind "BaseException.__getattribute__" = some .slot := by decide +kernel
  have hsplit : splitId "BaseException.__getattribute__" = some ("BaseException", "__getattribute__") := by decide +kernel
  have hargs := F.args_bexc_ga (.ref a) (.str "__class__" tk)
  have ck : ∀ {M : Model} {A' : Around} {E' : Value → Shared → Prop} {Q' : Unit → Shared → Prop}, Q' () ⟨h, g, d, t, os⟩ → wpAny M A' (checkBuiltinCall "BaseException.__getattribute__" ⟨[.ref a, .str "__class__" tk], []⟩) Q' E' ⟨h, g, d, t, os⟩ := by
    intro M A' E' Q' hq'
    simp only [checkBuiltinCall, hk, hsplit]
    refine wpAny_bind ?_
    unfold isInstance
    repeat (first | (with_reducible refine wpAny_loadPart_at hx ?_; rw [hc]) | (with_reducible refine wpAny_isSubtype_exc hC ?_; rw [hcB]) | wp_step)
    exact hq'
  exact codeAny_call_builtin (by decide +kernel) F.entry_bexc_ga (ck (xc_entry KX Z hC hob hx hc hq))
theorem xc_by {tk : Tok} {Q : Value → Shared → Prop} (KX : K.In h) (Z : XAsk K C) (hC : h.get? C = some (excClassObj nm q C N bs bm hdct sn sub ab col dd k0 k1 k2 k3 k5 newId)) (hob : bm.contains (.type "object") = true) (hbe : bm.contains (.type "BaseException") = true)
    (hx : h.get? a = some o) (hc : o.cls = .ref C) (hq : Q (.ref C) ⟨h, g, d, t, os⟩) :
    wpAny (model prog w) A (getAttrBy (.ref a) (.str "__class__" tk) false) Q E ⟨h, g, d, t, os⟩ := by
  have f3 := PySem.F.excAttr_ValueError.ga.bind (.ref a)
  have hx0 : (false && onTheHeap (Value.builtin "BaseException.__getattribute__")) = false := rfl
  have hx2 : (Value.builtin "BaseException.__getattribute__" == Value.builtin "object.__getattribute__") = false := by decide +kernel
  have hx1 : (onTheHeap (Value.ref C) && Value.builtin "BaseException.__getattribute__" == Value.builtin "object.__getattribute__") = false := by rw [hx2]; rfl
  have L1 := PySem.W.looks_findIn (M := model prog w) KX Z.ga
  have L2 := PySem.W.looks_findIn (M := model prog w) KX Z.gh
  repeat (any_goals (first | assumption | (with_reducible refine wpAny_loadPart_at hx ?_; rw [hc]) | with_reducible refine L1.at ?_ | with_reducible refine L2.at ?_ | wp_step))
  refine xc_call KX Z hC hob hbe hx hc ?_
  repeat (any_goals (first | assumption | wp_step))
theorem xc_attr {Q : Option Value → Shared → Prop} (KX : K.In h) (Z : XAsk K C) (hC : h.get? C = some (excClassObj nm q C N bs bm hdct sn sub ab col dd k0 k1 k2 k3 k5 newId)) (hob : bm.contains (.type "object") = true) (hbe : bm.contains (.type "BaseException") = true)
    (hx : h.get? a = some o) (hc : o.cls = .ref C) (hq : Q (some (.ref C)) ⟨h, g, d, t + 1, os⟩) : wpAny (model prog w) A (getAttr? (.ref a) "__class__") Q E ⟨h, g, d, t, os⟩ := by
  unfold getAttr? getAttrBy?
  repeat (any_goals (first | assumption | with_reducible apply xc_by KX Z hC hob hbe hx hc | wp_step))
end
end L2
namespace L2
open PySem PySem.Spec PyProof.Rows
abbrev TX := St → Hp → VK → XK → Prop
def PEx (X : Cx) (CX : CXT) (e : Expr) (t : TX) : Prop :=
  ∀ (pins : List (Addr × Obj)) (s : Shared) (σ : St) (H : Hp) (Q : VK) (E : XK), Inv X pins σ H s → t σ H Q E → wpAny (model X.prog X.w) X.A (eval e X.env) (EP X pins σ Q) (fun ev s' => ∃ H1 s1, Inv X pins σ H1 s1 ∧ CX X.stack H1 s1 E ev s') s
def xCall (sp : Sp) (dvs : List V) (t : TA) : TX := fun σ H Q E => t σ H fun vs H1 => sp (vs ++ dvs) H1 Q E
section
variable {X : Cx} {CX : CXT} {k : Nat} {f C : Addr} {fd : FuncData} {ps : List Str} {sp : Sp} {dvs : List V} {ds : List Value} {x : Str} {p pos : Pos} {e : Expr} {es : List Expr} {t : TA}
theorem run_fnx {pins : List (Addr × Obj)} {σ : St} {H : Hp} {s : Shared} {Q : VK} {E : XK} {us : List Value} {vs : List V} (F : FnOk X.prog X.w X.K X.mg X.base CX k f fd ps sp) (hr : Room k X.A) (hb : Binds X.K fd ps ds) (hd : Vals dvs ds)
    (I : Inv X pins σ H s) (r : Vals vs us) (h : sp (vs ++ dvs) H Q E) : wpAny (model X.prog X.w) X.A (call (.ref f) us) (EP X pins σ Q) (fun ev s' => ∃ H1 s1, Inv X pins σ H1 s1 ∧ CX X.stack H1 s1 E ev s') s := by
  have r2 : Vals (vs ++ dvs) (us ++ ds) := r.append hd
  have hl : (us ++ ds).length = ps.length := by rw [← r2.length]; exact F.len _ _ _ _ h
  refine wpAny_call (codeAny_mono (F.run X.A X.stack s H ⟨us, []⟩ (us ++ ds) (vs ++ dvs) Q E hr I.env0 (hb s us I.kIn hl) r2 h) fun r s' hq => ?_)
  cases r with
  | error e => exact ⟨H, s, I, hq⟩
  | ok fl =>
    cases fl with
    | ret u => exact I.after hq
    | next => exact False.elim hq
    | brk => exact False.elim hq
    | cont => exact False.elim hq
theorem pex_call (F : FnOk X.prog X.w X.K X.mg X.base CX k f fd ps sp) (hr : Room k X.A) (hg : Gl X x) (hm : X.mg x = some (.ref f)) (hk : PySem.W.keepIn X.K (.ref f) = true) (hb : Binds X.K fd ps ds) (hd : Vals dvs ds)
    (ha : PA X.nox (e :: es) t) (hdb : (x == ("__debug__" : Str)) = false := by decide) (he : starEach (e :: es) X.env = (false, eval e X.env) :: starEach es X.env := by rfl) (hpl : (backTo pos (starEach es X.env)).any (·.1) = false := by rfl) :
    PEx X CX (.Call (.Name x p) (e :: es) [] pos) (xCall sp dvs t) := by
  intro pins s σ H Q E I h
  refine wpAny_Call_Name_kw (ld_glob I hg hm ?_ hdb)
  refine PySem.W.callWith_K (h₀ := X.base) I.ok.mod.kin hk (wpAny_mono (ha pos pins s σ H _ (I.wish _) h) (fun us s1 ⟨vs, H1, I1, r, q⟩ => ⟨I1.unwish.kIn, ?_⟩) fun _ _ z => False.elim z) he hpl
  exact run_fnx F hr hb hd I1.unwish r q
def excO (C ea : Addr) : HO := .ext fun h => ∃ o, h.get? ea = some o ∧ o.cls = .ref C
abbrev Cx.inSuite (X : Cx) (ea : Addr) : Cx := { X with A := X.A.mark (some (.ref ea)), calm := false, xe := fun _ _ => False }
theorem Inv.inSuite {pins : List (Addr × Obj)} {σ : St} {H : Hp} {s : Shared} (I : Inv X pins σ H s) (ea : Addr) : Inv (X.inSuite ea) pins σ H s :=
  ⟨⟨I.ok.mod, I.ok.kind, I.ok.glob, I.ok.blt, I.ok.above, I.ok.inj, I.ok.has, I.ok.cab, fun z => (nomatch z), I.ok.frames, I.ok.stk, I.ok.exf, I.ok.bs, I.ok.bsz, I.ok.noex, I.ok.exfs, I.ok.funs, I.ok.frf⟩, I.os, I.bare, I.base, I.loc, I.cell, I.free, I.freeC, I.pin, I.hok, I.len⟩
theorem Inv.outSuite {pins : List (Addr × Obj)} {σ : St} {H : Hp} {s : Shared} {ea : Addr} (ok : X.Ok) (I : Inv (X.inSuite ea) pins σ H s) : Inv X pins σ H s :=
  ⟨ok, I.os, I.bare, I.base, I.loc, I.cell, I.free, I.freeC, I.pin, I.hok, I.len⟩
def tTry (te : TX) (C : Addr) (i : Nat) (ts : TS) : TS := fun D σ H => te σ H (fun _ H1 => D.nx σ H1) fun cls _ H1 => cls = .ref C ∧ ∀ ea, H1 ea = none →
  ts { nx := fun σ2 H2 => D.nx (σ2.set i none) H2, rt := D.rt, bk := fun σ2 H2 => D.bk (σ2.set i none) H2, ct := fun σ2 H2 => D.ct (σ2.set i none) H2 } (σ.set i (some (.ref ea))) (upd H1 ea (excO C ea))
theorem Inv.gone {pins : List (Addr × Obj)} {σ : St} {H : Hp} {s : Shared} {i : Nat} {n : Str} {Q : Unit → Shared → Prop} {M : Model} {A : Around} {E : Value → Shared → Prop} {hpos : Pos} (I : Inv X pins σ H s) (hN : X.N.Nodup) (hi : X.N[i]? = some n) (hk : X.env.kindOf n = some .local)
    (h : ∀ s', Inv X pins (σ.set i none) H s' → Q () s') : wpAny M A (do bindName X.env n .none; unbindBehindTheSuite X.env n hpos) Q E s := by
  obtain ⟨m, hn, hl⟩ := id I.loc
  obtain ⟨oL, _, _, hoL, _⟩ := id hn
  refine wpAny_nameGoes_keeps hk hn (by rw [I.ok.kind]; rfl) fun h' v hn' hs => h _ ?_
  have iL : ∀ b o, X.s₀.heap.get? b = some o → b ≠ X.env.locals := fun b o e => Nat.ne_of_lt (Nat.lt_of_lt_of_le (Heap.lt_size e) I.ok.above)
  refine ⟨I.ok, I.os, I.bare, ⟨fun b o e n hb hx => (hs.2 b (iL b o e)).trans (I.base.keep b o e n hb hx), fun b o e n hb hx => ?_, I.base.free, fun b o e hx => ?_, I.base.tups, I.base.frzs, I.base.tbls⟩, ⟨_, hn', fun j y v' e1 e2 e3 => ?_⟩, fun y c e => ?_, I.free, I.freeC, fun p hp => ?_, fun b ob e => ?_, by simpa using I.len⟩
  · obtain ⟨sl, e1⟩ := I.base.slot b o e n hb hx
    exact ⟨sl, (hs.2 b (iL b o e)).trans e1⟩
  · obtain ⟨o', e1⟩ := I.base.there b o e hx
    exact ⟨o', (hs.2 b (iL b o e)).trans e1⟩
  · by_cases hj : j = i
    · subst hj
      by_cases hz : j < σ.length
      · rw [List.getElem?_set_self hz] at e2; cases e2
      · rw [List.getElem?_eq_none (by simpa using hz)] at e2; cases e2
    · rw [List.getElem?_set_ne (Ne.symm hj)] at e2
      obtain ⟨u', r', q⟩ := hl j y v' e1 e2 e3
      refine ⟨u', r', ?_⟩
      have ny : y ≠ n := fun e => hj (nodup_ix hN e1 (e ▸ hi))
      rcases q with ⟨k, e⟩ | ⟨k, c, e, z⟩
      · exact .inl ⟨k, by show (if y = n then v else m y) = some u'; rw [if_neg ny]; exact e⟩
      · exact .inr ⟨k, c, e, z.sameBut hs (I.cne y c e)⟩
  · obtain ⟨w', z⟩ := I.cell y c e
    exact ⟨w', z.sameBut hs (I.cne y c e)⟩
  · obtain ⟨e, n, ne, nf, d⟩ := I.pin p hp
    exact ⟨(hs.2 p.1 ne).trans e, n, ne, nf, d⟩
  · refine (I.hok b ob e).stay (fun c w' hc q => (hs.2 c ?_).trans q) (fun _ q => q) fun _ _ q => q
    rintro rfl
    rcases hc with z | z
    · rw [← z, I.free] at e; cases e
    · rw [I.free] at z; cases z
def rIsX (K : PySem.W.Frag) : List V → Hp → VK → Prop := fun xs H Q => ∃ ea C c k, xs = [.ref ea, c] ∧ H ea = some (excO C ea) ∧ XCls K C ∧ XAsk K C ∧ ((∃ D, c = .ref D ∧ PySem.W.kitOne K (.ref C) (.ref D) = some k) ∨ (∃ T, c = .ty T ∧ PySem.W.kitOne K (.ref C) (.type T) = some k)) ∧ Q (.bl k) H
def rIsXs (K : PySem.W.Frag) : List V → Hp → VK → Prop := fun xs H Q => ∃ (ea C p : Addr) (cs : List Addr) (k : Bool), xs = [.ref ea, .ref p] ∧ H ea = some (excO C ea) ∧ XCls K C ∧ XAsk K C ∧ H p = some (.tup (cs.map V.ref)) ∧ PySem.W.kitAny K (.ref C) (cs.map Value.ref) = some k ∧ Q (.bl k) H
end
end L2
namespace L2
open PySem PySem.Spec PyProof.Rows
section
variable {X : Cx} {K : PySem.W.Frag}
variable {σ : St} {H : Hp} {Q : VK} {D : Ends} {t : TA} {E : XK} {C ea p : Addr} {te : TX} {i : Nat} {ts : TS} {sp : Sp} {dvs : List V} {c : V}
theorem ap_raise : tRaise C E t D σ H = t σ H fun vs H1 => vs.length ≤ sizeLine ∧ E (.ref C) none H1 := rfl
theorem ap_xCall : xCall sp dvs t σ H Q E = t σ H fun vs H1 => sp (vs ++ dvs) H1 Q E := rfl
theorem ap_try : tTry te C i ts D σ H = te σ H (fun _ H1 => D.nx σ H1) fun cls _ H1 => cls = .ref C ∧ ∀ ea, H1 ea = none →
  ts { nx := fun σ2 H2 => D.nx (σ2.set i none) H2, rt := D.rt, bk := fun σ2 H2 => D.bk (σ2.set i none) H2, ct := fun σ2 H2 => D.ct (σ2.set i none) H2 } (σ.set i (some (.ref ea))) (upd H1 ea (excO C ea)) := rfl
theorem ap_isX : rIsX K [.ref ea, c] H Q = ∃ C k, H ea = some (excO C ea) ∧ XCls K C ∧ XAsk K C ∧ ((∃ D, c = .ref D ∧ PySem.W.kitOne K (.ref C) (.ref D) = some k) ∨ (∃ T, c = .ty T ∧ PySem.W.kitOne K (.ref C) (.type T) = some k)) ∧ Q (.bl k) H := propext
  ⟨fun ⟨ea', C, c', k, e, r⟩ => by cases e; exact ⟨C, k, r⟩, fun ⟨C, k, r⟩ => ⟨ea, C, c, k, rfl, r⟩⟩
theorem ap_isXs : rIsXs K [.ref ea, .ref p] H Q = ∃ (C : Addr) (cs : List Addr) (k : Bool), H ea = some (excO C ea) ∧ XCls K C ∧ XAsk K C ∧ H p = some (.tup (cs.map V.ref)) ∧ PySem.W.kitAny K (.ref C) (cs.map Value.ref) = some k ∧ Q (.bl k) H := propext
  ⟨fun ⟨ea', C, p', cs, k, e, r⟩ => by cases e; exact ⟨C, cs, k, r⟩, fun ⟨C, cs, k, r⟩ => ⟨ea, C, p, cs, k, rfl, r⟩⟩
end
end L2
namespace L2
open PySem PySem.Spec PyProof.Rows
section
variable {κ : Type} [DecidableEq κ]
def valV (kvs : List (κ × V)) (k : κ) : Option V := (kvs.find? fun kv => decide (kv.1 = k)).map (·.2)
def putK (kvs : List (κ × V)) (k : κ) (v : V) : List (κ × V) :=
  if (kvs.any fun kv => decide (kv.1 = k)) = true then kvs.map (fun kv => if kv.1 = k then (kv.1, v) else kv) else kvs ++ [(k, v)]
def dropK (kvs : List (κ × V)) (k : κ) : List (κ × V) := kvs.filter fun kv => decide (kv.1 ≠ k)
theorem valV_pos {p : κ × V} {r : List (κ × V)} {k : κ} (e : p.1 = k) : valV (p :: r) k = some p.2 := by simp [valV, List.find?_cons, e]
theorem valV_neg {p : κ × V} {r : List (κ × V)} {k : κ} (e : ¬ p.1 = k) : valV (p :: r) k = valV r k := by simp [valV, List.find?_cons, e]
theorem valV_any (k : κ) : ∀ kvs : List (κ × V), (kvs.any fun kv => decide (kv.1 = k)) = (valV kvs k).isSome
  | [] => rfl
  | p :: r => by
    rw [List.any_cons]
    by_cases e : p.1 = k
    · simp only [valV_pos e, decide_eq_true e, Bool.true_or, Option.isSome_some]
    · rw [valV_neg e, decide_eq_false e, Bool.false_or]; exact valV_any k r
theorem length_putK (kvs : List (κ × V)) (k : κ) (v : V) : (putK kvs k v).length ≤ kvs.length + 1 := by
  unfold putK
  split
  · rw [List.length_map]; omega
  · rw [List.length_append, List.length_cons, List.length_nil]; omega
theorem RelO.isSome_eq {o : Option V} {u : Option Value} (r : RelO o u) : o.isSome = u.isSome := by
  cases o with
  | none => cases u with
    | none => rfl
    | some _ => exact (show False from r).elim
  | some _ => cases u with
    | none => exact (show False from r).elim
    | some _ => rfl
theorem RelO.getD {o : Option V} {u : Option Value} {d : V} {d' : Value} (r : RelO o u) (rd : RelV d d') : RelV (o.getD d) (u.getD d') := by
  cases o with
  | none => cases u with
    | none => exact rd
    | some _ => exact (show False from r).elim
  | some _ => cases u with
    | none => exact (show False from r).elim
    | some _ => exact r
theorem KV.val {kvs : List (κ × V)} {vs : List (κ × Value)} (r : KV kvs vs) (k : κ) : RelO (valV kvs k) (valueAt vs k) := by
  unfold KV at r
  induction r with
  | nil => exact True.intro
  | @cons p q ps qs h t ih =>
    obtain ⟨h1, h2⟩ := h
    by_cases e : p.1 = k
    · have e' : q.1 = k := h1.symm.trans e
      have b : valueAt (q :: qs) k = some q.2 := by simp [valueAt, List.find?_cons, e']
      rw [valV_pos e, b]; exact h2
    · have e' : ¬ q.1 = k := fun z => e (h1.trans z)
      have b : valueAt (q :: qs) k = valueAt qs k := by simp [valueAt, List.find?_cons, e']
      rw [valV_neg e, b]; exact ih
theorem KV.any {kvs : List (κ × V)} {vs : List (κ × Value)} (r : KV kvs vs) (k : κ) : (kvs.any fun kv => decide (kv.1 = k)) = vs.any fun kv => decide (kv.1 = k) := by
  unfold KV at r
  induction r with
  | nil => rfl
  | cons h t ih => rw [List.any_cons, List.any_cons, ih, h.1]
theorem KV.repl {kvs : List (κ × V)} {vs : List (κ × Value)} (r : KV kvs vs) (k : κ) {y : V} {u : Value} (ry : RelV y u) :
    KV (kvs.map fun kv => if kv.1 = k then (kv.1, y) else kv) (vs.map fun kv => if kv.1 = k then (kv.1, u) else kv) := by
  unfold KV at r ⊢
  induction r with
  | nil => exact .nil
  | @cons p q ps qs h t ih =>
    rw [List.map_cons, List.map_cons]
    refine .cons ?_ ih
    obtain ⟨h1, h2⟩ := h
    by_cases e : p.1 = k
    · rw [if_pos e, if_pos (h1.symm.trans e)]; exact ⟨h1, ry⟩
    · rw [if_neg e, if_neg (fun z => e (h1.trans z))]; exact ⟨h1, h2⟩
theorem KV.put {kvs : List (κ × V)} {vs : List (κ × Value)} (r : KV kvs vs) (k : κ) {y : V} {u : Value} (ry : RelV y u) : KV (putK kvs k y) (stored vs k u) := by
  unfold putK stored
  rw [r.any k]
  by_cases e : (vs.any fun kv => decide (kv.1 = k)) = true
  · rw [if_pos e, if_pos e]; exact r.repl k ry
  · rw [if_neg e, if_neg e]; exact Paired.snoc r ⟨rfl, ry⟩
theorem KV.drop {kvs : List (κ × V)} {vs : List (κ × Value)} (r : KV kvs vs) (k : κ) : KV (dropK kvs k) (without vs k) := by
  unfold KV at r ⊢
  unfold dropK without
  induction r with
  | nil => exact .nil
  | @cons p q ps qs h t ih =>
    obtain ⟨h1, h2⟩ := h
    rw [List.filter_cons, List.filter_cons]
    by_cases e : p.1 = k
    · have a : ¬ decide (p.1 ≠ k) = true := by simp [e]
      have b : ¬ decide (q.1 ≠ k) = true := by simp [h1.symm.trans e]
      rw [if_neg a, if_neg b]; exact ih
    · have e' : ¬ q.1 = k := fun z => e (h1.trans z)
      have a : decide (p.1 ≠ k) = true := by simp [e]
      have b : decide (q.1 ≠ k) = true := by simp [e']
      rw [if_pos a, if_pos b]; exact .cons ⟨h1, h2⟩ ih
theorem KV.keys {kvs : List (κ × V)} {vs : List (κ × Value)} (r : KV kvs vs) : kvs.map (·.1) = vs.map (·.1) := by
  unfold KV at r
  induction r with
  | nil => rfl
  | cons h t ih => rw [List.map_cons, List.map_cons, ih, h.1]
theorem KV.length {kvs : List (κ × V)} {vs : List (κ × Value)} (r : KV kvs vs) : kvs.length = vs.length := Paired.length r
end
theorem kV_is {P : Program} {w : World} {k : Key} {u : Value} (r : RelV (kV k) u) : (mixKind P w).is k u = true := by
  cases k with
  | inl i => obtain ⟨t, e⟩ := (show ∃ t, u = Value.int i t from r); subst e; exact mixKind_int P w i t
  | inr x => obtain ⟨t, e⟩ := (show ∃ t, u = Value.str x t from r); subst e; exact mixKind_str P w x t
theorem items_are {P : Program} {w : World} : ∀ {ks : List Key} {us : List Value}, Vals (ks.map kV) us → ItemsAre (mixKind P w) ks us
  | [], _, r => by rw [List.map_nil] at r; cases r; exact .nil
  | k :: ks, _, r => by
    rw [List.map_cons] at r
    cases r with
    | cons h t => exact .cons (kV_is h) (items_are t)
abbrev KT (H : Hp) : List (List Key × V) → List (List Key × Addr × Value) → Prop := Paired fun p q => p.1 = q.1 ∧ H q.2.1 = some (.tup (p.1.map kV)) ∧ RelV p.2 q.2.2
theorem KT.val {H : Hp} {kvs : List (List Key × V)} {xs : List (List Key × Addr × Value)} (r : KT H kvs xs) (k : List Key) : RelO (valV kvs k) ((atKey xs k).map (·.2)) := by
  induction r with
  | nil => exact True.intro
  | @cons p q ps qs h t ih =>
    obtain ⟨h1, _, h2⟩ := h
    by_cases e : p.1 = k
    · have e' : q.1 = k := h1.symm.trans e
      have b : atKey (q :: qs) k = some q.2 := by simp [atKey, List.find?_cons, e']
      rw [valV_pos e, b]; exact h2
    · have e' : ¬ q.1 = k := fun z => e (h1.trans z)
      have b : atKey (q :: qs) k = atKey qs k := by simp [atKey, List.find?_cons, e']
      rw [valV_neg e, b]; exact ih
theorem KT.repl {H : Hp} {kvs : List (List Key × V)} {xs : List (List Key × Addr × Value)} (r : KT H kvs xs) (k : List Key) {y : V} {u : Value} (ry : RelV y u) :
    KT H (kvs.map fun kv => if kv.1 = k then (kv.1, y) else kv) (xs.map (putAt k u)) := by
  induction r with
  | nil => exact .nil
  | @cons p q ps qs h t ih =>
    rw [List.map_cons, List.map_cons]
    refine .cons ?_ ih
    obtain ⟨h1, h2, h3⟩ := h
    unfold putAt
    by_cases e : p.1 = k
    · rw [if_pos e, if_pos (h1.symm.trans e)]; exact ⟨h1, h2, ry⟩
    · rw [if_neg e, if_neg (fun z => e (h1.trans z))]; exact ⟨h1, h2, h3⟩
theorem KT.put {H : Hp} {kvs : List (List Key × V)} {xs : List (List Key × Addr × Value)} (r : KT H kvs xs) (k : List Key) {b : Addr} {y : V} {u : Value} (hb : H b = some (.tup (k.map kV))) (ry : RelV y u) :
    KT H (putK kvs k y) (storedH xs k b u) := by
  have e : (kvs.any fun kv => decide (kv.1 = k)) = (atKey xs k).isSome := by
    rw [valV_any, (r.val k).isSome_eq, Option.isSome_map]
  unfold putK storedH
  rw [e]
  by_cases q : (atKey xs k).isSome = true
  · rw [if_pos q, if_pos q]; exact r.repl k ry
  · rw [if_neg q, if_neg q]; exact Paired.snoc r ⟨rfl, hb, ry⟩
theorem KT.keeps {H H' : Hp} {kvs : List (List Key × V)} {xs : List (List Key × Addr × Value)} (r : KT H kvs xs) (ht : ∀ b ys, H b = some (.tup ys) → H' b = some (.tup ys)) : KT H' kvs xs :=
  Paired.mapP r fun _ _ z => ⟨z.1, ht _ _ z.2.1, z.2.2⟩
section
variable {P : Program} {w : World} {H : Hp} {h : Heap} {a : Addr}
theorem rd_of {u : HO} (ok : HOk P w H h) (e : Rd H a u) : ObjOk P w H h a u := e.ok ok
theorem dk_rd {kvs : List (Key × V)} (ok : HOk P w H h) (e : Rd H a (.dK kvs)) : kvs.length ≤ sizeLine ∧ (a == sysModules) = false ∧ ∃ vs, KV kvs vs ∧ h.DictOf (mixKind P w) a vs :=
  show ObjOk P w H h a (.dK kvs) from rd_of ok e
theorem dk_of {kvs : List (Key × V)} (ok : HOk P w H h) (e : H a = some (.dK kvs)) : kvs.length ≤ sizeLine ∧ (a == sysModules) = false ∧ ∃ vs, KV kvs vs ∧ h.DictOf (mixKind P w) a vs := dk_rd ok (.inl e)
theorem key_of {ks : List Key} (ok : HOk P w H h) (e : H a = some (.tup (ks.map kV))) : (tupleKind (mixKind P w)).is h ks a := by
  obtain ⟨_, its, r, o, h1, h2, n, h3⟩ := (show ObjOk P w H h a (.tup (ks.map kV)) from ok a _ e)
  exact ⟨o, its.toArray, n, h1, h2, h3, by simpa using items_are r⟩
theorem dt_rd {kvs : List (List Key × V)} (ok : HOk P w H h) (e : Rd H a (.dT kvs)) : kvs.length ≤ sizeLine ∧ (a == sysModules) = false ∧
    ∃ xs, KT H kvs xs ∧ h.DictOfH (tupleKind (mixKind P w)) a xs := by
  obtain ⟨z, y, xs, r, o, es, ep, h1, h2, h3, h4, h5⟩ := (show ObjOk P w H h a (.dT kvs) from rd_of ok e)
  refine ⟨z, y, xs, r, o, es, ep, h1, h2, h3, h4, fun x hx => ?_, h5⟩
  have all : ∀ {l : List (List Key × V)} {m : List (List Key × Addr × Value)}, KT H l m → ∀ x ∈ m, (tupleKind (mixKind P w)).is h x.1 x.2.1 := by
    intro l m q
    induction q with
    | nil => intro x hx; exact nomatch hx
    | @cons p q ps qs hq t ih =>
      intro x hx
      rcases List.mem_cons.mp hx with e | hx
      · subst e
        exact key_of ok (by rw [← hq.1]; exact hq.2.1)
      · exact ih x hx
  exact all r x hx
theorem dt_of {kvs : List (List Key × V)} (ok : HOk P w H h) (e : H a = some (.dT kvs)) : kvs.length ≤ sizeLine ∧ (a == sysModules) = false ∧
    ∃ xs, KT H kvs xs ∧ h.DictOfH (tupleKind (mixKind P w)) a xs := dt_rd ok (.inl e)
end
def DGet (H : Hp) (a : Addr) (y : V) (r : Option V) : Prop :=
  (∃ kvs k, Rd H a (.dK kvs) ∧ y = kV k ∧ r = valV kvs k) ∨ ∃ kvs k b, Rd H a (.dT kvs) ∧ y = .ref b ∧ H b = some (.tup (k.map kV)) ∧ r = valV kvs k
def DPut (H : Hp) (a : Addr) (y v : V) (H' : Hp) : Prop :=
  (∃ kvs k, H a = some (.dK kvs) ∧ y = kV k ∧ kvs.length < sizeLine ∧ H' = upd H a (.dK (putK kvs k v))) ∨
  ∃ kvs k b, H a = some (.dT kvs) ∧ y = .ref b ∧ H b = some (.tup (k.map kV)) ∧ kvs.length < sizeLine ∧ H' = upd H a (.dT (putK kvs k v))
theorem DGet.k {H : Hp} {a : Addr} {kvs : List (Key × V)} {k : Key} (e : H a = some (.dK kvs)) : DGet H a (kV k) (valV kvs k) := .inl ⟨kvs, k, .inl e, rfl, rfl⟩
theorem DGet.t {H : Hp} {a b : Addr} {kvs : List (List Key × V)} {k : List Key} (e : H a = some (.dT kvs)) (eb : H b = some (.tup (k.map kV))) : DGet H a (.ref b) (valV kvs k) := .inr ⟨kvs, k, b, .inl e, rfl, eb, rfl⟩
theorem DPut.k {H : Hp} {a : Addr} {kvs : List (Key × V)} {k : Key} {v : V} (e : H a = some (.dK kvs)) (hl : kvs.length < sizeLine) : DPut H a (kV k) v (upd H a (.dK (putK kvs k v))) := .inl ⟨kvs, k, e, rfl, hl, rfl⟩
theorem DPut.t {H : Hp} {a b : Addr} {kvs : List (List Key × V)} {k : List Key} {v : V} (e : H a = some (.dT kvs)) (eb : H b = some (.tup (k.map kV))) (hl : kvs.length < sizeLine) :
    DPut H a (.ref b) v (upd H a (.dT (putK kvs k v))) := .inr ⟨kvs, k, b, e, rfl, eb, hl, rfl⟩
section
variable {X : Cx} {pins : List (Addr × Obj)} {σ : St} {H : Hp} {s : Shared} {a : Addr} {y v : V} {u r : Value} {o : Option V} {A : Around} {E : Value → Shared → Prop}
theorem Inv.big (I : Inv X pins σ H s) : sysModules < s.heap.objs.size := by
  have h : mainGlobals < s.heap.objs.size := (I.mod.glob.keeps I.bk).lt
  exact Nat.lt_trans (by decide) h
theorem d_getItem {Q : Value → Shared → Prop} (hu : A.units + 1 < cLine) (I : Inv X pins σ H s) (g : DGet H a y (some v)) (ry : RelV y u) (h : ∀ w' s', Inv X pins σ H s' → RelV v w' → Q w' s') :
    wpAny (model X.prog X.w) A (getItem (.ref a) u) Q E s := by
  rcases g with ⟨kvs, k, e, ey, l⟩ | ⟨kvs, k, b, e, ey, eb, l⟩
  · subst ey
    obtain ⟨z, hd, vs, rel, dd⟩ := dk_rd I.hok e
    obtain ⟨w', hw, rw'⟩ := RelO.some_of (v := v) (o := valueAt vs k) (by rw [l]; exact rel.val k)
    exact wpAny_getItem_of (kV_is ry) dd.mapOf hw (h w' _ (I.tok _) rw')
  · subst ey
    cases (show u = Value.ref b from ry)
    obtain ⟨z, hd, xs, rel, dd⟩ := dt_rd I.hok e
    obtain ⟨w', hw, rw'⟩ := RelO.some_of (v := v) (o := (atKey xs k).map (·.2)) (by rw [l]; exact rel.val k)
    obtain ⟨p, hp, hp2⟩ := Option.map_eq_some_iff.mp hw
    refine wpAny_getItem_heap (tupleKind_room_in1 hu) (key_of I.hok eb) dd hp ?_
    rw [hp2]
    exact h w' _ (I.tok _) rw'
theorem d_write {h' : Heap} {t' : Nat} {ob : HO} (I : Inv X pins σ H s) (mu : Mut (H a)) (hs : Heap.SameBut a s.heap h') (he : ∃ q, h'.get? a = some q) (new : ObjOk X.prog X.w (upd H a ob) h' a ob) :
    Inv X pins σ (upd H a ob) { s with heap := h', toks := t' } :=
  I.write (x := a) (e := a) mu (.inl rfl) (fun b q hb z => (hs.2 b hb).trans z) he new
theorem dk_new {P : Program} {w : World} {H' : Hp} {h' : Heap} {kvs : List (Key × V)} {vs : List (Key × Value)} (z : kvs.length ≤ sizeLine) (hd : (a == sysModules) = false) (rel : KV kvs vs) (dd : h'.DictOf (mixKind P w) a vs) :
    ObjOk P w H' h' a (.dK kvs) := ⟨z, hd, vs, rel, dd⟩
theorem d_setItem {H' : Hp} {Q : Unit → Shared → Prop} (hu : A.units + 1 < cLine) (I : Inv X pins σ H s) (g : DPut H a y v H') (ry : RelV y u) (rv : RelV v r) (h : ∀ s', Inv X pins σ H' s' → Q () s') :
    wpAny (model X.prog X.w) A (setItem (.ref a) u r) Q E s := by
  rcases g with ⟨kvs, k, e, ey, l, eH⟩ | ⟨kvs, k, b, e, ey, eb, l, eH⟩
  · subst ey eH
    obtain ⟨z, hd, vs, rel, dd⟩ := dk_of I.hok e
    have hz : vs.length ≤ sizeLine := by rw [← rel.length]; exact z
    have hl : (putK kvs k v).length ≤ sizeLine := by have := length_putK kvs k v; omega
    refine wpAny_setItem_pairs (hsz := hz) (kV_is ry) dd fun h' dd' hs => h _ ?_
    have he : ∃ q, h'.get? a = some q := let ⟨q, _, _, hq, _⟩ := dd'; ⟨q, hq⟩
    exact d_write I (by rw [e]; exact True.intro) hs he (dk_new hl hd (rel.put k rv) dd')
  · subst ey eH
    cases (show u = Value.ref b from ry)
    obtain ⟨z, hd, xs, rel, dd⟩ := dt_of I.hok e
    have hz : xs.length ≤ sizeLine := by rw [← Paired.length rel]; exact z
    have hl : (putK kvs k v).length ≤ sizeLine := by have := length_putK kvs k v; omega
    refine wpAny_setItem_heap (hsz := hz) (tupleKind_room_in1 hu) (key_of I.hok eb) dd fun h' dd' hs => h _ ?_
    obtain ⟨q, es, ep, hq, h2, h3, h4, _, h5⟩ := dd'
    refine d_write I (by rw [e]; exact True.intro) hs ⟨q, hq⟩ ⟨hl, hd, _, (rel.put k eb rv).keeps fun c ys ec => ?_, q, es, ep, hq, h2, h3, h4, h5⟩
    rw [upd_ne (ne_of ec e (fun z => nomatch z))]
    exact ec
end
section
variable {X : Cx} {pins : List (Addr × Obj)} {σ : St} {H : Hp} {s : Shared} {a : Addr} {kvs : List (Key × V)} {k : Key} {u : Value} {A : Around} {E : Value → Shared → Prop}
end
def NoSl (i : Expr) : Prop := ∀ ov iv, subscripted i false ov iv = operate [ov, iv] (getItem ov iv)
theorem subD_of {prog : Program} {w : World} {A : Around} {E : Value → Shared → Prop} {s : Shared} {env : Env} {value slice : Expr} {pos : Pos} {T id : String} {Q : Value → Shared → Prop}
    (hl : typeLookup (.type T) "__getitem__" = pure (some (.builtin id))) (hs : NoSl slice)
    (h : wpAny (model prog w) A (eval value env) (fun o s₁ => wpAny (model prog w) A (eval slice env) (fun i s₂ => s₂.TypeIs o T ∧ wpAny (model prog w) A (getItem o i) Q E s₂) E s₁) E s) :
    wpAny (model prog w) A (eval (.Subscript value slice pos) env) Q E s := by
  refine Subscript_ (wpAny_mono h (fun o s₁ h₁ => wpAny_mono h₁ (fun i s₂ h₂ => ?_) fun _ _ x => x) fun _ _ x => x)
  obtain ⟨hT, h₂⟩ := h₂
  unfold subscriptTail
  refine wpAny_bind ?_
  rw [getitemInPython_of_ne hT.not_modules]
  refine wpAny_bind (wpAny_specialOf hT hl ?_)
  have fin : wpAny (model prog w) A (subscripted slice false o i) (fun r s₃ => wpAny (model prog w) A (letTemporaryGo value o r >>= fun _ => pure r) Q E s₃) E s₂ := by
    rw [hs o i]
    exact wpAny_operating (wpAny_mono h₂ (fun r s₃ h₃ => wpAny_bind (wpAny_letTemporaryGo (wpAny_pure h₃))) fun _ _ x => x)
  first
    | exact wpAny_pure (wpAny_bind fin)
    | exact wpAny_bind (wpAny_pure (wpAny_bind fin))
    | exact wpAny_bind fin
theorem dict_typeIs {X : Cx} {pins : List (Addr × Obj)} {σ : St} {H : Hp} {s : Shared} {a : Addr} {y : V} {o : Option V} (I : Inv X pins σ H s) (g : DGet H a y o) : s.TypeIs (.ref a) "dict" := by
  rcases g with ⟨kvs, k, e, _, _⟩ | ⟨kvs, k, b, e, _, _, _⟩
  · obtain ⟨_, _, vs, _, dd⟩ := dk_rd I.hok e
    exact dd.typeIs
  · obtain ⟨_, _, xs, _, dd⟩ := dt_rd I.hok e
    exact dd.typeIs
def tDGet (td ty : TE) : TE := fun σ H Q => td σ H fun x H1 => ty σ H1 fun y H2 => ∃ a v, x = .ref a ∧ DGet H2 a y (some v) ∧ Q v H2
def sDPut (td ty tv : TE) : TS := fun D σ H => tv σ H fun v H1 => td σ H1 fun x H2 => ty σ H2 fun y H3 => ∃ a H4, x = .ref a ∧ DPut H3 a y v H4 ∧ D.nx σ H4
section
variable {X : Cx} {o i e value : Expr} {pos pos' tpos : Pos} {td ty tv : TE}
theorem pe_dget (hu : X.A.units + 1 < cLine) (ho : PE X o td) (hi : PE X i ty) (hs : NoSl i) : PE X (.Subscript o i pos) (tDGet td ty) := by
  intro pins s σ H Q I h
  refine subD_of PySem.F.slot_dict_getitem.lookup hs (thn (ho pins s σ H _ I h) fun u s1 ⟨x, H1, I1, rx, q1⟩ => thn (hi pins s1 σ H1 _ I1 q1) fun iv s2 ⟨y, H2, I2, ry, a, v, ex, g, q2⟩ => ?_)
  subst ex
  obtain rfl : u = Value.ref a := rx
  exact ⟨dict_typeIs I2 g, d_getItem hu I2 g ry fun w' s3 I3 rw' => ⟨v, H2, I3, rw', q2⟩⟩
theorem ps_dput (hu : X.A.units + 1 < cLine) (ho : PE X o td) (hi : PE X i ty) (hv : PE X value tv) (hs : swapsWith value (some (.Subscript o i pos')) pos.line X.env = pure false) :
    PS X (.Assign [.Subscript o i pos'] value pos) (sDPut td ty tv) := by
  intro pins s σ H D I h
  refine wpAny_Assign_Subscript (thn (hv pins s σ H _ I h) fun r s1 ⟨v, H1, I1, rv, q1⟩ => thn (ho pins s1 σ H1 _ I1 q1) fun u s2 ⟨x, H2, I2, rx, q2⟩ => thn (hi pins s2 σ H2 _ I2 q2) fun iv s3 ⟨y, H3, I3, ry, a, H4, ex, g, q3⟩ => ?_) hs
  subst ex
  obtain rfl : u = Value.ref a := rx
  exact d_setItem hu I3 g ry rv fun s4 I4 => ⟨σ, H4, I4, q3⟩
end
theorem dk_empty {P : Program} {w : World} {H : Hp} (h : Heap) (hb : sysModules < h.objs.size) : ObjOk P w H (h.push { cls := .type "dict", data := .dict #[] }) h.objs.size (.dK []) :=
  ⟨Nat.zero_le _, beq_eq_false_iff_ne.mpr (Ne.symm (Nat.ne_of_lt hb)), [], .nil, Heap.DictOf.new h⟩
def tDNewK : TE := fun _ H Q => ∀ p, H p = none → Q (.ref p) (upd H p (.dK []))
section
variable {X : Cx} {pos : Pos}
theorem pe_dnewK : PE X (.Dict [] [] pos) tDNewK := fun pins s σ H Q I h =>
  wpAny_Dict_empty ⟨.ref s.heap.objs.size, _, I.laid (a := s.heap.objs.size) (o := .dK []) (t' := s.toks) (fun _ _ q => Heap.get?_push_of_some _ q) (Nat.le_refl _) (dk_empty s.heap I.big), rfl, h _ (I.hok.fresh (Nat.le_refl _))⟩
end
structure M1 (X : Cx) (o : Expr) (m : Str) (apos : Pos) (e : Expr) (cpos : Pos) : Prop where
  base : attributeBase o m X.env (eval o X.env) = eval o X.env
  few : ((backTo cpos (starEach [e] X.env)).all (fun x => !x.1) && (backToKw cpos (keywordEach [] X.env)).all (fun x => x.1.isSome)
    && decide (([e] : List Expr).length + ([] : List Keyword).length + (if ([] : List Keyword).isEmpty then 0 else 1) < 30)) = true
  line : (apos.endLine == cpos.line) = true
  trees : backTo cpos (starEach [e] X.env) = [(false, eval e X.env)]
structure M2 (X : Cx) (o : Expr) (m : Str) (apos : Pos) (e f : Expr) (cpos : Pos) : Prop where
  base : attributeBase o m X.env (eval o X.env) = eval o X.env
  few : ((backTo cpos (starEach [e, f] X.env)).all (fun x => !x.1) && (backToKw cpos (keywordEach [] X.env)).all (fun x => x.1.isSome)
    && decide (([e, f] : List Expr).length + ([] : List Keyword).length + (if ([] : List Keyword).isEmpty then 0 else 1) < 30)) = true
  line : (apos.endLine == cpos.line) = true
  trees : backTo cpos (starEach [e, f] X.env) = [(false, eval e X.env), (false, eval f X.env)]
def IsD (H : Hp) (a : Addr) : Prop := (∃ kvs, Rd H a (.dK kvs)) ∨ ∃ kvs, Rd H a (.dT kvs)
theorem isD_at {X : Cx} {pins : List (Addr × Obj)} {σ : St} {H : Hp} {s : Shared} {a : Addr} (I : Inv X pins σ H s) (d : IsD H a) :
    s.TypeIs (.ref a) "dict" ∧ (∀ b, Value.ref a = .ref b → ∃ ob, s.heap.get? b = some ob ∧ ob.dict = none) ∧ (a == sysModules) = false := by
  rcases d with ⟨kvs, e⟩ | ⟨kvs, e⟩
  · obtain ⟨_, hd, vs, _, dd⟩ := dk_rd I.hok e
    refine ⟨dd.typeIs, fun b q => ?_, hd⟩
    cases q
    obtain ⟨ob, _, _, h1, h2, _⟩ := dd
    exact ⟨ob, h1, h2.2.1⟩
  · obtain ⟨_, hd, xs, _, dd⟩ := dt_rd I.hok e
    refine ⟨dd.typeIs, fun b q => ?_, hd⟩
    cases q
    obtain ⟨ob, _, _, h1, h2, _⟩ := dd
    exact ⟨ob, h1, h2.2.1⟩
section
variable {X : Cx} {pins : List (Addr × Obj)} {σ : St} {H : Hp} {s : Shared} {a : Addr} {y d : V} {u r : Value} {o : Option V} {A : Around} {E : Value → Shared → Prop}
theorem d_get1 {Q : Value → Shared → Prop} (hu : A.units + 1 < cLine) (I : Inv X pins σ H s) (g : DGet H a y o) (ry : RelV y u) (h : ∀ w' s', Inv X pins σ H s' → RelV (o.getD .non) w' → Q w' s') :
    wpAny (model X.prog X.w) A (call (.builtin "dict.get") [.ref a, u]) Q E s := by
  rcases g with ⟨kvs, k, e, ey, l⟩ | ⟨kvs, k, b, e, ey, eb, l⟩
  · subst ey
    obtain ⟨z, hd, vs, rel, dd⟩ := dk_rd I.hok e
    refine call_meetsIn PySem.F.slot_dict_get dd.typeIs PySem.F.entry_dict_get (PySem.F.args_dict_get_2 _ _) (meets_dict_get (mixKind X.prog X.w) a (kV_is ry) hd) ⟨_, dd.mapOf, h _ _ (I.tok _) ?_⟩
    rw [l]
    exact (rel.val k).getD rfl
  · subst ey
    cases (show u = Value.ref b from ry)
    obtain ⟨z, hd, xs, rel, dd⟩ := dt_rd I.hok e
    refine call_meetsIn PySem.F.slot_dict_get dd.typeIs PySem.F.entry_dict_get (PySem.F.args_dict_get_2 _ _) (meetsH_dict_get (tupleKind (mixKind X.prog X.w)) a b hd) ⟨tupleKind_room_in1 hu, k, xs, key_of I.hok eb, dd, h _ _ (I.tok _) ?_⟩
    rw [l]
    exact (rel.val k).getD rfl
end
def tDGet1 (td ty : TE) : TE := fun σ H Q => td σ H fun x H1 => ∃ a, x = .ref a ∧ IsD H1 a ∧ ty σ H1 fun y H2 => ∃ o, DGet H2 a y o ∧ Q (o.getD .non) H2
def tDGet2 (td ty tx : TE) : TE := fun σ H Q => td σ H fun x H1 => ∃ a, x = .ref a ∧ IsD H1 a ∧ ty σ H1 fun y H2 => tx σ H2 fun z H3 => ∃ o, DGet H3 a y o ∧ Q (o.getD z) H3
def tDPop1 (td ty : TE) : TE := fun σ H Q => td σ H fun x H1 => ∃ a, x = .ref a ∧ IsD H1 a ∧ ty σ H1 fun y H2 => ∃ kvs k v, H2 a = some (.dK kvs) ∧ y = kV k ∧ valV kvs k = some v ∧ Q v (upd H2 a (.dK (dropK kvs k)))
section
variable {X : Cx} {o e f : Expr} {apos cpos : Pos} {td ty tx : TE}
theorem pe_dget1 (hu : X.A.units + 1 < cLine) (ho : PE X o td) (he : PE X e ty) (m : M1 X o "get" apos e cpos) : PE X (.Call (.Attribute o "get" apos) [e] [] cpos) (tDGet1 td ty) := by
  intro pins s σ H Q I h
  refine wpAny_Call_method m.base m.few m.line PySem.F.plainAttrs_dict PySem.F.slot_dict_get PySem.F.type_dict_get (thn (ho pins s σ H _ I h) fun u s1 ⟨x, H1, I1, rx, a, ex, d, q1⟩ => ?_)
  subst ex
  obtain rfl : u = Value.ref a := rx
  obtain ⟨t1, t2, _⟩ := isD_at I1 d
  refine ⟨t1, t2, ?_⟩
  rw [m.trees]
  refine Calls.callWith_builtin rfl (Calls.evalArgs_plain (Calls.spliced_cons (thn (he pins s1 σ H1 _ I1 q1) fun iv s2 ⟨y, H2, I2, ry, ov, g, q2⟩ => Calls.spliced_nil ?_)))
  exact d_get1 hu I2 g ry fun w' s3 I3 rw' => ⟨_, H2, I3, rw', q2⟩
end
section
variable {X : Cx} {pins : List (Addr × Obj)} {σ : St} {H : Hp} {s : Shared} {a : Addr} {kvs : List (Key × V)} {A : Around} {E : Value → Shared → Prop}
end
section
variable {X : Cx} {pins : List (Addr × Obj)} {σ : St} {H : Hp} {s : Shared} {a : Addr} {y : V} {u : Value} {A : Around} {E : Value → Shared → Prop}
end
end L2
namespace L2
open PySem PySem.Spec PyProof.Rows
section
variable {X : Cx}
end
section
variable {κ : Type} [DecidableEq κ]
end
end L2
namespace L2
open PySem PySem.Spec PyProof.Rows
structure FunD (K : PySem.W.Frag) (x qual : Str) (st : Stmt) (f : Addr) (fd : FuncData) (dvs : List V) : Prop where
  ex : ∃ (oc : Value) (od : Option Addr) (Td : Addr) (kV doc pm : Value) (an : Option Addr) (cdv ct : Value) (osl : Array (Option Value)) (ot : Obj) (its : List Value) (nt : Nat),
    fd = PySem.W.fnOf x qual (defArgs st) (defBody st) (defScope st) (.ref Td) kV doc pm an cdv ct ∧ K.lookup f = some ⟨oc, od, .func fd, osl⟩ ∧ PySem.W.codeIn K cdv qual = true ∧ K.lookup Td = some ot ∧ ot.data = .seq its.toArray nt ∧ Vals dvs its
  kp : PySem.W.keepIn K (.ref f) = true
section
variable {P : Program} {w : World} {K : PySem.W.Frag} {mg : Str → Option Value} {base : Heap}
theorem FunD.ok {x qual : Str} {st : Stmt} {f : Addr} {fd : FuncData} {N ps : List Str} {k : Nat} {sp : Sp} {dvs : List V} (F : FunD K x qual st f fd dvs) (S : FnScope N ps (defScope st)) (len : ∀ vs H Q E, sp vs H Q E → vs.length = ps.length)
    (hbody : ∀ (cdv : Value) (A : Around) (outer : List Env) (s : Shared) (H : Hp) (vs : List V) (Q : VK) (E : XK), Room k (A.deeper (envOfC qual (defScope st) s.heap.objs.size f cdv)) → sp vs H Q E →
      ∃ t, PSs (cxOf CX0 P w K mg base N qual (defScope st) f cdv A outer s H E).nox (defBody st) t ∧ t { nx := fun _ H' => Q .non H', rt := Q } (start N vs) H) : FnOk P w K mg base CX0 (k + 1) f fd ps sp := by
  obtain ⟨oc, od, Td, kV, doc, pm, an, cdv, ct, osl, ot, its, nt, rfl, lk, hcd, _⟩ := F.ex
  refine fn_of lk hcd S len fun A outer s H vs Q E hr hsp => ?_
  obtain ⟨t, h, q⟩ := hbody cdv A outer s H vs Q E hr hsp
  exact ⟨t, h.nox, q⟩
theorem FunD.okX {x qual : Str} {st : Stmt} {f : Addr} {fd : FuncData} {N ps : List Str} {k : Nat} {sp : Sp} {dvs : List V} (F : FunD K x qual st f fd dvs) (S : FnScope N ps (defScope st)) (len : ∀ vs H Q E, sp vs H Q E → vs.length = ps.length)
    (hbody : ∀ (cdv : Value) (A : Around) (outer : List Env) (s : Shared) (H : Hp) (vs : List V) (Q : VK) (E : XK), Room k (A.deeper (envOfC qual (defScope st) s.heap.objs.size f cdv)) → sp vs H Q E →
      ∃ t, PSs (cxOf (CX1 P w) P w K mg base N qual (defScope st) f cdv A outer s H E) (defBody st) t ∧ t { nx := fun _ H' => Q .non H', rt := Q } (start N vs) H) : FnOk P w K mg base (CX1 P w) (k + 1) f fd ps sp := by
  obtain ⟨oc, od, Td, kV, doc, pm, an, cdv, ct, osl, ot, its, nt, rfl, lk, hcd, _⟩ := F.ex
  exact fn_of lk hcd S len fun A outer s H vs Q E hr hsp => hbody cdv A outer s H vs Q E hr hsp
theorem FunD.binds {x qual : Str} {st : Stmt} {f : Addr} {fd : FuncData} {ps : List Str} {dvs : List V} (F : FunD K x qual st f fd dvs) (n : Nat)
    (h : ∀ (Td : Addr) (kV doc pm : Value) (an : Option Addr) (cdv ct : Value) (its us : List Value), its.length = dvs.length → (us ++ its.drop n).length = ps.length →
      ∃ k, bindArgs (PySem.W.fnOf x qual (defArgs st) (defBody st) (defScope st) (.ref Td) kV doc pm an cdv ct) ⟨us, []⟩ = (seqItems? (.ref Td) >>= k) ∧ k (some its.toArray) = pure (ps.zip (us ++ its.drop n))) : ∃ ds, Binds K fd ps ds ∧ Vals (dvs.drop n) ds := by
  obtain ⟨oc, od, Td, kV, doc, pm, an, cdv, ct, osl, ot, its, nt, rfl, lk, hcd, lt, hdt, hv⟩ := F.ex
  refine ⟨its.drop n, fun s us X hl => ?_, hv.drop n⟩
  obtain ⟨k, e1, e2⟩ := h Td kV doc pm an cdv ct its us hv.length.symm hl
  exact PySem.W.binds_K X rfl lt hdt e1 e2
end
structure ClsFn (K : PySem.W.Frag) (C : Addr) (m : Str) (f : Addr) : Prop where
  ga : PySem.W.specialIn K (.ref C) "__getattribute__" = some (some (.builtin "type.__getattribute__"))
  rd : PySem.W.readsIn K C (.type "type") = true
  fi : PySem.W.findCls K (.ref C) (.type "type") m = some (.val (.ref f))
section
variable {X : Cx} {CX : CXT} {k : Nat} {f C : Addr} {fd : FuncData} {ps ks : List Str} {sp : Sp} {dvs : List V} {ds : List Value} {E : XK} {x m : Str} {p pos apos : Pos} {e o : Expr} {es : List Expr} {ta : TE} {t tk : TA} {kws : List Keyword}
inductive MTab (X : Cx) (CX : CXT) (m : Str) : List (Addr × Sp) → Prop
  | nil : MTab X CX m []
  | cons {C f : Addr} {fd : FuncData} {ps : List Str} {sp : Sp} {k : Nat} {r : List (Addr × Sp)} (c : Cls X.K C) (hm : Meth X.K C m f) (F : FnOk X.prog X.w X.K X.mg X.base CX k f fd ps sp) (hr : Room k X.A) (hb : Binds X.K fd ps []) (t : MTab X CX m r) : MTab X CX m ((C, sp) :: r)
theorem MTab.get {tab : List (Addr × Sp)} (T : MTab X CX m tab) {C : Addr} {sp : Sp} (h : (C, sp) ∈ tab) : ∃ f fd ps k, Cls X.K C ∧ Meth X.K C m f ∧ FnOk X.prog X.w X.K X.mg X.base CX k f fd ps sp ∧ Room k X.A ∧ Binds X.K fd ps [] := by
  induction T with
  | nil => cases h
  | cons c hm F hr hb t ih =>
    rcases List.mem_cons.mp h with z | z
    · cases z
      exact ⟨_, _, _, _, c, hm, F, hr, hb⟩
    · exact ih z
def tMethD (tab : List (Addr × Sp)) (m : Str) (E : XK) (ta : TE) (t : TA) : TE := fun σ H Q => ta σ H fun x H1 => ∃ a C dx fs sp, x = .ref a ∧ H1 a = some (.ins C dx fs) ∧ (C, sp) ∈ tab ∧ fs.lookup m = none ∧ t σ H1 fun vs H2 => sp (x :: vs) H2 Q E
theorem pe_methD {pl : Sem Bool} {tab : List (Addr × Sp)} (he : PE X o ta) (T : MTab X CX m tab) (hx : Passes CX X E) (ha : PA X (e :: es) t)
    (hst : starEach (e :: es) X.env = (false, eval e X.env) :: starEach es X.env := by rfl) (hpl : (backTo pos (starEach es X.env)).any (·.1) = false := by rfl)
    (ht : eval (.Call (.Attribute o m apos) (e :: es) [] pos) X.env = (do
      let ov ← eval o X.env
      standAt apos.atName
      let (f, first) ← holding [ov] (getMethod ov m pl)
      callWith pos f first (backTo pos (starEach (e :: es) X.env)) (backToKw pos (keywordEach [] X.env))) := by rfl) :
    PE X (.Call (.Attribute o m apos) (e :: es) [] pos) (tMethD tab m E ta t) := by
  intro pins s σ H Q I h
  refine PySem.W.methodCall_KW (pl := pl) (thn (he pins s σ H _ I h) fun u s1 ⟨y, H1, I1, rx, a, C, dx, fs, sp, ex, ea, hmem, l, q⟩ => ?_) ht
  subst ex
  obtain rfl : u = Value.ref a := rx
  obtain ⟨f, fd, ps, k, c, hm, F, hr, hb⟩ := T.get hmem
  refine getmeth_ok I1 ea c hm l ?_
  refine PySem.W.callWith_K (first := [.ref a]) (h₀ := X.base) I.ok.mod.kin hm.kp (thn (ha pos pins s1 σ H1 _ I1 q) fun us s2 ⟨vs, H2, I2, r, q2⟩ => ⟨I2.kIn, ?_⟩) hst hpl
  exact run_fn (us := .ref a :: us) (vs := .ref a :: vs) (dvs := []) (ds := []) F hr hb .nil hx I2 (.cons rfl r) (by rw [List.append_nil]; exact q2)
theorem pe_methD0 {pl : Sem Bool} {tab : List (Addr × Sp)} (he : PE X o ta) (T : MTab X CX m tab) (hx : Passes CX X E)
    (ht : eval (.Call (.Attribute o m apos) [] [] pos) X.env = (do
      let ov ← eval o X.env
      standAt apos.atName
      let (f, first) ← holding [ov] (getMethod ov m pl)
      callWith pos f first (backTo pos (starEach [] X.env)) (backToKw pos (keywordEach [] X.env))) := by rfl) :
    PE X (.Call (.Attribute o m apos) [] [] pos) (tMethD tab m E ta tNil) := by
  intro pins s σ H Q I h
  refine PySem.W.methodCall_KW (pl := pl) (thn (he pins s σ H _ I h) fun u s1 ⟨y, H1, I1, rx, a, C, dx, fs, sp, ex, ea, hmem, l, q⟩ => ?_) ht
  subst ex
  obtain rfl : u = Value.ref a := rx
  obtain ⟨f, fd, ps, k, c, hm, F, hr, hb⟩ := T.get hmem
  refine getmeth_ok I1 ea c hm l ?_
  exact PySem.W.callWith_K0 (first := [.ref a]) I1.kIn hm.kp (run_fn (us := [.ref a]) (vs := [.ref a]) (dvs := []) (ds := []) F hr hb .nil hx I1 (.cons rfl .nil) q)
def tMakeK (C : Addr) (sp : Sp) (gV : List V → List V → List V) (E : XK) (t tk : TA) : TE := fun σ H Q => t σ H fun vs H1 => tk σ H1 fun zs H2 => ∀ y dx, H2 y = none → H2 dx = none → dx ≠ y →
  sp (gV (.ref y :: vs) zs) (upd (upd H2 dx (.own y)) y (.ins C dx [])) (fun v H3 => v = .non ∧ Q (.ref y) H3) E
variable {g : List Value → List Value → List Value} {gV : List V → List V → List V}
end
theorem putF_new (f : Str) (v : V) : ∀ {fs : List (Str × V)}, (fs.map (·.1)).contains f = false → putF f v fs = fs ++ [(f, v)]
  | [], _ => rfl
  | (g, x) :: r, h => by
    rw [List.map_cons, List.contains_cons] at h
    have h1 : ¬ g = f := fun e => by rw [e] at h; simp at h
    have h2 : (r.map (·.1)).contains f = false := (Bool.or_eq_false_iff.mp h).2
    show (if g = f then (g, v) :: r else (g, x) :: putF f v r) = _
    rw [if_neg h1, putF_new f v h2]
    rfl
structure InsTy (K : PySem.W.Frag) (C : Addr) : Prop where
  cl : Cls K C
  ha : PySem.W.findIn K (.ref C) "__class__" = some (some (.builtin "object.__class__"))
  hn : PySem.W.specialIn K (.builtin "object.__class__") "__get__" = some (some (.builtin "getset_descriptor.__get__"))
  htk : PySem.W.takesIn K (.builtin "object.__class__") = some true
  hm : PySem.W.mroIn K C (.type "object") = some true
theorem InsTy.of {K : PySem.W.Frag} {C a dx : Addr} {H : Hp} {fs : List (Str × V)} (z : InsTy K C) (h : H a = some (.ins C dx fs)) : TyOf K H (.ref a) (.ref C) := .ins h z.cl z.ha z.hn z.htk z.hm
end L2
namespace L2
open PySem PySem.Spec PyProof.Rows
def signs (x : Str) : List V := x.cps.toList.map fun c => V.str ⟨#[c]⟩
def Itst (x : Str) : It := ⟨fun i _ => i < x.cps.size, fun i H v H' => H' = H ∧ (signs x)[i]? = some v, fun i _ => x.cps.size ≤ i⟩
section
variable {X : Cx} {K : PySem.W.Frag} {tg : Expr}
def iStr (tl : TE) : TI := fun σ H R => tl σ H fun x H1 => ∃ z, x = .str z ∧ R (Itst z) H1
variable {σ : St} {H : Hp} {R : It → Hp → Prop} {tl : TE} {cap : List (Option Nat)} {g : TG} {tt : TT} {te : TE} {Q : VK} {x : Str}
theorem ap_iStr : iStr tl σ H R = tl σ H fun x H1 => ∃ z, x = .str z ∧ R (Itst z) H1 := rfl
theorem CompP.str (Sσ : St → Prop) (p : V → Bool) (F : V → V) (h0 : Sσ (capSt σ cap)) (hz : x.cps.size ≤ sizeLine)
    (hs : ∀ y ∈ signs x, ∀ (σ : St) (H5 : Hp) (R1 : St → VK) (R2 : St → Hp → Prop), Sσ σ → Same H H5 → (p y = true → ∀ σ4 H6, Sσ σ4 → Same H5 H6 → R1 σ4 (F y) H6) → (p y = false → ∀ σ4 H6, Sσ σ4 → Same H5 H6 → R2 σ4 H6) →
      g y σ H5 fun σ4 H4 => tt σ4 H4 fun b H5 => if b = true then te σ4 H5 (R1 σ4) else R2 σ4 H5)
    (k : ∀ D H', H D = Option.none → Same H H' → H' D = some (.lst (((signs x).filter p).map F)) → Q (.ref D) H') : CompP cap (Itst x) g tt te σ H Q := fun D hD => by
  have hl : (signs x).length = x.cps.size := by simp [signs]
  refine comp_step (xs := signs x) (Itst x) Sσ p F hD h0 (by omega) (fun i y H' hy sm => ?_) (fun H' sm => ?_) hs fun H' s e => k D H' hD s e
  · have hi : i < (signs x).length := (List.getElem?_eq_some_iff.mp hy).1
    exact ⟨by show i < x.cps.size; omega, fun z H2 hz => ⟨Option.some.inj (hz.2.symm.trans hy), hz.1⟩⟩
  · show x.cps.size ≤ _
    omega
def rLeS : R2 := fun x y H Q => ∃ i j, x = .str i ∧ y = .str j ∧ Q (.bl (!decide (j.cps.toList < i.cps.toList))) H
def rInD (neg : Bool) : R2 := fun y x H Q => ∃ a o, x = .ref a ∧ DGet H a y o ∧ Q (.bl (if neg then !o.isSome else o.isSome)) H
def rDictOf : List V → Hp → VK → Prop := fun xs H Q => ∃ a kvs, xs = [.ref a] ∧ Rd H a (.dK kvs) ∧ ∀ p, H p = none → Q (.ref p) (upd H p (.dK kvs))
theorem ps_fldK {o value : Expr} {f : Str} {ta tv : TE} {pos pos' : Pos} (ha : PE X o ta) (hv : PE X value tv) (hs : swapsWith value (some (.Attribute o f pos')) pos.line X.env = pure false) (hK : X.K = K := by rfl) : PS X (.Assign [.Attribute o f pos'] value pos) (sFld K ta tv f) := hK ▸ ps_fld ha hv hs
variable {ta tv ty td tx : TE} {f : Str} {D : Ends} {C : Addr} {tab : List (Addr × Sp)} {m : Str} {E : XK} {t tk : TA} {sp : Sp} {dvs : List V} {gV : List V → List V → List V}
theorem ap_fldK : tFld K ta f σ H Q = ta σ H fun x H1 => ∃ a C dx fs v, x = .ref a ∧ H1 a = some (.ins C dx fs) ∧ Cls K C ∧ NoAttr K C f ∧ fs.lookup f = some v ∧ Q v H1 := rfl
theorem ap_sFld : sFld K ta tv f D σ H = tv σ H fun y H1 => ta σ H1 fun x H2 => ∃ a C dx fs, x = .ref a ∧ H2 a = some (.ins C dx fs) ∧ Cls K C ∧ NoAttr K C f ∧ fs.length < 1000 ∧ D.nx σ (upd H2 a (.ins C dx (putF f y fs))) := rfl
theorem ap_methD : tMethD tab m E ta t σ H Q = ta σ H fun x H1 => ∃ a C dx fs sp, x = .ref a ∧ H1 a = some (.ins C dx fs) ∧ (C, sp) ∈ tab ∧ fs.lookup m = none ∧ t σ H1 fun vs H2 => sp (x :: vs) H2 Q E := rfl
theorem ap_make : tMake C sp dvs E t σ H Q = t σ H fun vs H1 => ∀ x dx, H1 x = none → H1 dx = none → dx ≠ x → sp (.ref x :: (vs ++ dvs)) (upd (upd H1 dx (.own x)) x (.ins C dx [])) (fun v H2 => v = .non ∧ Q (.ref x) H2) E := rfl
theorem ap_makeK : tMakeK C sp gV E t tk σ H Q = t σ H fun vs H1 => tk σ H1 fun zs H2 => ∀ y dx, H2 y = none → H2 dx = none → dx ≠ y → sp (gV (.ref y :: vs) zs) (upd (upd H2 dx (.own y)) y (.ins C dx [])) (fun v H3 => v = .non ∧ Q (.ref y) H3) E := rfl
theorem ap_dget2 : tDGet2 td ty tx σ H Q = td σ H fun x H1 => ∃ a, x = .ref a ∧ IsD H1 a ∧ ty σ H1 fun y H2 => tx σ H2 fun z H3 => ∃ o, DGet H3 a y o ∧ Q (o.getD z) H3 := rfl
theorem ap_dget : tDGet td ty σ H Q = td σ H fun x H1 => ty σ H1 fun y H2 => ∃ a v, x = .ref a ∧ DGet H2 a y (some v) ∧ Q v H2 := rfl
theorem ap_dput : sDPut td ty tv D σ H = tv σ H fun v H1 => td σ H1 fun x H2 => ty σ H2 fun y H3 => ∃ a H4, x = .ref a ∧ DPut H3 a y v H4 ∧ D.nx σ H4 := rfl
theorem ap_dnewK : tDNewK σ H Q = ∀ p, H p = none → Q (.ref p) (upd H p (.dK [])) := rfl
theorem ap_dpop1 : tDPop1 td ty σ H Q = td σ H fun x H1 => ∃ a, x = .ref a ∧ IsD H1 a ∧ ty σ H1 fun y H2 => ∃ kvs k v, H2 a = some (.dK kvs) ∧ y = kV k ∧ valV kvs k = some v ∧ Q v (upd H2 a (.dK (dropK kvs k))) := rfl
theorem ap_dictOf {p : Addr} : rDictOf [.ref p] H Q = ∃ kvs, Rd H p (.dK kvs) ∧ ∀ q, H q = none → Q (.ref q) (upd H q (.dK kvs)) := by simp [rDictOf]
theorem ap_inD {neg : Bool} {x y : V} : rInD neg y x H Q = ∃ a o, x = .ref a ∧ DGet H a y o ∧ Q (.bl (if neg then !o.isSome else o.isSome)) H := rfl
theorem ap_leS {i j : Str} : rLeS (.str i) (.str j) H Q = Q (.bl (!decide (j.cps.toList < i.cps.toList))) H := propext ⟨fun ⟨i', j', e1, e2, q⟩ => by cases e1; cases e2; exact q, fun q => ⟨i, j, rfl, rfl, q⟩⟩
theorem ap_rIsC {y : V} : rIsC K [y, .ref C] H Q = ∃ t k, TyOf K H y t ∧ PySem.W.kitOne K t (.ref C) = some k ∧ Q (.bl k) H := propext ⟨fun ⟨x', C', t, k, e, r⟩ => by cases e; exact ⟨t, k, r⟩, fun ⟨t, k, r⟩ => ⟨y, C, t, k, rfl, r⟩⟩
theorem ap_ixT {x y : V} : rIxT K x y H Q = ∃ p xs i v, x = .ref p ∧ y = .int i ∧ SqT K H p xs ∧ atI xs i = some v ∧ Q v H := rfl
theorem ap_ixS {x y : V} : rIxS x y H Q = ∃ z i c, x = .str z ∧ y = .int i ∧ z.length ≤ sizeLine ∧ atI z.cps.toList i = some c ∧ Q (.str ⟨#[c]⟩) H := rfl
theorem ap_slT {x : V} {lo hi : Option Int} : rSlT K x lo hi H Q = ∃ a xs, x = .ref a ∧ SqT K H a xs ∧ ¬ (HT.sIx xs.length 0 lo = 0 ∧ HT.sIx xs.length xs.length hi = xs.length) ∧ ∀ p, H p = none → Q (.ref p) (upd H p (.tup (cutV xs lo hi))) := rfl
theorem ap_rTupOf {p : Addr} : rTupOf K [.ref p] H Q = ∃ ys, ((SqL K H p ys ∧ ∀ l, H l = none → Q (.ref l) (upd H l (.tup ys))) ∨ (SqT K H p ys ∧ Q (.ref p) H)) := by simp [rTupOf]
theorem ap_rIn {neg : Bool} {x y : V} : rIn K neg x y H Q = ∃ p xs, y = .ref p ∧ (SqL K H p xs ∨ SqT K H p xs) ∧ flatV x = true ∧ xs.all flatV = true ∧ Q (.bl (if neg then !inV x xs else inV x xs)) H := rfl
theorem ap_lenS {z : Str} : (fun (xs : List V) (H : Hp) (Q : VK) => ∃ z, xs = [V.str z] ∧ z.length ≤ sizeLine ∧ Q (.int z.length) H) [.str z] H Q = (z.length ≤ sizeLine ∧ Q (.int z.length) H) := propext ⟨fun ⟨z', e, r⟩ => by cases e; exact r, fun r => ⟨z, rfl, r⟩⟩
end
end L2
namespace L2
open PySem PySem.W PySem.Spec PyProof.Rows
section
variable {α β : Type} {lt : Nat → Nat → Bool} {n : Nat}
def Kok (lt : Nat → Nat → Bool) (n : Nat) (R : α → Prop) : KasT α → Prop
  | .ret a => R a
  | .ask i j k => i < n ∧ j < n ∧ Kok lt n R (k (lt i j))
theorem Kok.bind {R : α → Prop} {S : β → Prop} {f : α → KasT β} : ∀ {t : KasT α}, Kok lt n R t → (∀ a, R a → Kok lt n S (f a)) → Kok lt n S (t.bind f)
  | .ret a, h, k => k a h
  | .ask i j q, h, k => ⟨h.1, h.2.1, Kok.bind (t := q (lt i j)) h.2.2 k⟩
theorem Kok.wp {R : α → Prop} {cmp : Nat → Nat → (Bool → Shared → Prop) → Shared → Prop} {s : Shared} {Q : α → Shared → Prop} (hc : ∀ i j (C : Bool → Shared → Prop), i < n → j < n → C (lt i j) s → cmp i j C s) :
    ∀ {t : KasT α}, Kok lt n R t → (∀ a, R a → Q a s) → t.kasWp cmp Q s
  | .ret a, h, k => k a h
  | .ask i j q, h, k => hc i j _ h.1 h.2.1 (Kok.wp hc (t := q (lt i j)) h.2.2 k)
def Prm (n : Nat) (p : Array Nat) : Prop := p.toList.Perm (List.range n)
theorem Prm.ltn {p : Array Nat} (h : Prm n p) (hn : 0 < n) (i : Nat) : p.getD i 0 < n := by
  by_cases hi : i < p.size
  · have hm : p.getD i 0 ∈ p.toList := by simp [Array.getD, hi]
    exact List.mem_range.mp (h.mem_iff.mp hm)
  · simp [Array.getD, hi, hn]
theorem Prm.rev {p : Array Nat} (h : Prm n p) (i j : Nat) : Prm n (kas_rev p i j) := (Array.perm_iff_toList_perm.mp (mirror_perm p i j _)).trans h
theorem Prm.bub {p : Array Nat} (h : Prm n p) (k d : Nat) : Prm n (bubble p k d) := (Array.perm_iff_toList_perm.mp (bubble_perm p k d)).trans h
theorem kok_asc {p : Array Nat} (h : Prm n p) (hn : 0 < n) : ∀ f m, Kok lt n (fun _ => True) (kas_asc p f m)
  | 0, _ => trivial
  | f + 1, m => ⟨Prm.ltn h hn _, Prm.ltn h hn _, by
    dsimp only
    by_cases hc : lt (p.getD m 0) (p.getD (m - 1) 0) = true
    · rw [if_pos hc]; trivial
    · rw [if_neg hc]; exact kok_asc h hn f (m + 1)⟩
theorem kok_desc (hn : 0 < n) : ∀ f {p : Array Nat} m q, Prm n p → Kok lt n (fun r : Array Nat × Nat × Nat => Prm n r.1) (kas_desc f p m q)
  | 0, _, _, _, h => h
  | f + 1, p, m, q, h => ⟨Prm.ltn h hn _, Prm.ltn h hn _, by
    dsimp only
    by_cases hc : lt (p.getD m 0) (p.getD (m - 1) 0) = true
    · rw [if_pos hc]
      by_cases hq : q > 0
      · rw [if_pos hq]; exact kok_desc hn f _ _ (h.rev _ _)
      · rw [if_neg hq]; exact kok_desc hn f _ _ h
    · rw [if_neg hc]
      refine ⟨Prm.ltn h hn _, Prm.ltn h hn _, ?_⟩
      dsimp only
      by_cases hd : lt (p.getD (m - 1) 0) (p.getD m 0) = true
      · rw [if_pos hd]; exact h
      · rw [if_neg hd]; exact kok_desc hn f _ _ h⟩
theorem kok_tail {p : Array Nat} (h : Prm n p) (hn : 0 < n) (m r : Nat) : Kok lt n (fun r : Nat × Array Nat => Prm n r.2) (kas_tail3 m r p) :=
  Kok.bind (kok_asc (h.rev _ _) hn _ _) fun _ _ => h.rev 0 m
theorem kok_part {p : Array Nat} (h : Prm n p) (hn : 0 < n) (m r : Nat) : Kok lt n (fun r : Nat × Array Nat => Prm n r.2) (kas_descPart m r p) :=
  Kok.bind (kok_desc hn _ _ _ h) fun a ha => by
    by_cases hq : a.2.2 > 0
    · rw [if_pos hq]; exact kok_tail (ha.rev _ _) hn _ _
    · rw [if_neg hq]; exact kok_tail ha hn _ _
theorem kok_count {p : Array Nat} (h : Prm n p) (hn : 0 < n) (r : Nat) : Kok lt n (fun r : Nat × Array Nat => Prm n r.2) (kas_count r p) :=
  Kok.bind (kok_asc h hn _ _) fun m _ => by
    by_cases h1 : (m == r) = true
    · rw [if_pos h1]; exact h
    · rw [if_neg h1]
      by_cases h2 : m > 1
      · rw [if_pos h2]
        refine ⟨Prm.ltn h hn _, Prm.ltn h hn _, ?_⟩
        dsimp only
        by_cases h3 : lt (p.getD 0 0) (p.getD (m - 1) 0) = true
        · rw [if_pos h3]; exact h
        · rw [if_neg h3]; exact kok_part (h.rev _ _) hn _ _
      · rw [if_neg h2]; exact kok_part h hn _ _
theorem kok_place {p : Array Nat} (h : Prm n p) (hn : 0 < n) (k : Nat) : ∀ f l r, Kok lt n (fun _ => True) (kas_place p k f l r)
  | 0, _, _ => trivial
  | f + 1, l, r => by
    show Kok lt n _ (if l ≥ r then _ else _)
    by_cases h1 : l ≥ r
    · rw [if_pos h1]; trivial
    · rw [if_neg h1]
      refine ⟨Prm.ltn h hn _, Prm.ltn h hn _, ?_⟩
      dsimp only
      by_cases h3 : lt (p.getD k 0) (p.getD ((l + r) / 2) 0) = true
      · rw [if_pos h3]; exact kok_place h hn k f _ _
      · rw [if_neg h3]; exact kok_place h hn k f _ _
theorem kok_bin (hn : 0 < n) : ∀ f {p : Array Nat} k, Prm n p → Kok lt n (Prm n) (kas_bin f p k)
  | 0, _, _, h => h
  | f + 1, p, k, h => Kok.bind (kok_place h hn k k 0 k) fun l _ => kok_bin hn f _ (h.bub _ _)
theorem kok_sort (hn : 0 < n) : Kok lt n (Prm n) (kas_sort n) :=
  Kok.bind (kok_count (p := (List.range n).toArray) (by unfold Prm; simp) hn n) fun a ha => by
    by_cases h1 : a.1 < n
    · rw [if_pos h1]; exact kok_bin hn _ _ ha
    · rw [if_neg h1]; exact ha
end
section
variable {key : Nat → Int} {n : Nat}
def Up (key : Nat → Int) (p : Array Nat) (m : Nat) : Prop := ∀ a b, a < b → b < m → key (p.getD a 0) < key (p.getD b 0)
def Dn (key : Nat → Int) (p : Array Nat) (m : Nat) : Prop := ∀ a b, a < b → b < m → key (p.getD b 0) < key (p.getD a 0)
theorem getD_opt (p : Array Nat) (k : Nat) : p.getD k 0 = (p[k]?).getD 0 := by
  by_cases h : k < p.size
  · simp [Array.getD, h]
  · simp [Array.getD, h]
theorem Prm.size {p : Array Nat} (h : Prm n p) : p.size = n := by
  have := h.length_eq
  simpa using this
theorem Prm.unlike {p : Array Nat} (h : Prm n p) (hk : ∀ i j, i < n → j < n → key i = key j → i = j) {a b : Nat} (ha : a < n) (hb : b < n) (hne : a ≠ b) : key (p.getD a 0) ≠ key (p.getD b 0) := fun e => by
  have hs := h.size
  have hn : 0 < n := by omega
  have e1 := hk _ _ (h.ltn hn a) (h.ltn hn b) e
  have hnd : p.toList.Nodup := h.nodup_iff.mpr List.nodup_range
  have e2 : p.toList[a]'(by simpa [hs] using ha) = p.toList[b]'(by simpa [hs] using hb) := by
    have q1 : p.getD a 0 = p[a]'(by omega) := by simp [Array.getD, hs, ha]
    have q2 : p.getD b 0 = p[b]'(by omega) := by simp [Array.getD, hs, hb]
    rw [q1, q2] at e1
    simpa using e1
  exact hne ((List.getElem_inj hnd).mp e2)
theorem rev_get {p : Array Nat} {i j : Nat} (hj : j ≤ p.size) (k : Nat) : (kas_rev p i j).getD k 0 = if i ≤ k ∧ k < j then p.getD (i + j - 1 - k) 0 else p.getD k 0 := by
  unfold kas_rev
  rw [getD_opt, getElem?_mirror_all hj]
  by_cases c : i ≤ k ∧ k < j
  · rw [if_pos c, if_pos c, getD_opt]
  · rw [if_neg c, if_neg c, getD_opt]
theorem bub_get {p : Array Nat} {k l : Nat} (hk : k < p.size) (hl : l ≤ k) (a : Nat) : (bubble p k (k - l)).getD a 0 = if a = l then p.getD k 0 else if l < a ∧ a ≤ k then p.getD (a - 1) 0 else p.getD a 0 := by
  rw [getD_opt, getElem?_bubble hk (k - l) (by omega), show k - (k - l) = l by omega]
  by_cases c1 : a = l
  · rw [if_pos c1, if_pos c1, getD_opt]
  · rw [if_neg c1, if_neg c1]
    by_cases c2 : l < a ∧ a ≤ k
    · rw [if_pos c2, if_pos c2, getD_opt]
    · rw [if_neg c2, if_neg c2, getD_opt]
theorem Kok.mono {α : Type} {lt : Nat → Nat → Bool} {R S : α → Prop} (h : ∀ a, R a → S a) : ∀ {t : KasT α}, Kok lt n R t → Kok lt n S t
  | .ret a, q => h a q
  | .ask i j k, q => ⟨q.1, q.2.1, Kok.mono h q.2.2⟩
theorem Up.snoc {p : Array Nat} {m : Nat} (h : Up key p m) (h1 : 1 ≤ m) (hl : key (p.getD (m - 1) 0) < key (p.getD m 0)) : Up key p (m + 1) := fun a b hab hb => by
  by_cases e : b = m
  · subst e
    by_cases e2 : a = b - 1
    · subst e2; exact hl
    · exact Int.lt_trans (h a (b - 1) (by omega) (by omega)) hl
  · exact h a b hab (by omega)
theorem Dn.snoc {p : Array Nat} {m : Nat} (h : Dn key p m) (h1 : 1 ≤ m) (hl : key (p.getD m 0) < key (p.getD (m - 1) 0)) : Dn key p (m + 1) := fun a b hab hb => by
  by_cases e : b = m
  · subst e
    by_cases e2 : a = b - 1
    · subst e2; exact hl
    · exact Int.lt_trans hl (h a (b - 1) (by omega) (by omega))
  · exact h a b hab (by omega)
theorem o_asc (hk : ∀ i j, i < n → j < n → key i = key j → i = j) {p : Array Nat} (h : Prm n p) : ∀ f m, 1 ≤ m → m + f ≤ n → Up key p m →
    Kok (fun i j => decide (key i < key j)) n (fun r => m ≤ r ∧ r ≤ m + f ∧ Up key p r ∧ (r < m + f → key (p.getD r 0) < key (p.getD (r - 1) 0))) (kas_asc p f m)
  | 0, m, h1, h2, hu => ⟨Nat.le_refl _, Nat.le_refl _, hu, fun z => absurd z (by omega)⟩
  | f + 1, m, h1, h2, hu => ⟨Prm.ltn h (by omega) _, Prm.ltn h (by omega) _, by
    dsimp only
    by_cases hc : key (p.getD m 0) < key (p.getD (m - 1) 0)
    · rw [if_pos (by simpa using hc)]
      exact ⟨Nat.le_refl _, by omega, hu, fun _ => hc⟩
    · rw [if_neg (by simpa using hc)]
      have hne := h.unlike hk (show m - 1 < n by omega) (show m < n by omega) (by omega)
      refine Kok.mono (fun r hr => ?_) (o_asc hk h f (m + 1) (by omega) (by omega) (hu.snoc h1 (by omega)))
      exact ⟨by omega, by omega, hr.2.2.1, fun z => hr.2.2.2 (by omega)⟩⟩
theorem o_desc (hk : ∀ i j, i < n → j < n → key i = key j → i = j) {p : Array Nat} (h : Prm n p) : ∀ f m, 1 ≤ m → m + f ≤ n → Dn key p m →
    Kok (fun i j => decide (key i < key j)) n (fun r : Array Nat × Nat × Nat => r.1 = p ∧ r.2.2 = 0 ∧ m ≤ r.2.1 ∧ r.2.1 ≤ m + f ∧ Dn key p r.2.1) (kas_desc f p m 0)
  | 0, m, h1, h2, hu => ⟨rfl, rfl, Nat.le_refl _, Nat.le_refl _, hu⟩
  | f + 1, m, h1, h2, hu => ⟨Prm.ltn h (by omega) _, Prm.ltn h (by omega) _, by
    dsimp only
    by_cases hc : key (p.getD m 0) < key (p.getD (m - 1) 0)
    · rw [if_pos (by simpa using hc), if_neg (by omega)]
      refine Kok.mono (fun r hr => ?_) (o_desc hk h f (m + 1) (by omega) (by omega) (hu.snoc h1 hc))
      exact ⟨hr.1, hr.2.1, by omega, by omega, hr.2.2.2.2⟩
    · rw [if_neg (by simpa using hc)]
      have hne := h.unlike hk (show m - 1 < n by omega) (show m < n by omega) (by omega)
      refine ⟨Prm.ltn h (by omega) _, Prm.ltn h (by omega) _, ?_⟩
      dsimp only
      rw [if_pos (decide_eq_true (by omega))]
      exact ⟨rfl, rfl, Nat.le_refl _, by show m ≤ _; omega, hu⟩⟩
theorem o_tail (hk : ∀ i j, i < n → j < n → key i = key j → i = j) {p : Array Nat} (h : Prm n p) {m : Nat} (h1 : 1 ≤ m) (h2 : m ≤ n) (hd : Dn key p m) :
    Kok (fun i j => decide (key i < key j)) n (fun r : Nat × Array Nat => Prm n r.2 ∧ 1 ≤ r.1 ∧ r.1 ≤ n ∧ Up key r.2 r.1) (kas_tail3 m n p) := by
  have hs := h.size
  have hu : Up key (kas_rev p 0 m) m := fun a b hab hb => by
    rw [rev_get (by omega), rev_get (by omega), if_pos (by omega), if_pos (by omega)]
    exact hd _ _ (by omega) (by omega)
  refine Kok.bind (o_asc hk (h.rev 0 m) (n - m) m h1 (by omega) hu) fun r hr => ?_
  exact ⟨h.rev 0 m, by show 1 ≤ r; omega, by show r ≤ n; omega, hr.2.2.1⟩
theorem o_part (hk : ∀ i j, i < n → j < n → key i = key j → i = j) {p : Array Nat} (h : Prm n p) {m : Nat} (h2 : m + 1 ≤ n) (hd : Dn key p (m + 1)) :
    Kok (fun i j => decide (key i < key j)) n (fun r : Nat × Array Nat => Prm n r.2 ∧ 1 ≤ r.1 ∧ r.1 ≤ n ∧ Up key r.2 r.1) (kas_descPart m n p) := by
  refine Kok.bind (o_desc hk h (n - (m + 1)) (m + 1) (by omega) (by omega) hd) fun r hr => ?_
  obtain ⟨r1, r2, r3⟩ := r
  obtain ⟨e1, e2, e3, e4, e5⟩ := hr
  dsimp only at e1 e2 e3 e4 e5 ⊢
  subst e1 e2
  rw [if_neg (by omega)]
  exact o_tail hk h (by omega) (by omega) e5
theorem o_count (hk : ∀ i j, i < n → j < n → key i = key j → i = j) {p : Array Nat} (h : Prm n p) (hn : 1 ≤ n) :
    Kok (fun i j => decide (key i < key j)) n (fun r : Nat × Array Nat => Prm n r.2 ∧ 1 ≤ r.1 ∧ r.1 ≤ n ∧ Up key r.2 r.1) (kas_count n p) := by
  refine Kok.bind (o_asc hk h (n - 1) 1 (by omega) (by omega) fun a b h1 h2 => absurd h1 (by omega)) fun m hm => ?_
  obtain ⟨m1, m2, m3, m4⟩ := hm
  by_cases h1 : (m == n) = true
  · rw [if_pos h1]
    exact ⟨h, m1, by show m ≤ n; omega, m3⟩
  · rw [if_neg h1]
    have h1 : m ≠ n := by simpa using h1
    by_cases h2 : m > 1
    · rw [if_pos h2]
      refine ⟨Prm.ltn h (by omega) _, Prm.ltn h (by omega) _, ?_⟩
      dsimp only
      have := m3 0 (m - 1) (by omega) (by omega)
      rw [if_pos (by simpa using this)]
      exact ⟨h, m1, by show m ≤ n; omega, m3⟩
    · rw [if_neg h2]
      have e : m = 1 := by omega
      subst e
      exact o_part hk h (by omega) fun a b hab hb => by
        have : a = 0 := by omega
        have : b = 1 := by omega
        subst a b
        exact m4 (by omega)
theorem o_place {p : Array Nat} (h : Prm n p) {k : Nat} (hkn : k < n) (hu : Up key p k) : ∀ f l r, l ≤ r → r ≤ k → r - l ≤ f → (∀ a, a < l → key (p.getD a 0) ≤ key (p.getD k 0)) → (∀ a, r ≤ a → a < k → key (p.getD k 0) < key (p.getD a 0)) →
    Kok (fun i j => decide (key i < key j)) n (fun l' => l' ≤ k ∧ (∀ a, a < l' → key (p.getD a 0) ≤ key (p.getD k 0)) ∧ (∀ a, l' ≤ a → a < k → key (p.getD k 0) < key (p.getD a 0))) (kas_place p k f l r)
  | 0, l, r, h1, h2, h3, ha, hb => ⟨by omega, ha, fun a q1 q2 => hb a (by omega) q2⟩
  | f + 1, l, r, h1, h2, h3, ha, hb => by
    show Kok _ n _ (if l ≥ r then _ else _)
    by_cases hc : l ≥ r
    · rw [if_pos hc]
      exact ⟨by omega, ha, fun a q1 q2 => hb a (by omega) q2⟩
    · rw [if_neg hc]
      refine ⟨Prm.ltn h (by omega) _, Prm.ltn h (by omega) _, ?_⟩
      dsimp only
      by_cases hd : key (p.getD k 0) < key (p.getD ((l + r) / 2) 0)
      · rw [if_pos (by simpa using hd)]
        refine o_place h hkn hu f _ _ (by omega) (by omega) (by omega) ha fun a q1 q2 => ?_
        by_cases e : a = (l + r) / 2
        · rw [e]; exact hd
        · exact Int.lt_trans hd (hu _ _ (by omega) q2)
      · rw [if_neg (by simpa using hd)]
        refine o_place h hkn hu f _ _ (by omega) (by omega) (by omega) (fun a q1 => ?_) hb
        by_cases e : a = (l + r) / 2
        · rw [e]; omega
        · have := hu a ((l + r) / 2) (by omega) (by omega)
          omega
theorem o_bin (hk : ∀ i j, i < n → j < n → key i = key j → i = j) : ∀ f {p : Array Nat} k, Prm n p → k + f = n → Up key p k → Kok (fun i j => decide (key i < key j)) n (fun p' => Prm n p' ∧ Up key p' n) (kas_bin f p k)
  | 0, p, k, h, e, hu => ⟨h, by rwa [← e]⟩
  | f + 1, p, k, h, e, hu => by
    refine Kok.bind (o_place h (by omega) hu k 0 k (by omega) (by omega) (by omega) (fun a q => absurd q (by omega)) (fun a q1 q2 => absurd q2 (by omega))) fun l hl => ?_
    obtain ⟨l1, l2, l3⟩ := hl
    have hs := h.size
    refine o_bin hk f (k + 1) (h.bub _ _) (by omega) fun a b hab hb => ?_
    have hlt : ∀ x, x < l → key (p.getD x 0) < key (p.getD k 0) := fun x hx => by
      have := l2 x hx
      have := h.unlike hk (show x < n by omega) (show k < n by omega) (by omega)
      omega
    rw [bub_get (by omega) l1, bub_get (by omega) l1]
    by_cases c1 : a = l
    · rw [if_pos c1, if_neg (by omega), if_pos (by omega)]
      exact l3 _ (by omega) (by omega)
    · rw [if_neg c1]
      by_cases c2 : b = l
      · rw [if_neg (by omega), if_pos c2]
        exact hlt _ (by omega)
      · rw [if_neg c2]
        by_cases c3 : l < a
        · rw [if_pos (by omega), if_pos (by omega)]
          exact hu _ _ (by omega) (by omega)
        · rw [if_neg (by omega)]
          by_cases c4 : l < b
          · rw [if_pos (by omega)]
            by_cases c5 : b - 1 = a
            · omega
            · exact hu _ _ (by omega) (by omega)
          · rw [if_neg (by omega)]
            exact hu _ _ hab (by omega)
theorem o_sort (hk : ∀ i j, i < n → j < n → key i = key j → i = j) (hn : 1 ≤ n) : Kok (fun i j => decide (key i < key j)) n (fun p => Prm n p ∧ Up key p n) (kas_sort n) :=
  Kok.bind (o_count hk (p := (List.range n).toArray) (by unfold Prm; simp) hn) fun a ha => by
    obtain ⟨a1, a2, a3, a4⟩ := ha
    by_cases h1 : a.1 < n
    · rw [if_pos h1, show max a.1 1 = a.1 by omega]
      exact o_bin hk _ _ a1 (by omega) a4
    · rw [if_neg h1]
      have e : a.1 = n := by omega
      exact ⟨a1, by rwa [e] at a4⟩
end
section
variable {n : Nat} {lt : Nat → Nat → Bool}
theorem count_lt {p q : Nat → Bool} : ∀ {l : List Nat} {i : Nat}, i ∈ l → (∀ x ∈ l, p x = true → q x = true) → p i = false → q i = true → l.countP p < l.countP q
  | [], _, h, _, _, _ => by cases h
  | a :: l, i, h, hpq, hp, hq => by
    rw [List.countP_cons, List.countP_cons]
    have hm : l.countP p ≤ l.countP q := List.countP_mono_left fun x hx => hpq x (List.mem_cons_of_mem _ hx)
    rcases List.mem_cons.mp h with rfl | h
    · rw [hp, hq]
      simp
      omega
    · have ih := count_lt h (fun x hx => hpq x (List.mem_cons_of_mem _ hx)) hp hq
      have := hpq a List.mem_cons_self
      cases hpa : p a with
      | true => rw [this hpa]; simp; exact ih
      | false => simp; split <;> omega
theorem Kok.congr {α : Type} {lt' : Nat → Nat → Bool} {R : α → Prop} (h : ∀ i j, i < n → j < n → lt i j = lt' i j) : ∀ {t : KasT α}, Kok lt n R t → Kok lt' n R t
  | .ret a, q => q
  | .ask i j k, q => ⟨q.1, q.2.1, h i j q.1 q.2.1 ▸ Kok.congr h q.2.2⟩
theorem o_sortL (irr : ∀ i, i < n → lt i i = false) (tr : ∀ i j k, i < n → j < n → k < n → lt i j = true → lt j k = true → lt i k = true) (tot : ∀ i j, i < n → j < n → i ≠ j → lt i j = true ∨ lt j i = true) (hn : 1 ≤ n) :
    Kok lt n (fun p => Prm n p ∧ ∀ a b, a < b → b < n → lt (p.getD a 0) (p.getD b 0) = true) (kas_sort n) := by
  obtain ⟨key, hkey⟩ : ∃ key : Nat → Int, ∀ i, key i = (((List.range n).countP fun x => lt x i : Nat) : Int) := ⟨_, fun _ => rfl⟩
  have up : ∀ i j, i < n → j < n → lt i j = true → key i < key j := fun i j hi hj h => by
    rw [hkey, hkey]
    have := count_lt (p := fun x => lt x i) (q := fun x => lt x j) (l := List.range n) (i := i) (List.mem_range.mpr hi) (fun x hx hxi => tr x i j (List.mem_range.mp hx) hi hj hxi h) (irr i hi) h
    omega
  have eq : ∀ i j, i < n → j < n → lt i j = decide (key i < key j) := fun i j hi hj => by
    cases h : lt i j with
    | true => exact (decide_eq_true (up i j hi hj h)).symm
    | false =>
      refine (decide_eq_false fun z => ?_).symm
      by_cases e : i = j
      · rw [e] at z; omega
      · rcases tot i j hi hj e with t | t
        · rw [h] at t; cases t
        · have := up j i hj hi t
          omega
  have hk : ∀ i j, i < n → j < n → key i = key j → i = j := fun i j hi hj e => by
    by_cases h : i = j
    · exact h
    · rcases tot i j hi hj h with t | t
      · have := up i j hi hj t; omega
      · have := up j i hj hi t; omega
  refine Kok.congr (lt := fun i j => decide (key i < key j)) (fun i j hi hj => (eq i j hi hj).symm) (Kok.mono (fun p hp => ⟨hp.1, fun a b hab hb => ?_⟩) (o_sort hk hn))
  rw [eq _ _ (hp.1.ltn (by omega) _) (hp.1.ltn (by omega) _)]
  exact decide_eq_true (hp.2 a b hab hb)
end
def lexB : List Int → List Int → Bool → Bool
  | x :: xs, y :: ys, f => if x = y then lexB xs ys f else decide (x < y)
  | [], _, f => f
  | _ :: _, [], f => f
theorem lex_irr : ∀ a : List Int, lexB a a false = false
  | [] => rfl
  | x :: a => by rw [lexB, if_pos rfl, lex_irr a]
theorem lex_tr : ∀ {a b c : List Int}, a.length = b.length → b.length = c.length → lexB a b false = true → lexB b c false = true → lexB a c false = true
  | [], _, _, _, _, h, _ => by simp [lexB] at h
  | x :: a, [], _, h, _, _, _ => by simp at h
  | x :: a, y :: b, [], _, h, _, _ => by simp at h
  | x :: a, y :: b, z :: c, h1, h2, h, h' => by
    rw [lexB] at h h' ⊢
    by_cases e1 : x = y
    · subst e1
      rw [if_pos rfl] at h
      by_cases e2 : x = z
      · subst e2
        rw [if_pos rfl] at h' ⊢
        exact lex_tr (by simpa using h1) (by simpa using h2) h h'
      · rw [if_neg e2] at h' ⊢
        exact h'
    · rw [if_neg e1] at h
      have h := of_decide_eq_true h
      by_cases e2 : y = z
      · subst e2
        rw [if_neg e1]
        exact decide_eq_true h
      · rw [if_neg e2] at h'
        have h' := of_decide_eq_true h'
        rw [if_neg (by omega)]
        exact decide_eq_true (by omega)
theorem lex_tot : ∀ {a b : List Int}, a.length = b.length → a ≠ b → lexB a b false = true ∨ lexB b a false = true
  | [], [], _, h => (h rfl).elim
  | [], y :: b, h, _ => by simp at h
  | x :: a, [], h, _ => by simp at h
  | x :: a, y :: b, h, hne => by
    rw [lexB, lexB]
    by_cases e : x = y
    · subst e
      rw [if_pos rfl, if_pos rfl]
      exact lex_tot (by simpa using h) fun z => hne (by rw [z])
    · rw [if_neg e, if_neg (Ne.symm e)]
      rcases Int.lt_or_gt_of_ne e with q | q
      · exact .inl (decide_eq_true q)
      · exact .inr (decide_eq_true q)
section
variable {P : Program} {w : World} {A : Around} {E : Value → Shared → Prop} {s : Shared}
theorem lex_ints {b f : Bool} {Q : Bool → Shared → Prop} : ∀ {ms ns : List Int} {xs ys : List Value}, Vals (ms.map V.int) xs → Vals (ns.map V.int) ys → ∀ i, Q (lexB ms ns f) s → KatLex P w A b f Q (xs.zip ys) i s
  | [], _, _, _, r, _, i, h => by
    cases r
    exact h
  | m :: ms, [], _, _, r, r', i, h => by
    cases r'
    rw [List.zip_nil_right]
    exact h
  | m :: ms, n :: ns, _, _, r, r', i, h => by
    rw [List.map_cons] at r r'
    cases r with
    | cons a1 a2 =>
    cases r' with
    | cons b1 b2 =>
    obtain ⟨t, rfl⟩ := a1
    obtain ⟨t', rfl⟩ := b1
    rw [List.zip_cons_cons]
    refine kat_cons (wpAny_eqBool_int ?_)
    by_cases e : m = n
    · rw [show (m == n) = true by simp [e]]
      refine kat_yes (lex_ints a2 b2 (i + 1) ?_)
      rwa [lexB, if_pos e] at h
    · rw [show (m == n) = false by simp [e]]
      refine kat_no ?_
      rw [lexB, if_neg e] at h
      cases hf : (b && i == 0) with
      | true => exact oneLt_int h
      | false => exact kat_one _ _ (lt_int h)
theorem tups_of {h : Heap} : ∀ {us : List Value}, (∀ v ∈ us, ∃ b o xs m i t, v = .ref b ∧ h.get? b = some o ∧ o.cls = .type "tuple" ∧ o.data = .seq xs m ∧ xs[0]? = some (Value.int i t)) →
    ∃ fs, KatTups h us fs ∧ fs.length = us.length ∧ ∀ f ∈ fs, ∃ i t, f = Value.int i t
  | [], _ => ⟨[], trivial, rfl, fun _ h => by cases h⟩
  | v :: us, hv => by
    obtain ⟨b, o, xs, m, i, t, rfl, h1, h2, h3, h4⟩ := hv v (.head _)
    obtain ⟨fs, k1, k2, k3⟩ := tups_of (us := us) fun v hm => hv v (.tail _ hm)
    exact ⟨_ :: fs, KatTups.cons h1 h2 h3 h4 k1, by rw [List.length_cons, List.length_cons, k2], fun f hf => (List.mem_cons.mp hf).elim (fun e => ⟨i, t, e⟩) (k3 f)⟩
theorem sort_tups {G : Array Nat → Prop} {a : Addr} {us : List Value} {n : Nat} {R : PySem.Fin → Shared → Prop} (fs : Nat → List Int) (hob : s.heap.get? a = some (seqObj "list" us.toArray n)) (hlen : us.length < 64)
    (hT : ∀ i, i < us.length → fs i ≠ [] ∧ ∃ b o xs m, us.getD i Value.none = .ref b ∧ b ≠ a ∧ s.heap.get? b = some o ∧ o.cls = .type "tuple" ∧ o.data = .seq xs m ∧ Vals ((fs i).map V.int) xs.toList)
    (hG : 0 < us.length → Kok (fun i j => lexB (fs i) (fs j) (decide ((fs i).length < (fs j).length))) us.length G (kas_sort us.length)) (hG0 : us.length < 2 → G (List.range us.length).toArray) (hGP : ∀ p, G p → Prm us.length p)
    (fin : ∀ p : Array Nat, G p → R (.done (.ret .none)) { s with heap := sortedHeap s.heap a us (List.toArray (p.toList.map fun i => us.getD i Value.none)) }) :
    wpAny (model P w) A (Builtin.«list.sort» ⟨[.ref a], []⟩) R E s := by
  have hal : a < s.heap.objs.size := Heap.lt_size hob
  have hus : us.toArray.size = us.length := by simp
  rw [list_sort_plain]
  refine wpAny_bind (listItems_at hob rfl ?_); refine wpAny_bind (listUpdate_at hob rfl ?_ (by rw [hus, sizeLine_eq]; omega) (Nat.zero_le _))
  obtain ⟨e1, hob1⟩ : ∃ e1, (s.heap.update a (Obj.mapSeq fun _ => #[])).get? a = some (seqObj "list" #[] e1) := ⟨_, get?_update_seq hob (fun _ => #[])⟩
  refine wpAny_bind (seqEpoch_at hob1 rfl ?_); refine wpAny_bind (wpAny_newTuple ?_ (by show us.length ≤ _; rw [sizeLine_eq]; omega)); refine wpAny_bind (wpAny_newList ?_ (Nat.zero_le _)); refine wpAny_holding ?_
  have keep : ∀ b o, b ≠ a → s.heap.get? b = some o → (((s.heap.update a (Obj.mapSeq fun _ => #[])).push (seqObj "tuple" us.toArray 0)).push (seqObj "list" #[] 0)).get? b = some o := fun b o hb e =>
    Heap.get?_push_of_some _ (Heap.get?_push_of_some _ ((Heap.get?_update_ne _ _ _ _ hb).trans e))
  have hob6 : (((s.heap.update a (Obj.mapSeq fun _ => #[])).push (seqObj "tuple" us.toArray 0)).push (seqObj "list" #[] 0)).get? a = some (seqObj "list" #[] e1) := Heap.get?_push_of_some _ (Heap.get?_push_of_some _ hob1)
  show wpAny (model P w) A _ R E { s with heap := ((s.heap.update a (Obj.mapSeq fun _ => #[])).push (seqObj "tuple" us.toArray 0)).push (seqObj "list" #[] 0) }
  dsimp only
  by_cases h2 : us.toArray.size < 2
  · rw [if_pos h2, if_pos h2]
    refine wpAny_bind (wpAny_pure ?_); rw [StateT.run_pure]; refine wpAny_bind (wpAny_pure ?_); dsimp only
    have har := kat_snds (ks := us) (vs := us) rfl (st := SortSt.mk' general' (us.toArray.zip us.toArray) #[] 7 none) (p := (List.range us.length).toArray) (by
      have e := kas_range (us.toArray.zip us.toArray)
      rw [show (us.toArray.zip us.toArray).size = us.length by simp] at e
      exact e.symm)
    rw [har]
    refine wpAny_bind (seqEpoch_at hob6 rfl ?_); refine wpAny_bind (listUpdate_at hob6 rfl ?_ (Nat.zero_le _) (by rw [sizeLine_eq]; simp; omega))
    simp only [bne_self_eq_false, Bool.false_eq_true, if_false]
    exact wpAny_pure (fin _ (hG0 (by rw [← hus]; exact h2)))
  · rw [if_neg h2, if_neg h2]
    have hn : 0 < us.length := by omega
    obtain ⟨ff, k1, k2, k3⟩ := tups_of (h := ((s.heap.update a (Obj.mapSeq fun _ => #[])).push (seqObj "tuple" us.toArray 0)).push (seqObj "list" #[] 0)) (us := us) (by
      intro v hv
      obtain ⟨i, hi, e⟩ := List.getElem_of_mem hv
      obtain ⟨g0, b, o, xs, m, g1, g2, g3, g4, g5, g6⟩ := hT i hi
      have e2 : us.getD i Value.none = v := by rw [← e]; simp [hi]
      cases hq : fs i with
      | nil => exact (g0 hq).elim
      | cons z zs =>
        rw [hq, List.map_cons] at g6
        cases hx : xs.toList with
        | nil => rw [hx] at g6; cases g6
        | cons u ur =>
          rw [hx] at g6
          cases g6 with
          | cons r1 r2 =>
          obtain ⟨t, rfl⟩ := r1
          refine ⟨b, o, xs, m, z, t, e2.symm.trans g1, keep _ _ g2 g3, g4, g5, ?_⟩
          rw [← Array.getElem?_toList, hx]; rfl)
    refine wpAny_bind (kat_kind k1 (by omega) (fun v hv => ?_) (T := .type "int") rfl ?_)
    · obtain ⟨i, t, rfl⟩ := k3 v hv
      exact Looks.of_pure rfl
    refine wpAny_bind (wpAny_mono (kat_run (ks := us) (vs := us) (Q := fun st' s' => ∃ p : Array Nat, arrOf st' = p.map (kas_item (us.toArray.zip us.toArray)) ∧ failedOf st' = none ∧ G p ∧ s' = { s with heap := ((s.heap.update a (Obj.mapSeq fun _ => #[])).push (seqObj "tuple" us.toArray 0)).push (seqObj "list" #[] 0) })
      (G := fun p s' => G p ∧ s' = { s with heap := ((s.heap.update a (Obj.mapSeq fun _ => #[])).push (seqObj "tuple" us.toArray 0)).push (seqObj "list" #[] 0) }) rfl (by omega) hlen (fun p st' s' a1 a2 a3 a4 => ⟨p, a2, a3, a4.1, a4.2⟩)
      (Kok.wp (lt := fun i j => lexB (fs i) (fs j) (decide ((fs i).length < (fs j).length))) (fun i j C hi hj hC => ?_) (hG hn) fun p hp => ⟨hp, rfl⟩)) ?_ fun _ _ e => e)
    · obtain ⟨_, b, o, xs, m, g1, g2, g3, g4, g5, g6⟩ := hT i hi
      obtain ⟨_, b', o', xs', m', g1', g2', g3', g4', g5', g6'⟩ := hT j hj
      show wpAny _ _ (keyLt' _ (us.getD i Value.none) (us.getD j Value.none)) _ _ _
      rw [g1, g1']
      refine kat_lt (keep _ _ g2 g3) g5 (keep _ _ g2' g3') g5' (lex_ints g6 g6' 0 ?_)
      have z1 : (fs i).length = xs.size := by simpa using g6.length
      have z2 : (fs j).length = xs'.size := by simpa using g6'.length
      rw [← z1, ← z2]
      exact hC
    · rintro ⟨⟨⟩, st'⟩ s' ⟨p, har, hf, hp, rfl⟩
      dsimp only
      rw [kat_snds (ks := us) (vs := us) rfl har]
      have hpl : p.toList.length = us.length := by rw [(hGP p hp).length_eq]; simp
      refine wpAny_bind (seqEpoch_at hob6 rfl ?_); refine wpAny_bind (listUpdate_at hob6 rfl ?_ (Nat.zero_le _) (by rw [sizeLine_eq]; simp at hpl ⊢; omega))
      rw [hf]
      simp only [bne_self_eq_false, Bool.false_eq_true, if_false]
      exact wpAny_pure (fin p hp)
end
section
variable {X : Cx}
def rSortT (K : PySem.W.Frag) : List V → Hp → VK → Prop := fun xs H Q => ∃ (a : Addr) (ys : List V) (ts : V → List Int), xs = [.ref a] ∧ SqL K H a ys ∧ ys.length < 64 ∧ (∀ y ∈ ys, ts y ≠ [] ∧ ∃ b, y = .ref b ∧ SqT K H b ((ts y).map V.int)) ∧
  ∀ p zs, H p = none → zs.Perm ys → (∀ m, (∀ y ∈ ys, (ts y).length = m) → (ys.map ts).Nodup → zs.Pairwise fun y z => lexB (ts y) (ts z) false = true) → Q (.ref p) (upd H p (.lst zs))
theorem vals_getD : ∀ {ys : List V} {us : List Value} {i : Nat}, Vals ys us → i < ys.length → RelV (ys.getD i .non) (us.getD i Value.none)
  | _, _, _, .nil, h => by simp at h
  | _, _, 0, .cons r _, _ => r
  | _, _, i + 1, .cons _ t, h => by
    simp only [List.getD_cons_succ]
    exact vals_getD t (by simpa using h)
theorem vals_pick {ys : List V} {us : List Value} (r : Vals ys us) : ∀ {l : List Nat}, (∀ i ∈ l, i < ys.length) → Vals (l.map fun i => ys.getD i .non) (l.map fun i => us.getD i Value.none)
  | [], _ => .nil
  | i :: l, h => .cons (vals_getD r (h i (.head _))) (vals_pick r fun j hj => h j (.tail _ hj))
theorem getD_rangeV (ys : List V) : ((List.range ys.length).map fun i => ys.getD i V.non) = ys := by
  refine List.ext_getElem (by simp) fun i h1 h2 => ?_
  simp [h2]
def SortOk (ys : List V) (ts : V → List Int) (p : Array Nat) : Prop := ∀ m, (∀ y ∈ ys, (ts y).length = m) → (ys.map ts).Nodup → ∀ a b, a < b → b < ys.length → lexB (ts (ys.getD (p.getD a 0) .non)) (ts (ys.getD (p.getD b 0) .non)) false = true
theorem sort_ok {ys : List V} {ts : V → List Int} (hn : 1 ≤ ys.length) : Kok (fun i j => lexB (ts (ys.getD i .non)) (ts (ys.getD j .non)) (decide ((ts (ys.getD i .non)).length < (ts (ys.getD j .non)).length))) ys.length (fun p => Prm ys.length p ∧ SortOk ys ts p) (kas_sort ys.length) := by
  by_cases h : ∃ m, (∀ y ∈ ys, (ts y).length = m) ∧ (ys.map ts).Nodup
  · obtain ⟨m, h1, h2⟩ := h
    have hm : ∀ i, i < ys.length → (ts (ys.getD i .non)).length = m := fun i hi => h1 _ (by simp [hi])
    have hf : ∀ i j, i < ys.length → j < ys.length → decide ((ts (ys.getD i .non)).length < (ts (ys.getD j .non)).length) = false := fun i j hi hj => by
      rw [hm i hi, hm j hj]; simp
    refine Kok.mono (fun p hp => ⟨hp.1, fun _ _ _ a b hab hb => ?_⟩) (o_sortL (n := ys.length) (lt := fun i j => lexB (ts (ys.getD i .non)) (ts (ys.getD j .non)) (decide ((ts (ys.getD i .non)).length < (ts (ys.getD j .non)).length))) (fun i hi => ?_) (fun i j k hi hj hk h h' => ?_) (fun i j hi hj hne => ?_) hn)
    · rw [hf i i hi hi]; exact lex_irr _
    · rw [hf i j hi hj] at h
      rw [hf j k hj hk] at h'
      rw [hf i k hi hk]
      exact lex_tr ((hm i hi).trans (hm j hj).symm) ((hm j hj).trans (hm k hk).symm) h h'
    · rw [hf i j hi hj, hf j i hj hi]
      refine lex_tot ((hm i hi).trans (hm j hj).symm) fun e => hne ?_
      refine (List.getElem?_inj (by rw [List.length_map]; exact hi) h2).mp ?_
      rw [List.getElem?_map, List.getElem?_map, List.getElem?_eq_getElem hi, List.getElem?_eq_getElem hj]
      have q1 : ys.getD i .non = ys[i] := by simp [hi]
      have q2 : ys.getD j .non = ys[j] := by simp [hj]
      rw [q1, q2] at e
      exact congrArg some e
    · have := hp.2 a b hab hb
      rwa [hf _ _ (hp.1.ltn (by omega) _) (hp.1.ltn (by omega) _)] at this
  · exact Kok.mono (fun p hp => ⟨hp, fun m h1 h2 => absurd ⟨m, h1, h2⟩ h⟩) (kok_sort hn)
theorem call_sortT : CallR X (.builtin "sorted") (rSortT X.K) := by
  intro pins s σ H xs us Q I r h
  obtain ⟨a, ys, ts, rfl, hq, hlen, hT, q⟩ := h
  obtain ⟨u, rfl, rx⟩ := vals1 r
  cases rx
  obtain ⟨its, rv, pl, hz⟩ := I.list hq
  have hil : ys.length = its.length := rv.length
  have hl := pl.isList
  refine Calls.call_function_entry kind_sorted plain_sorted entry_sorted (args_sorted1 _) ?_
  unfold Builtin.«sorted»; refine wpAny_bind (m := checkCount "sorted" 1 1 _) (wpAny_pure ?_); refine wpAny_bind (collect_list hl ?_ (by omega)); refine wpAny_bind (wpAny_newList ?_ (by omega))
  have hsz : ((s.heap.push (seqObj "list" #[] 0)).update s.heap.objs.size (Obj.mapSeq (· ++ its.toArray))).objs.size = s.heap.objs.size + 1 := by rw [Heap.size_update, size_push']
  have hob : (((s.heap.push (seqObj "list" #[] 0)).update s.heap.objs.size (Obj.mapSeq (· ++ its.toArray))).push (seqObj "list" its.toArray 0)).get? (s.heap.objs.size + 1) = some (seqObj "list" its.toArray 0) := by rw [← hsz]; exact Heap.get?_push_size _ rfl
  have keep : ∀ b o, s.heap.get? b = some o → (((s.heap.push (seqObj "list" #[] 0)).update s.heap.objs.size (Obj.mapSeq (· ++ its.toArray))).push (seqObj "list" its.toArray 0)).get? b = some o := fun b o e =>
    Heap.get?_push_of_some _ ((Heap.get?_update_ne _ _ _ _ (Nat.ne_of_lt (Heap.lt_size e))).trans (Heap.get?_push_of_some _ e))
  show wpAny _ _ _ _ _ { s with heap := ((s.heap.push (seqObj "list" #[] 0)).update s.heap.objs.size (Obj.mapSeq (· ++ its.toArray))).push (seqObj "list" its.toArray 0) }
  rw [hsz]
  refine wpAny_bind (wpAny_holding (wpAny_call_entry slot_list_sort ⟨_, hob, rfl⟩ entry_list_sort (sort_tups (G := fun p => Prm its.length p ∧ SortOk ys ts p) (fun i => ts (ys.getD i .non)) hob (by omega) (fun i hi => ?_) (fun hn => hil ▸ sort_ok (by omega)) (fun h2 => ⟨List.Perm.refl _, fun m _ _ a b hab hb => absurd hab (by omega)⟩) (fun p hp => hp.1) fun p hp2 => ⟨_, rfl, wpAny_pure ⟨_, rfl, ?_⟩⟩) (args_list_sort _)))
  · have hm : ys.getD i .non ∈ ys := by
      have : i < ys.length := by omega
      simp [this]
    obtain ⟨g0, b, e, hb⟩ := hT _ hm
    obtain ⟨tv, rt, it, hz'⟩ := I.tuple hb
    obtain ⟨o, ho, hc, m, hd⟩ := it
    refine ⟨g0, b, o, tv.toArray, m, ?_, ?_, keep _ _ ho, hc, hd, rt⟩
    · have := vals_getD rv (i := i) (by omega)
      rw [e] at this
      exact this
    · exact Nat.ne_of_lt (Nat.lt_succ_of_lt (Heap.lt_size ho))
  · obtain ⟨hp, hord⟩ := hp2
    have hin : ∀ i ∈ p.toList, i < ys.length := fun i hi => by
      have := List.mem_range.mp (hp.mem_iff.mp hi)
      omega
    have hpl : p.toList.length = its.length := by rw [hp.length_eq]; simp
    have hzs : (p.toList.map fun i => ys.getD i V.non).Perm ys := by
      have := hp.map fun i => ys.getD i V.non
      rw [← hil, getD_rangeV] at this
      exact this
    have kp : ∀ b o, s.heap.get? b = some o → (sortedAll s.heap its (List.toArray (p.toList.map fun i => its.getD i Value.none))).get? b = some o := fun b o e => by
      have hb : b ≠ s.heap.objs.size + 1 := Nat.ne_of_lt (Nat.lt_succ_of_lt (Heap.lt_size e))
      exact (Heap.get?_update_ne _ _ _ _ hb).trans (Heap.get?_push_of_some _ (Heap.get?_push_of_some _ ((Heap.get?_update_ne _ _ _ _ hb).trans (keep b o e))))
    obtain ⟨c, hc⟩ : ∃ c, (sortedAll s.heap its (List.toArray (p.toList.map fun i => its.getD i Value.none))).get? (s.heap.objs.size + 1) = some (seqObj "list" (List.toArray (p.toList.map fun i => its.getD i Value.none)) c) :=
      ⟨_, get?_update_seq (Heap.get?_push_of_some _ (Heap.get?_push_of_some _ (get?_update_seq hob (fun _ => #[])))) _⟩
    refine ⟨.ref (s.heap.objs.size + 1), _, I.laid (t' := s.toks) kp (Nat.le_succ _) (show ObjOk X.prog X.w _ _ _ (.lst (p.toList.map fun i => ys.getD i V.non)) from ⟨?_, _, c, vals_pick rv hin, hc⟩), rfl, q _ _ (I.hok.fresh (Nat.le_succ _)) hzs fun m h1 h2 => ?_⟩
    rotate_left
    · refine List.pairwise_iff_getElem.mpr fun i j hi hj hij => ?_
      rw [List.length_map, hpl, ← hil] at hj
      have h3 := hord m h1 h2 i j hij hj
      have hs : p.size = ys.length := by rw [← Array.length_toList, hpl, hil]
      have e1 : p.getD i 0 = p.toList[i]'(by rw [Array.length_toList]; omega) := by simp [Array.getD, show i < p.size by omega]
      have e2 : p.getD j 0 = p.toList[j]'(by rw [Array.length_toList]; omega) := by simp [Array.getD, show j < p.size by omega]
      rw [e1, e2] at h3
      rw [List.getElem_map, List.getElem_map]
      exact h3
    rw [List.length_map, hpl, sizeLine_eq]
    omega
theorem call_sortTK {K : PySem.W.Frag} (hK : X.K = K := by rfl) : CallR X (.builtin "sorted") (rSortT K) := hK ▸ call_sortT
theorem ap_rSortT {K : PySem.W.Frag} {a : Addr} {H : Hp} {Q : VK} : rSortT K [.ref a] H Q = ∃ (ys : List V) (ts : V → List Int), SqL K H a ys ∧ ys.length < 64 ∧ (∀ y ∈ ys, ts y ≠ [] ∧ ∃ b, y = .ref b ∧ SqT K H b ((ts y).map V.int)) ∧
    ∀ p zs, H p = none → zs.Perm ys → (∀ m, (∀ y ∈ ys, (ts y).length = m) → (ys.map ts).Nodup → zs.Pairwise fun y z => lexB (ts y) (ts z) false = true) → Q (.ref p) (upd H p (.lst zs)) := by simp [rSortT]
end
def But (D : Addr) (H H' : Hp) : Prop := ∀ b u, b ≠ D → H b = some u → H' b = some u
theorem Same.seqT {K : PySem.W.Frag} {H H' : Hp} {a : Addr} {xs : List V} (e : Same H H') (h : SqT K H a xs) : SqT K H' a xs := h.elim (fun h => h.elim (fun h => .inl (.inl (e _ _ h))) fun ⟨o, h⟩ => .inl (.inr ⟨o, e _ _ h⟩)) .inr
section
variable {K : PySem.W.Frag} {a : Addr} {xs : List V} {g : TG} {te : TE} {σ : St} {H : Hp} {Q : VK} {cap : List (Option Nat)}
theorem CompP.listE (Sσ : St → Prop) (F : Nat → V → Hp → Prop) (hS : SqL K H a xs) (h0 : Sσ (capSt σ cap)) (hz : xs.length ≤ sizeLine)
    (hs : ∀ D i x, xs[i]? = some x → ∀ (σ : St) (H5 : Hp) (R : St → VK), Sσ σ → Same H H5 → H D = Option.none → (∃ acc, H5 D = some (.lst acc)) → (∀ v σ4 H6, Sσ σ4 → Same H5 H6 → (∀ H', But D H6 H' → F i v H') → R σ4 v H6) →
      g x σ H5 fun σ4 H4 => te σ4 H4 (R σ4))
    (k : ∀ D H' acc, H D = Option.none → Same H H' → H' D = some (.lst acc) → acc.length = xs.length → (∀ i v, acc[i]? = some v → F i v H') → Q (.ref D) H') : CompP cap (Itl K a) g tNoIf te σ H Q := by
  intro D hD
  refine ⟨fun i m acc σ H2 => m = xs.length - i ∧ i ≤ xs.length ∧ Sσ σ ∧ Same H H2 ∧ acc.length = i ∧ ∀ j v, acc[j]? = some v → ∀ H', But D H2 H' → F j v H', ⟨xs.length, rfl, Nat.zero_le _, h0, Same.new hD, rfl, fun j v e => by simp at e⟩, ?_⟩
  rintro i m acc σ1 H2 ⟨rfl, hi, hσ, sm, hal, hF⟩ hA
  by_cases hlt : i < xs.length
  · have hx : xs[i]? = some xs[i] := by simp [hlt]
    refine .inr ⟨⟨xs, xs[i], sm.seq hS, hx⟩, fun y H3 hy => ?_⟩
    obtain rfl : H3 = H2 := hy.1
    obtain rfl : y = xs[i] := Option.some.inj ((hy.2 xs (sm.seq hS)).symm.trans hx)
    simp only [ap_noIf, if_true]
    refine hs D i _ hx σ1 H3 _ hσ sm hD ⟨_, hA⟩ fun v σ4 H6 hσ4 s6 hF6 => ?_
    have hA6 := s6 _ _ hA
    refine ⟨acc, hA6, by omega, xs.length - (i + 1), by omega, rfl, hlt, hσ4, (sm.trans s6).upd hD, by rw [List.length_append, hal]; rfl, fun j u hj H' hb => ?_⟩
    have hb6 : But D H6 H' := fun b o hne e => hb b o hne ((upd_ne hne).trans e)
    by_cases hjl : j < acc.length
    · rw [List.getElem?_append_left hjl] at hj
      exact hF j u hj H' fun b o hne e => hb6 b o hne (s6 _ _ e)
    · rw [List.getElem?_append_right (by omega)] at hj
      have hj0 : j - acc.length = 0 := by
        have := (List.getElem?_eq_some_iff.mp hj).1
        simp at this
        omega
      rw [hj0] at hj
      cases hj
      obtain rfl : j = i := by omega
      exact hF6 H' hb6
  · obtain rfl : i = xs.length := by omega
    exact .inl ⟨⟨xs, sm.seq hS, Nat.le_refl _⟩, k D H2 acc hD sm hA hal fun j v e => hF j v e H2 fun b o _ e => e⟩
theorem CompP.tupF (Sσ : St → Prop) (F : V → V) (hS : SqT K H a xs) (h0 : Sσ (capSt σ cap)) (hz : xs.length ≤ sizeLine)
    (hs : ∀ x ∈ xs, ∀ (σ : St) (H5 : Hp) (R : St → VK), Sσ σ → Same H H5 → (∀ σ4 H6, Sσ σ4 → Same H5 H6 → R σ4 (F x) H6) → g x σ H5 fun σ4 H4 => te σ4 H4 (R σ4))
    (k : ∀ D H', H D = Option.none → Same H H' → H' D = some (.lst (xs.map F)) → Q (.ref D) H') : CompP cap (Itt K a) g tNoIf te σ H Q := by
  intro D hD
  have z := comp_step (te := te) (tt := tNoIf) (g := g) (σ0 := capSt σ cap) (Q := Q) (Itt K a) Sσ (fun _ => true) F hD h0 hz (fun i x H5 hx sm => ⟨⟨xs, x, sm.seqT hS, hx⟩, fun y H' hy => ⟨Option.some.inj ((hy.2 xs (sm.seqT hS)).symm.trans hx), hy.1⟩⟩) (fun H5 sm => ⟨xs, sm.seqT hS, Nat.le_refl _⟩)
    (fun x hx σ5 H5 R1 R2 hσ sm k1 k2 => by
      simp only [ap_noIf, if_true]
      exact hs x hx σ5 H5 R1 hσ sm (k1 rfl)) (fun H' sm e => k D H' hD sm (by rw [filt_true] at e; exact e))
  exact z
end
end L2
namespace L2
open PySem PySem.Spec PyProof.Rows
structure Mk0 (K : PySem.W.Frag) (C : Addr) : Prop where
  makes : PySem.W.makesIn K C = true
  init : PySem.W.findIn K (.ref C) "__init__" = some (some (.builtin "object.__init__"))
  kp : PySem.W.keepIn K (.ref C) = true
def tNew0 (C : Addr) : TE := fun _ H Q => ∀ x dx, H x = none → H dx = none → dx ≠ x → Q (.ref x) (upd (upd H dx (.own x)) x (.ins C dx []))
theorem ap_new0 {C : Addr} {σ : St} {H : Hp} {Q : VK} : tNew0 C σ H Q = ∀ x dx, H x = none → H dx = none → dx ≠ x → Q (.ref x) (upd (upd H dx (.own x)) x (.ins C dx [])) := rfl
theorem pe_new0 {X : Cx} {C : Addr} {x : Str} {p pos : Pos} (M : Mk0 X.K C) (hg : Gl X x) (hm : X.mg x = some (.ref C)) (hdb : (x == ("__debug__" : Str)) = false := by decide) : PE X (.Call (.Name x p) [] [] pos) (tNew0 C) := by
  intro pins s σ H Q I h
  refine wpAny_Call_Name_kw (ld_glob I hg hm ?_ hdb)
  have q := h (s.heap.objs.size + 1) s.heap.objs.size (I.hok.fresh (Nat.le_succ _)) (I.hok.fresh (Nat.le_refl _)) (Nat.ne_of_lt (Nat.lt_succ_self _))
  have I2 := Inv.made (C := C) I
  have Y := PySem.W.makes_of (M := model X.prog X.w) I.kIn M.makes
  refine PySem.W.callWith_K0 I.kIn M.kp (wpAny_call (make_map0 I.kIn M.makes M.init (fun self => PySem.W.Looks.of_pure (PySem.W.oi_bind self)) ?_))
  have g1 : ((s.heap.push PySem.W.emptyDict).push (PySem.W.instObj C s.heap.objs.size)).get? (s.heap.objs.size + 1) = some (PySem.W.instObj C s.heap.objs.size) := by
    have e := Heap.get?_push_size (s.heap.push PySem.W.emptyDict) (o := PySem.W.instObj C s.heap.objs.size) rfl
    rw [size_push'] at e
    exact e
  have t1 : PySem.W.Looks (model X.prog X.w) ((s.heap.push PySem.W.emptyDict).push (PySem.W.instObj C s.heap.objs.size)) (typeOf (.ref (s.heap.objs.size + 1))) (.ref C) := (PySem.W.Looks.ld g1).andThen .now
  have t2 : PySem.W.Looks (model X.prog X.w) ((s.heap.push PySem.W.emptyDict).push (PySem.W.instObj C s.heap.objs.size)) (isInstance (.ref (s.heap.objs.size + 1)) (.type "object")) true := t1.andThen (Y.top.keeps fun b o e => Heap.get?_push_of_some _ (Heap.get?_push_of_some _ e))
  refine codeAny_call_builtin PySem.W.oi_plain PySem.W.entry_oi (@PySem.W.check_slot (model X.prog X.w) _ _ _ "object.__init__" "object" "__init__" (.ref (s.heap.objs.size + 1)) [] [] _ PySem.W.oi_kind PySem.W.oi_split t2 (PySem.W.oi_args _) ?_)
  rw [PySem.W.oi_run]
  exact wpAny_pure ⟨rfl, .ref (s.heap.objs.size + 1), _, I2, rfl, q⟩
section
variable {K : PySem.W.Frag} {a b : Addr} {xs ys : List V} {g : TG} {te : TE} {σ : St} {H : Hp} {Q : VK} {cap : List (Option Nat)}
theorem CompP.zipE (Sσ : St → Prop) (F : Nat → V → Hp → Prop) (hS : SqL K H a xs) (hS' : SqL K H b ys) (hlen : xs.length = ys.length) (h0 : Sσ (capSt σ cap)) (hz : xs.length ≤ sizeLine)
    (hs : ∀ D i x y, xs[i]? = some x → ys[i]? = some y → ∀ (σ : St) (H5 : Hp) (p : Addr) (R : St → VK), Sσ σ → Same H H5 → H D = Option.none → (∃ acc, H5 D = some (.lst acc)) → H5 p = Option.none →
      (∀ v σ4 H6, Sσ σ4 → Same (upd H5 p (.tup [x, y])) H6 → (∀ H', But D H6 H' → F i v H') → R σ4 v H6) → g (.ref p) σ (upd H5 p (.tup [x, y])) fun σ4 H4 => te σ4 H4 (R σ4))
    (k : ∀ D H' acc, H D = Option.none → Same H H' → H' D = some (.lst acc) → acc.length = xs.length → (∀ i v, acc[i]? = some v → F i v H') → Q (.ref D) H') : CompP cap (Itz K a b) g tNoIf te σ H Q := by
  intro D hD
  refine ⟨fun i m acc σ H2 => m = xs.length - i ∧ i ≤ xs.length ∧ Sσ σ ∧ Same H H2 ∧ acc.length = i ∧ ∀ j v, acc[j]? = some v → ∀ H', But D H2 H' → F j v H', ⟨xs.length, rfl, Nat.zero_le _, h0, Same.new hD, rfl, fun j v e => by simp at e⟩, ?_⟩
  rintro i m acc σ1 H2 ⟨rfl, hi, hσ, sm, hal, hF⟩ hA
  by_cases hlt : i < xs.length
  · have hx : xs[i]? = some xs[i] := by simp [hlt]
    have hy : ys[i]? = some (ys[i]'(hlen ▸ hlt)) := by simp [hlen ▸ hlt]
    refine .inr ⟨⟨xs, ys, _, _, sm.seq hS, sm.seq hS', hx, hy⟩, fun v H3 hv => ?_⟩
    obtain ⟨p, x, y, hp, rfl, rfl, e1, e2⟩ := hv
    have e1 := e1 xs (sm.seq hS)
    have e2 := e2 ys (sm.seq hS')
    simp only [ap_noIf, if_true]
    refine hs D i x y e1 e2 σ1 H2 p _ hσ sm hD ⟨_, hA⟩ hp fun v σ4 H6 hσ4 s6 hF6 => ?_
    have s26 := (Same.new (o := .tup [x, y]) hp).trans s6
    have hA6 := s26 _ _ hA
    refine ⟨acc, hA6, by omega, xs.length - (i + 1), by omega, rfl, hlt, hσ4, (sm.trans s26).upd hD, by rw [List.length_append, hal]; rfl, fun j u hj H' hb => ?_⟩
    have hb6 : But D H6 H' := fun b o hne e => hb b o hne ((upd_ne hne).trans e)
    by_cases hjl : j < acc.length
    · rw [List.getElem?_append_left hjl] at hj
      exact hF j u hj H' fun b o hne e => hb6 b o hne (s26 _ _ e)
    · rw [List.getElem?_append_right (by omega)] at hj
      have hj0 : j - acc.length = 0 := by
        have := (List.getElem?_eq_some_iff.mp hj).1
        simp at this
        omega
      rw [hj0] at hj
      cases hj
      obtain rfl : j = i := by omega
      exact hF6 H' hb6
  · obtain rfl : i = xs.length := by omega
    exact .inl ⟨⟨xs, ys, sm.seq hS, sm.seq hS', .inl (Nat.le_refl _)⟩, k D H2 acc hD sm hA hal fun j v e => hF j v e H2 fun b o _ e => e⟩
end
end L2
namespace PySem
open PySem.Spec PyProof.Rows
theorem lk_list_keys : typeLookup (.type "list") "keys" = pure none := by rw [typeLookup_type, builtinLookup_eq_fast]; kernel_rfl
section
variable {prog : Program} {w : World} {A : Around} {E : Value → Shared → Prop} {a : Addr} {xs : Array Value} {k : Nat} {s : Shared}
theorem no_keys {Q : Option Value → Shared → Prop} {sl : Array (Option Value)} (hx : s.heap.get? a = some { cls := .type "list", dict := none, data := .seq xs k, slots := sl }) (hA : A.handled = none)
    (hq : ∀ h' tk, (∀ b u, s.heap.get? b = some u → h'.get? b = some u) → Q none { s with heap := h', toks := tk }) : wpAny (model prog w) A (getAttr? (.ref a) "keys") Q E s := by
  obtain ⟨hp, g, d, tk, os⟩ := s
  have hT : ∀ tk', (⟨hp, g, d, tk', os⟩ : Shared).TypeIs (.ref a) "list" := fun _ => ⟨_, hx, rfl⟩
  have f1 := sub_AttributeError
  have f3 := F.slot_list_getattribute.lookup
  have f4 := F.slot_list_getattribute.bind (.ref a)
  have f5 := am_list_getattr_none
  unfold getAttr? getAttrBy? getAttrBy
  repeat (any_goals (first | assumption | exact hT _ | ((with_reducible show wpAny _ _ (call (Value.builtin "list.__getattribute__") _ _) _ _ _); refine call_meets F.slot_list_getattribute (hT _) am_entry_list_getattribute (F.args_list_getattribute_2 _ _) (meets_getattribute_miss_list a xs k sl "keys" _ lk_list_keys (by decide +kernel) (by rw [sizeLine_eq]; decide +kernel)) ⟨hx, hA, fun h' tk' e hx' => ?_⟩) | wp_step))
  obtain ⟨t1, u1, hE⟩ := hx'.there
  show wpAny _ _ (getattributeRaised _ _ _ _ _ _ _) _ _ _; unfold getattributeRaised
  repeat (any_goals (first | assumption | wp_step))
  exact hq _ _ hx'.keeps
end
end PySem
namespace L2
open PySem PySem.Spec PyProof.Rows
theorem entry_dul : entryFor table "dict.update.loop" = some Builtin.«dict.update.loop» := entryFor_of_tree (by kernel_rfl)
section
variable {P : Program} {w : World} {A : Around} {E : Value → Shared → Prop}
abbrev accP (ps : List (Key × Value × Value)) : List (Key × Value) := ps.foldl (fun a p => stored a p.1 p.2.2) []
theorem stored_len (kvs : List (Key × Value)) (k : Key) (v : Value) : (stored kvs k v).length ≤ kvs.length + 1 := by
  unfold stored
  split
  · simp
  · simp
theorem accP_len (ps : List (Key × Value × Value)) : (accP ps).length ≤ ps.length := by
  have : ∀ (ps : List (Key × Value × Value)) (a : List (Key × Value)), (ps.foldl (fun a p => stored a p.1 p.2.2) a).length ≤ a.length + ps.length := by
    intro ps
    induction ps with
    | nil => intro a; exact Nat.le_refl _
    | cons p ps ih =>
      intro a
      have h1 := ih (stored a p.1 p.2.2)
      have h2 := stored_len a p.1 p.2.2
      rw [List.foldl_cons, List.length_cons]
      omega
  simpa using this ps []
theorem pairs_loop {d it l : Addr} {its : List Value} {ps : List (Key × Value × Value)} {R : Result → Shared → Prop} {s₀ : Shared} (hA : A.handled = none) (hlen : ps.length = its.length) (hz : its.length ≤ 1000) (hdi : d ≠ it) (hdl : d ≠ l) (hil : it ≠ l)
    (hl : s₀.heap.IsList l its.toArray) (hp : ∀ (i : Nat) p, ps[i]? = some p → ∃ b, its[i]? = some (.ref b) ∧ b ≠ d ∧ b ≠ it ∧ IsTup s₀.heap b #[p.2.1, p.2.2] ∧ (mixKind P w).is p.1 p.2.1 = true)
    (hR : ∀ h' tk, (∀ b u, b ≠ d → b ≠ it → s₀.heap.get? b = some u → h'.get? b = some u) → h'.DictOf (mixKind P w) d (accP ps) → R (.ok (.ret .none)) { s₀ with heap := h', toks := tk }) :
    ∀ (m j : Nat) (h : Heap) (tk : Nat) (t : Tok), j + m = its.length → (∀ b u, b ≠ d → b ≠ it → s₀.heap.get? b = some u → h.get? b = some u) → h.IsListIter it l j → h.DictOf (mixKind P w) d (accP (ps.take j)) →
      codeAny (model P w) A (.builtin "dict.update.loop" ⟨[.ref d, .ref it, .int j t, .none], []⟩) R { s₀ with heap := h, toks := tk } := by
  intro m
  induction m with
  | zero =>
    intro j h tk t hj hk hi hd
    refine codeAny_builtin entry_dul ?_
    unfold Builtin.«dict.update.loop»
    dsimp only
    have hlj : h.IsList l its.toArray := by
      obtain ⟨ol, e1, e2⟩ := hl
      exact ⟨ol, hk l ol hdl.symm hil.symm e1, e2⟩
    refine wpAny_bind (wpAny_pyNext_list_end (by exact hA) hi hlj (by simp; omega) fun h' eb => ?_)
    refine wpAny_bind (m := Builtin.Dict.addKeywords d []) ?_
    unfold Builtin.Dict.addKeywords
    refine wpAny_pure (wpAny_pure (hR h' tk (fun b u n1 n2 e => eb b u n2 (hk b u n1 n2 e)) ?_))
    obtain ⟨od, es, ep, h1, h2⟩ := hd
    rw [List.take_of_length_le (by omega)] at h2
    exact ⟨od, es, ep, eb d od hdi h1, h2⟩
  | succ m ih =>
    intro j h tk t hj hk hi hd
    refine codeAny_builtin entry_dul ?_
    unfold Builtin.«dict.update.loop»
    dsimp only
    have hlj : h.IsList l its.toArray := by
      obtain ⟨ol, e1, e2⟩ := hl
      exact ⟨ol, hk l ol hdl.symm hil.symm e1, e2⟩
    have hjp : ps[j]? = some (ps[j]'(by omega)) := by simp
    obtain ⟨b, e1, n1, n2, ht, hkey⟩ := hp j _ hjp
    generalize ps[j]'(by omega) = p at hjp ht hkey
    refine wpAny_bind (wpAny_pyNext_list_item hi hlj (x := .ref b) (by simpa using e1) fun h' hi' sb => ?_)
    obtain ⟨ot, t1, t2, t3, t4⟩ := ht
    have ht' : h'.get? b = some ot := (sb.2 b n2).trans (hk b ot n1 n2 t1)
    have hT : ({ s₀ with heap := h', toks := tk } : Shared).TypeIs (.ref b) "tuple" := ⟨_, ht', t2⟩
    dsimp only
    refine wpAny_bind (wpAny_holding (wpAny_bind (wpAny_tryCatch ?_)))
    unfold Builtin.Dict.pairItems
    refine wpAny_bind (wpAny_typeOf hT ?_)
    rw [if_pos (by decide)]
    unfold seqItems?
    refine wpAny_bind (wpAny_bind (wpAny_load ht' ?_))
    rw [t4]
    refine wpAny_pure (wpAny_pure ?_)
    dsimp only [Option.getD_some]
    refine wpAny_holding (wpAny_dictSet_pairs (kvs := accP (ps.take j)) hkey ?_ (fun h2 hd2 sb2 => ?_) ?_)
    · obtain ⟨od, es, ep, q1, q2⟩ := hd
      exact ⟨od, es, ep, (sb.2 d hdi).trans q1, q2⟩
    · refine wpAny_pure ⟨Code.quiet_builtin _ (by decide +kernel), ?_⟩
      refine ih (j + 1) h2 (tk + 1) 0 (by omega) (fun b u m1 m2 e => (sb2.2 b m1).trans ((sb.2 b m2).trans (hk b u m1 m2 e))) ?_ ?_
      · obtain ⟨oi, q1, q2⟩ := hi'
        exact ⟨oi, (sb2.2 it hdi.symm).trans q1, q2⟩
      · have e : ps.take (j + 1) = ps.take j ++ [p] := by rw [List.take_add_one, hjp]; rfl
        rw [accP, e, List.foldl_append]
        exact hd2
    · have := accP_len (ps.take j)
      rw [List.length_take] at this
      rw [sizeLine_eq]; omega
end
section
variable {X : Cx}
theorem paired_of {α β : Type} {Pr : α → β → Prop} : ∀ {ys : List α}, (∀ y ∈ ys, ∃ p, Pr y p) → ∃ ps, Paired Pr ys ps
  | [], _ => ⟨[], .nil⟩
  | y :: ys, h => by
    obtain ⟨p, hp⟩ := h y List.mem_cons_self
    obtain ⟨ps, hps⟩ := paired_of (ys := ys) fun z hz => h z (List.mem_cons_of_mem _ hz)
    exact ⟨p :: ps, .cons hp hps⟩
theorem paired_get {α β : Type} {Pr : α → β → Prop} : ∀ {ys : List α} {ps : List β} {i : Nat} {p : β}, Paired Pr ys ps → ps[i]? = some p → ∃ y, ys[i]? = some y ∧ Pr y p
  | _, _, _, _, .nil, h => by simp at h
  | _, _, 0, _, .cons r _, h => by cases h; exact ⟨_, rfl, r⟩
  | _, _, i + 1, _, .cons _ t, h => paired_get (i := i) t h
def pairK (kf : V → Key) (vf : V → V) (ys : List V) : List (Key × V) := ys.foldl (fun a y => putK a (kf y) (vf y)) []
theorem kv_fold {kf : V → Key} {vf : V → V} {Pr : V → Key × Value × Value → Prop} (hP : ∀ y p, Pr y p → p.1 = kf y ∧ RelV (vf y) p.2.2) : ∀ {ys : List V} {ps : List (Key × Value × Value)} {a : List (Key × V)} {b : List (Key × Value)}, Paired Pr ys ps → KV a b →
    KV (ys.foldl (fun a y => putK a (kf y) (vf y)) a) (ps.foldl (fun a p => stored a p.1 p.2.2) b)
  | _, _, _, _, .nil, h => h
  | y :: ys, p :: ps, a, b, .cons r t, h => by
    obtain ⟨e1, e2⟩ := hP y p r
    rw [List.foldl_cons, List.foldl_cons, e1]
    exact kv_fold hP t (h.put (kf y) e2)
def rDictPairs (K : PySem.W.Frag) : List V → Hp → VK → Prop := fun xs H Q => ∃ (a : Addr) (ys : List V) (kf : V → Key) (vf : V → V), xs = [.ref a] ∧ SqL K H a ys ∧ ys.length ≤ 1000 ∧ (∀ y ∈ ys, ∃ b, y = .ref b ∧ SqT K H b [kV (kf y), vf y]) ∧
  ∀ p, H p = none → Q (.ref p) (upd H p (.dK (pairK kf vf ys)))
theorem call_dictPairs (hc : X.calm = true) : CallR X (.type "dict") (rDictPairs X.K) := by
  intro pins s σ H xs us Q I r h
  obtain ⟨l, ys, kf, vf, rfl, hq, hlen, hP, q⟩ := h
  obtain ⟨u, rfl, rx⟩ := vals1 r
  cases rx
  obtain ⟨its, rv, pl, hz⟩ := I.list hq
  have hil : ys.length = its.length := rv.length
  have hl := pl.isList
  obtain ⟨ps, hps⟩ := paired_of (Pr := fun (y : V) (p : Key × Value × Value) => p.1 = kf y ∧ RelV (vf y) p.2.2 ∧ ∃ b, y = .ref b ∧ IsTup s.heap b #[p.2.1, p.2.2] ∧ (mixKind X.prog X.w).is p.1 p.2.1 = true) (ys := ys) fun y hy => by
    obtain ⟨b, rfl, hb⟩ := hP y hy
    obtain ⟨tv, rt, it, hz'⟩ := I.tuple hb
    cases rt with
    | cons r1 rt => cases rt with
      | cons r2 rt =>
        cases rt
        exact ⟨(kf (.ref b), _, _), rfl, r2, b, rfl, it, kV_is r1⟩
  have hpl : ps.length = its.length := by rw [← hil]; exact (Paired.length hps).symm
  obtain ⟨⟨oc, od, oo, osl⟩, nl, g1, g2, g3, g4⟩ := id pl
  simp only at g2 g3 g4
  subst g2 g3 g4
  have hll : l < s.heap.objs.size := Heap.lt_size g1
  refine callType_codes (Q₁ := fun ob s1 => ob = .ref s.heap.objs.size ∧ s1 = { s with heap := s.heap.push { cls := .type "dict", data := .dict #[] } }) F.kt_called_dict (F.kt_typeCall_dict_1 _) F.entry_dict_init (kt_code_dict_new _ ⟨rfl, rfl⟩) ?_
  rintro ob s1 ⟨rfl, rfl⟩
  have hd0 : (s.heap.push { cls := .type "dict", data := .dict #[] }).DictOf (mixKind X.prog X.w) s.heap.objs.size [] := Heap.DictOf.new s.heap
  refine ⟨hd0.typeIs, F.args_dict_init_2 _ _, ?_⟩
  unfold Builtin.«dict.__init__» Builtin.Dict.selfAndRest; refine wpAny_bind (wpAny_bind (wpAny_notOrdered_dict hd0.typeIs ?_))
  show wpAny _ _ (pure (s.heap.objs.size, [Value.ref l])) _ _ _; refine wpAny_pure ?_
  show wpAny _ _ (Builtin.Dict.updateFrom "dict.__init__" s.heap.objs.size (.ref l) [] .none) _ _ _
  have kp0 : ∀ b o, s.heap.get? b = some o → (s.heap.push { cls := .type "dict", data := .dict #[] }).get? b = some o := fun b o e => Heap.get?_push_of_some _ e
  have hT : ({ s with heap := s.heap.push { cls := .type "dict", data := .dict #[] } } : Shared).TypeIs (.ref l) "list" := ⟨_, kp0 _ _ g1, rfl⟩
  unfold Builtin.Dict.updateFrom; refine wpAny_bind (wpAny_typeOf hT ?_)
  rw [if_pos (by decide)]
  refine wpAny_bind (no_keys (kp0 _ _ g1) (by exact I.ok.hd hc) fun h1 tk1 kp1 => ?_)
  have kp01 : ∀ b o, s.heap.get? b = some o → h1.get? b = some o := fun b o e => kp1 b o (kp0 b o e)
  have hl1 : h1.IsList l its.toArray := ⟨_, kp01 _ _ g1, rfl, _, rfl⟩
  obtain ⟨o0, es0, ep0, q1, q2⟩ := hd0
  have q1' := kp1 _ _ q1
  have hd1 : s.heap.objs.size < h1.objs.size := Heap.lt_size q1'
  rw [if_pos (show (none : Option Value).isNone = true from rfl)]
  refine wpAny_bind (wpAny_rule (wpAny_bind (wpAny_pyIter_list hl1 (wpAny_pure ⟨Code.quiet_builtin _ (by decide +kernel), ?_⟩))))
  have kp2 : ∀ b o, h1.get? b = some o → (h1.push { cls := .type "list_iterator", data := .fields #[.ref l, .int 0 0] }).get? b = some o := fun b o e => Heap.get?_push_of_some _ e
  refine pairs_loop (A := X.A.in1) (s₀ := { s with heap := h1.push { cls := .type "list_iterator", data := .fields #[.ref l, .int 0 0] }, toks := tk1 }) (its := its) (ps := ps) (d := s.heap.objs.size) (it := h1.objs.size) (l := l) (by exact I.ok.hd hc) hpl (by omega) (Nat.ne_of_lt hd1) (Nat.ne_of_gt hll) (Nat.ne_of_gt (Nat.lt_trans hll hd1))
    ⟨_, kp2 _ _ (kp01 _ _ g1), rfl, _, rfl⟩ (fun i p hi => ?_) (fun h' tk kp hD => ⟨rfl, ?_⟩) its.length 0 _ tk1 0 (by omega) (fun b o _ _ e => e) ⟨_, Heap.get?_push_size _ rfl, rfl, rfl⟩ ⟨o0, es0, ep0, kp2 _ _ q1', q2⟩
  · obtain ⟨y, hy, e1, e2, b, rfl, ht, hk⟩ := paired_get hps hi
    obtain ⟨ot, t1, t2⟩ := ht
    obtain ⟨v, hv, rr⟩ := rv.get hy
    cases rr
    have hb : b < s.heap.objs.size := Heap.lt_size t1
    exact ⟨b, hv, Nat.ne_of_lt hb, Nat.ne_of_lt (Nat.lt_trans hb hd1), ⟨ot, kp2 _ _ (kp01 _ _ t1), t2⟩, hk⟩
  · have hkv : KV (pairK kf vf ys) (accP ps) := kv_fold (fun y p h => ⟨h.1, h.2.1⟩) hps .nil
    have hkl : (pairK kf vf ys).length ≤ sizeLine := by
      have e1 : (pairK kf vf ys).length = (accP ps).length := Paired.length hkv
      have e2 := accP_len ps
      rw [e1, sizeLine_eq]; omega
    exact ⟨.ref s.heap.objs.size, _, I.laid (a := s.heap.objs.size) (o := .dK (pairK kf vf ys)) (t' := tk) (fun b o e => kp b o (Nat.ne_of_lt (Heap.lt_size e)) (Nat.ne_of_lt (Nat.lt_trans (Heap.lt_size e) hd1)) (kp2 _ _ (kp01 b o e))) (Nat.le_refl _) (dk_new hkl (beq_eq_false_iff_ne.mpr (Ne.symm (Nat.ne_of_lt I.big))) hkv hD), rfl, q _ (I.hok.fresh (Nat.le_refl _))⟩
end
end L2
namespace L2
open PySem PySem.Spec PyProof.Rows
def viewO (v a : Addr) : HO := .ext fun h => h.IsValuesView v a
def Itv (a : Addr) (o : Obj) (kvs : List (Key × V)) : It := ⟨fun i H => H a = some (.frz o (.dK kvs)) ∧ i < kvs.length, fun i H x H' => H' = H ∧ (kvs.map (·.2))[i]? = some x, fun i H => H a = some (.frz o (.dK kvs)) ∧ kvs.length ≤ i⟩
theorem entry_vi : entryFor table "dict_valueiterator.__iter__" = some Builtin.«dict_keyiterator.__iter__» := entryFor_alias (id' := "dict_keyiterator.__iter__") (by kernel_rfl) (by decide +kernel) (by decide +kernel) (by kernel_rfl)
theorem iter_self {P : Program} {w : World} {A : Around} {E : Value → Shared → Prop} {s : Shared} {it d : Addr} {i n ep : Nat} {Q : Value → Shared → Prop} (hit : s.heap.IsValIter it d i n ep) (h : Q (.ref it) s) : wpAny (model P w) A (pyIter (.ref it)) Q E s := by
  refine wpAny_pyIter_slot hit.typeIs F.slot_dict_valueiterator_iter (wpAny_call_entry F.slot_dict_valueiterator_iter hit.typeIs entry_vi ?_ (F.args_dict_valueiterator_iter_1 _))
  show wpAny _ _ (ret (.ref it)) _ _ s; exact wpAny_pure ⟨_, rfl, "dict_valueiterator", _, hit.typeIs, F.slot_dict_valueiterator_next.lookup, h⟩
theorem frz_at {X : Cx} {pins : List (Addr × Obj)} {σ : St} {H : Hp} {s : Shared} {a : Addr} {o : Obj} {kvs : List (Key × V)} {es : Array DictEntry} {ep : Nat} (I : Inv X pins σ H s) (e : H a = some (.frz o (.dK kvs))) (hdat : o.data = .dict es ep) :
    ∃ vs, KV kvs vs ∧ s.heap.DictAt (mixKind X.prog X.w) a vs ep := by
  obtain ⟨h0, _, _, vs, rel, o', es', ep', q1, q2, q3, q4⟩ := (show ObjOk X.prog X.w H s.heap a (.frz o (.dK kvs)) from I.hok a _ e)
  rw [h0] at q1
  cases q1
  rw [hdat] at q3
  cases q3
  exact ⟨vs, rel, o, es, h0, q2, hdat, q4⟩
theorem turn_vals {P : Program} {w : World} {K : PySem.W.Frag} {tg : Expr} {a it : Addr} {o : Obj} {kvs : List (Key × V)} {es : Array DictEntry} {ep : Nat} (hdat : o.data = .dict es ep) : Turn P w K tg (Itv a o kvs) [it] it (fun i h => h.IsValIter it a i kvs.length ep) where
  mem := by simp
  obj := fun i h st b hb => by
    obtain rfl : b = it := by simpa using hb
    obtain ⟨oi, e, c, dd⟩ := st
    exact ⟨oi, e, fun v z => by rw [dd] at z; cases z⟩
  keep := fun i h h' st k => let ⟨oi, e, r⟩ := st; ⟨oi, k it (by simp) oi e, r⟩
  item := by
    intro X hP hw hK hc i pins s σ H E I hf st hg
    subst hP hw hK
    obtain ⟨hg1, hg2⟩ := hg
    obtain ⟨vs, rel, hat⟩ := frz_at I hg1 hdat
    have hvl : kvs.length = vs.length := Paired.length rel
    obtain ⟨f0, f1, f2, f3, f4, f5⟩ := hf it (by simp)
    have hx : vs[i]? = some (vs[i]'(by omega)) := by simp
    obtain ⟨p, hp, e1, e2⟩ := paired_get rel hx
    rw [hvl] at st
    refine wpAny_pyNext_values_item st hat (k := (vs[i]'(by omega)).1) (v := (vs[i]'(by omega)).2) hx fun h' st' sb => ?_
    have I1 : Inv X pins σ H { s with heap := h' } := I.turned (t' := s.toks) (fun b o hb e => (sb.2 b hb).trans e) f0 f1 f3 f4 f5
    obtain ⟨oi, e, c, dd⟩ := id st'
    rw [← hvl] at st'
    exact ⟨_, rfl, go_of (s := { s with heap := h' }) e c dd (by decide) ⟨p.2, H, I1, e2, ⟨rfl, by rw [List.getElem?_map, hp]; rfl⟩, st', fun b hb => (hf b hb).1⟩⟩
  done := by
    intro X hP hw hK hc i pins s σ H E I hf st hg
    subst hP hw hK
    obtain ⟨hg1, hg2⟩ := hg
    obtain ⟨vs, rel, hat⟩ := frz_at I hg1 hdat
    have hvl : kvs.length = vs.length := Paired.length rel
    obtain ⟨f0, f1, f2, f3, f4, f5⟩ := hf it (by simp)
    rw [hvl] at st
    exact wpAny_pyNext_values_end (I.ok.hd hc) st hat (by simp; omega) fun h' eb => ⟨rfl, I.turned (t' := s.toks) (fun b o hb e => eb b o hb e) f0 f1 f3 f4 f5⟩
  self := fun _ _ _ _ _ st h => iter_self st h
section
variable {X : Cx} {tg : Expr}
def iVals (tl : TE) : TI := fun σ H R => tl σ H fun x H1 => ∃ v a kvs, x = .ref v ∧ H1 v = some (viewO v a) ∧ H1 a = some (.dK kvs) ∧ ∀ o, R (Itv a o kvs) (upd H1 a (.frz o (.dK kvs)))
theorem pi_vals {l : Expr} {tl : TE} (hl : PE X l tl) : PI X tg l (iVals tl) := by
  intro pins s σ H R I h
  refine thn (hl pins s σ H _ I h) fun u s1 ⟨x, H1, I1, r1, v, a, kvs, ex, hv, ha, q⟩ => ?_
  subst ex
  cases r1
  obtain ⟨hview, _, _⟩ := (show ObjOk X.prog X.w H1 s1.heap v (viewO v a) from I1.hok v _ hv)
  obtain ⟨z, hsys, vs, rel, o, es, ep, q1, q2, q3, q4⟩ := (show ObjOk X.prog X.w H1 s1.heap a (.dK kvs) from I1.hok a _ ha)
  have hvl : kvs.length = vs.length := Paired.length rel
  have hat : s1.heap.DictAt (mixKind X.prog X.w) a vs ep := ⟨o, es, q1, q2, q3, q4⟩
  refine wpAny_pyIter_values hview hat ?_
  have I2 : Inv X pins σ (upd H1 a (.frz o (.dK kvs))) s1 := I1.write (t' := s1.toks) (h' := s1.heap) (by rw [ha]; exact True.intro) (.inl rfl) (fun b u _ e => e) ⟨o, q1⟩ (show ObjOk X.prog X.w _ s1.heap a (.frz o (.dK kvs)) from ⟨q1, z, hsys, vs, rel, o, es, ep, q1, q2, q3, q4⟩)
  refine ⟨s1.heap.objs.size, [s1.heap.objs.size], _, _, _, rfl, I2.kept (t' := s1.toks) fun b o e => Heap.get?_push_of_some _ e, turn_vals q3, ⟨_, Heap.get?_push_size _ rfl, rfl, by rw [hvl]; rfl⟩, fun b hb => ?_, q o⟩
  obtain rfl : b = s1.heap.objs.size := by simpa using hb
  exact I2.fpOk (Nat.le_refl _) (I2.hok.fresh (Nat.le_refl _))
def rVals : V → List V → Hp → VK → Prop := fun x vs H Q => ∃ a kvs, x = .ref a ∧ vs = [] ∧ H a = some (.dK kvs) ∧ ∀ v, H v = none → Q (.ref v) (upd H v (viewO v a))
theorem mt_values : MtR X "dict.values" rVals := by
  intro pins s σ H x vs v us Q I rx rv h
  obtain ⟨a, kvs, rfl, rfl, ha, q⟩ := h
  cases rx
  have hus := rv.zero
  subst hus
  obtain ⟨z, hsys, ws, rel, dd⟩ := dk_of I.hok ha
  refine call_meetsIn PySem.F.slot_dict_values dd.typeIs PySem.F.entry_dict_values (PySem.F.args_dict_values_1 _) (meets_dict_values (mixKind X.prog X.w) a hsys) ⟨⟨ws, dd⟩, ?_⟩
  have hg : (s.heap.push { cls := .type "dict_values", data := .fields #[.ref a] }).IsValuesView s.heap.objs.size a := ⟨_, Heap.get?_push_size _ rfl, rfl, rfl⟩
  exact ⟨.ref s.heap.objs.size, _, I.laid (a := s.heap.objs.size) (o := viewO s.heap.objs.size a) (t' := s.toks) (fun b o e => Heap.get?_push_of_some _ e) (Nat.le_refl _) ⟨hg, ⟨_, Heap.get?_push_size _ rfl⟩, fun h1 h2 ⟨ov, e1, e2⟩ k => ⟨ov, k ov e1, e2⟩⟩, rfl, q _ (I.hok.fresh (Nat.le_refl _))⟩
end
end L2
namespace L2
open PySem PySem.Spec PyProof.Rows
section
variable {X : Cx} {K : PySem.W.Frag} {σ : St} {H : Hp} {Q : VK} {R : It → Hp → Prop} {tl td ty : TE} {g : TG} {tt : TT} {te : TE} {cap : List (Option Nat)} {a : Addr} {o : Obj} {kvs : List (Key × V)}
theorem call_dictPairsK (hc : X.calm = true) (hK : X.K = K := by rfl) : CallR X (.type "dict") (rDictPairs K) := hK ▸ call_dictPairs hc
theorem ap_dictPairs : rDictPairs K [.ref a] H Q = ∃ (ys : List V) (kf : V → Key) (vf : V → V), SqL K H a ys ∧ ys.length ≤ 1000 ∧ (∀ y ∈ ys, ∃ b, y = .ref b ∧ SqT K H b [kV (kf y), vf y]) ∧ ∀ p, H p = none → Q (.ref p) (upd H p (.dK (pairK kf vf ys))) := by simp [rDictPairs]
theorem ap_iVals : iVals tl σ H R = tl σ H fun x H1 => ∃ v a kvs, x = .ref v ∧ H1 v = some (viewO v a) ∧ H1 a = some (.dK kvs) ∧ ∀ o, R (Itv a o kvs) (upd H1 a (.frz o (.dK kvs))) := rfl
theorem ap_rVals : rVals (.ref a) [] H Q = ∃ kvs, H a = some (.dK kvs) ∧ ∀ v, H v = none → Q (.ref v) (upd H v (viewO v a)) := by simp [rVals]
theorem ap_dget1 : tDGet1 td ty σ H Q = td σ H fun x H1 => ∃ a, x = .ref a ∧ IsD H1 a ∧ ty σ H1 fun y H2 => ∃ o, DGet H2 a y o ∧ Q (o.getD .non) H2 := rfl
theorem CompP.vals (Sσ : St → Prop) (p : V → Bool) (F : V → V) (hH : H a = some (.frz o (.dK kvs))) (h0 : Sσ (capSt σ cap)) (hz : kvs.length ≤ sizeLine)
    (hs : ∀ x ∈ kvs.map (·.2), ∀ (σ : St) (H5 : Hp) (R1 : St → VK) (R2 : St → Hp → Prop), Sσ σ → Same H H5 → (p x = true → ∀ σ4 H6, Sσ σ4 → Same H5 H6 → R1 σ4 (F x) H6) → (p x = false → ∀ σ4 H6, Sσ σ4 → Same H5 H6 → R2 σ4 H6) →
      g x σ H5 fun σ4 H4 => tt σ4 H4 fun b H5 => if b = true then te σ4 H5 (R1 σ4) else R2 σ4 H5)
    (k : ∀ D H', H D = Option.none → Same H H' → H' D = some (.lst (((kvs.map (·.2)).filter p).map F)) → Q (.ref D) H') : CompP cap (Itv a o kvs) g tt te σ H Q :=
  fun D hD => comp_step (xs := kvs.map (·.2)) (Itv a o kvs) Sσ p F hD h0 (by rw [List.length_map]; exact hz) (fun i x H5 hx sm => ⟨⟨sm _ _ hH, by simpa using (List.getElem?_eq_some_iff.mp hx).1⟩, fun y H' hy => ⟨Option.some.inj (hy.2.symm.trans hx), hy.1⟩⟩) (fun H5 sm => ⟨sm _ _ hH, by simp⟩) hs fun H' s e => k D H' hD s e
end
end L2
namespace L2
open PySem PySem.W PySem.Spec PyProof.Rows
section
variable {X : Cx} {pins : List (Addr × Obj)} {σ : St} {H : Hp} {s : Shared} {h' : Heap}
end
section
variable {X : Cx} {pins : List (Addr × Obj)} {σ : St} {H : Hp} {s : Shared} {k : Nat} {f : Addr} {fd : FuncData} {ps : List Str} {sp : Sp}
theorem Paired.imp {α β : Type} {P P' : α → β → Prop} (h : ∀ a b, P a b → P' a b) : ∀ {xs : List α} {ys : List β}, Paired P xs ys → Paired P' xs ys
  | _, _, .nil => .nil
  | _, _, .cons a t => .cons (h _ _ a) (Paired.imp h t)
def KeyAt (kf : V → List Int) (H : Hp) (y v : V) : Prop := ∃ t, v = .ref t ∧ H t = some (.tup ((kf y).map V.int))
theorem KeyAt.same {kf : V → List Int} {H H' : Hp} {y v : V} (h : KeyAt kf H y v) (e : ∀ t xs, H t = some (.tup xs) → H' t = some (.tup xs)) : KeyAt kf H' y v := let ⟨t, a, b⟩ := h; ⟨t, a, e _ _ b⟩
def KeyFn (sp : Sp) (kf : V → List Int) (H : Hp) (y : V) : Prop := ∀ H1, Same H H1 → ∀ R : VK, (∀ t H2, Same H1 H2 → H2 t = some (.tup ((kf y).map V.int)) → R (.ref t) H2) → sp [y] H1 R E0
end
section
variable {P : Program} {w : World} {A : Around} {E : Value → Shared → Prop} {s : Shared}
end
section
variable {X : Cx} {pins : List (Addr × Obj)} {σ : St} {H : Hp} {s : Shared} {k : Nat} {f : Addr} {fd : FuncData} {ps : List Str} {sp : Sp}
def rSortK (K : PySem.W.Frag) (sp : Sp) : V → Hp → VK → Prop := fun x H Q => ∃ (a : Addr) (ys : List V) (kf : V → List Int), x = .ref a ∧ SqL K H a ys ∧ ys.length < 64 ∧ (∀ y ∈ ys, kf y ≠ [] ∧ KeyFn sp kf H y) ∧
  ∀ p zs H', Same H H' → H p = none → H' p = some (.lst zs) → zs.Perm ys → (∀ m, (∀ y ∈ ys, (kf y).length = m) → (ys.map kf).Nodup → zs.Pairwise fun y z => lexB (kf y) (kf z) false = true) → Q (.ref p) H'
def tSortK (K : PySem.W.Frag) (sp : Sp) (t : TA) : TE := fun σ H Q => t σ H fun vs H1 => ∃ x, vs = [x] ∧ rSortK K sp x H1 Q
theorem ap_tSortK {K : PySem.W.Frag} {sp : Sp} {t : TA} {σ : St} {H : Hp} {Q : VK} : tSortK K sp t σ H Q = t σ H fun vs H1 => ∃ x, vs = [x] ∧ rSortK K sp x H1 Q := rfl
theorem ap_rSortK {K : PySem.W.Frag} {sp : Sp} {a : Addr} {H : Hp} {Q : VK} : rSortK K sp (.ref a) H Q = ∃ (ys : List V) (kf : V → List Int), SqL K H a ys ∧ ys.length < 64 ∧ (∀ y ∈ ys, kf y ≠ [] ∧ KeyFn sp kf H y) ∧
    ∀ p zs H', Same H H' → H p = none → H' p = some (.lst zs) → zs.Perm ys → (∀ m, (∀ y ∈ ys, (kf y).length = m) → (ys.map kf).Nodup → zs.Pairwise fun y z => lexB (kf y) (kf z) false = true) → Q (.ref p) H' := by simp [rSortK]
end
section
variable {X : Cx}
def rInsert : V → List V → Hp → VK → Prop := fun x vs H Q => ∃ (l : Addr) (xs : List V) (i : Int) (y : V), x = .ref l ∧ vs = [.int i, y] ∧ H l = some (.lst xs) ∧ 0 ≤ i ∧ i ≤ xs.length ∧ i < 1000000 ∧ xs.length + 1 ≤ sizeLine ∧ Q .non (upd H l (.lst (xs.take i.toNat ++ y :: xs.drop i.toNat)))
theorem mt_insert : MtM X "list.insert" rInsert := by
  intro pins s σ H x vs v us Q I rx rv h
  obtain ⟨l, xs, i, y, rfl, rfl, hH, hk0, hk, hk2, hz, q⟩ := h
  cases rx
  obtain ⟨iv, u, rfl, r1, ru⟩ := rv.two
  obtain ⟨t, rfl⟩ := r1
  obtain ⟨z, its, n, r, hl, e⟩ := I.lstM hH
  have hfit : ¬ (!Builtin.List.listFitsIndex i) = true := by
    rw [fitsIndex_both (Int.le_trans (by decide) hk0) (Int.lt_trans hk2 (by decide))]
    exact Bool.false_ne_true
  have hsz : its.toArray.size ≤ sizeLine := by rw [List.size_toArray, ← hl]; exact z
  refine call_meets F.slot_list_insert ⟨_, e, rfl⟩ F.entry_list_insert (F.args_list_insert_3 _ _ _) (PySem.AutoSeq1.list_insert_list_int_val_1 l its.toArray n i t u hfit hsz) ⟨e, ?_⟩
  refine ⟨.non, _, I.lset (its' := its.take i.toNat ++ u :: its.drop i.toNat) hH e ?_ ((r.take i.toNat).append (.cons ru (r.drop i.toNat))) ?_, rfl, q⟩
  · have hm : (if i < 0 then (i + (its.toArray.size : Int)).toNat else min i.toNat its.toArray.size) = i.toNat := by
      rw [if_neg (by omega), List.size_toArray]
      omega
    show (its.toArray.extract 0 (if i < 0 then (i + (its.toArray.size : Int)).toNat else min i.toNat its.toArray.size)).push u ++ its.toArray.extract (if i < 0 then (i + (its.toArray.size : Int)).toNat else min i.toNat its.toArray.size) = _
    rw [hm]
    apply Array.toList_inj.mp
    simp
    exact List.take_of_length_le (by rw [List.length_drop]; omega)
  · rw [List.length_append, List.length_cons, List.length_take, List.length_drop]
    omega
end
end L2
namespace L2
open PySem PySem.W PySem.Spec PyProof.Rows
section
variable {X : Cx}
def rEqR (K : PySem.W.Frag) : R2 := fun x y H Q => ∃ (a b : Addr) (xs ys : List V), x = .ref a ∧ y = .ref b ∧ SqL K H a xs ∧ SqL K H b ys ∧ ((xs.length ≠ ys.length ∧ Q (.bl false) H) ∨ (xs = ys ∧ (∀ v ∈ xs, ∃ c, v = .ref c) ∧ Q (.bl true) H))
def rNeR (K : PySem.W.Frag) : R2 := fun x y H Q => ∃ (a b : Addr) (xs ys : List V), x = .ref a ∧ y = .ref b ∧ SqL K H a xs ∧ SqL K H b ys ∧ ((xs.length ≠ ys.length ∧ Q (.bl true) H) ∨ (xs = ys ∧ (∀ v ∈ xs, ∃ c, v = .ref c) ∧ Q (.bl false) H))
theorem refs_same {A : Around} {s : Shared} : ∀ {xs : List V} {us us2 : List Value}, (∀ v ∈ xs, ∃ c, v = .ref c) → Vals xs us → Vals xs us2 → us = us2
  | _, _, _, _, .nil, .nil => rfl
  | _, _, _, h, .cons r1 t1, .cons r2 t2 => by
    obtain ⟨c, rfl⟩ := h _ List.mem_cons_self
    cases r1
    cases r2
    rw [refs_same (A := A) (s := s) (fun v hv => h v (List.mem_cons_of_mem _ hv)) t1 t2]
theorem op_eqR {k : Nat} (hr : Room k X.A) : OpR X (compareOp .Eq) (rEqR X.K) := by
  intro pins s σ H x y v u Q I rx ry h
  obtain ⟨a, b, xs, ys, rfl, rfl, h1, h2, h⟩ := h
  have hr' := hr.units
  have hu' : X.A.units < cLine := by omega
  cases rx
  cases ry
  obtain ⟨its, rv, p, _⟩ := I.list h1
  obtain ⟨its2, rv2, p2, _⟩ := I.list h2
  have l1 := rv.length
  have l2 := rv2.length
  rcases h with ⟨hn, q⟩ | ⟨rfl, hc, q⟩
  · exact SeqAt.RcAt.lists_lengths p.isList p2.isList (by simp only [List.size_toArray, bne_iff_ne]; omega) hu' X.prog X.w X.xe _ ⟨.bl _, H, I, rfl, q⟩
  · have e := refs_same (A := X.A) (s := s) hc rv rv2
    subst e
    have := SeqAt.RcAt.lists (A := X.A) (e := fun _ => true) p.isList p2.isList rfl hu' (fun j _ _ => SeqAt.EqAt.same _)
    rw [show ((List.range its.toArray.size).all fun _ => true) = true by simp] at this
    exact this X.prog X.w X.xe _ ⟨.bl _, H, I, rfl, q⟩
theorem op_neR {k : Nat} (hr : Room k X.A) : OpR X (compareOp .NotEq) (rNeR X.K) := by
  intro pins s σ H x y v u Q I rx ry h
  obtain ⟨a, b, xs, ys, rfl, rfl, h1, h2, h⟩ := h
  have hr' := hr.units
  have hu' : X.A.units < cLine := by omega
  cases rx
  cases ry
  obtain ⟨its, rv, p, _⟩ := I.list h1
  obtain ⟨its2, rv2, p2, _⟩ := I.list h2
  have l1 := rv.length
  have l2 := rv2.length
  rcases h with ⟨hn, q⟩ | ⟨rfl, hc, q⟩
  · exact SeqAt.RcNeAt.lists_lengths p.isList p2.isList (by simp only [List.size_toArray, bne_iff_ne]; omega) hu' X.prog X.w X.xe _ ⟨.bl _, H, I, rfl, q⟩
  · have e := refs_same (A := X.A) (s := s) hc rv rv2
    subst e
    have := SeqAt.RcNeAt.lists (A := X.A) (e := fun _ => true) p.isList p2.isList rfl hu' (fun j _ _ => SeqAt.EqAt.same _)
    rw [show ((List.range its.toArray.size).all fun _ => true) = true by simp] at this
    exact this X.prog X.w X.xe _ ⟨.bl _, H, I, rfl, q⟩
theorem op_eqRK {K : PySem.W.Frag} {k : Nat} (hr : Room k X.A) (hK : X.K = K := by rfl) : OpR X (compareOp .Eq) (rEqR K) := hK ▸ op_eqR hr
theorem op_neRK {K : PySem.W.Frag} {k : Nat} (hr : Room k X.A) (hK : X.K = K := by rfl) : OpR X (compareOp .NotEq) (rNeR K) := hK ▸ op_neR hr
theorem mn_rEqR {K : PySem.W.Frag} : MonoR (rEqR K) := fun _ _ _ _ _ k ⟨a, b, c, d, e, f, g, h, q⟩ => ⟨a, b, c, d, e, f, g, h, q.elim (fun ⟨z, q⟩ => .inl ⟨z, k _ _ q⟩) fun ⟨z, z', q⟩ => .inr ⟨z, z', k _ _ q⟩⟩
theorem mn_rNeR {K : PySem.W.Frag} : MonoR (rNeR K) := fun _ _ _ _ _ k ⟨a, b, c, d, e, f, g, h, q⟩ => ⟨a, b, c, d, e, f, g, h, q.elim (fun ⟨z, q⟩ => .inl ⟨z, k _ _ q⟩) fun ⟨z, z', q⟩ => .inr ⟨z, z', k _ _ q⟩⟩
def rSetOf (K : PySem.W.Frag) : List V → Hp → VK → Prop := fun xs H Q => ∃ (a : Addr) (ns : List Int), xs = [.ref a] ∧ SqL K H a (ns.map V.int) ∧ ns.length ≤ 1000 ∧ ∀ l S n, H l = none → n ≤ ns.length → (ns.Nodup → n = ns.length) → Q (.ref l) (upd H l (.set S n))
def rLenS : List V → Hp → VK → Prop := fun xs H Q => ∃ (a : Addr) (S : Int → Bool) (n : Nat), xs = [.ref a] ∧ H a = some (.set S n) ∧ Q (.int n) H
theorem ap_setOf {K : PySem.W.Frag} {a : Addr} {H : Hp} {Q : VK} : rSetOf K [.ref a] H Q = ∃ ns : List Int, SqL K H a (ns.map V.int) ∧ ns.length ≤ 1000 ∧ ∀ l S n, H l = none → n ≤ ns.length → (ns.Nodup → n = ns.length) → Q (.ref l) (upd H l (.set S n)) := by simp [rSetOf]
theorem ap_lenSet {a : Addr} {H : Hp} {Q : VK} : rLenS [.ref a] H Q = ∃ (S : Int → Bool) (n : Nat), H a = some (.set S n) ∧ Q (.int n) H := by simp [rLenS]
theorem ap_eqR {K : PySem.W.Frag} {a b : Addr} {H : Hp} {Q : VK} : rEqR K (.ref a) (.ref b) H Q = ∃ (xs ys : List V), SqL K H a xs ∧ SqL K H b ys ∧ ((xs.length ≠ ys.length ∧ Q (.bl false) H) ∨ (xs = ys ∧ (∀ v ∈ xs, ∃ c, v = .ref c) ∧ Q (.bl true) H)) := by simp [rEqR]
theorem ap_neR {K : PySem.W.Frag} {a b : Addr} {H : Hp} {Q : VK} : rNeR K (.ref a) (.ref b) H Q = ∃ (xs ys : List V), SqL K H a xs ∧ SqL K H b ys ∧ ((xs.length ≠ ys.length ∧ Q (.bl true) H) ∨ (xs = ys ∧ (∀ v ∈ xs, ∃ c, v = .ref c) ∧ Q (.bl false) H)) := by simp [rNeR]
end
def Itr3 (lo c : Int) (n : Nat) : It := ⟨fun i _ => i < n, fun i H x H' => H' = H ∧ x = .int (lo + i * c), fun i _ => n ≤ i⟩
section
variable {X : Cx} {tg : Expr}
def iRng3 (ta : TA) : TI := fun σ H R => ta σ H fun vs H1 => ∃ (i j c : Int) (n : Nat), vs = [.int i, .int j, .int c] ∧ c ≠ 0 ∧ Builtin.divisionGoesByPylong (j - i) c = false ∧ Builtin.Range.small i j c = true ∧ Builtin.Range.rangeSize i j c = n ∧ R (Itr3 i c n) H1
theorem ap_iRng3 {ta : TA} {σ : St} {H : Hp} {R : It → Hp → Prop} : iRng3 ta σ H R = ta σ H fun vs H1 => ∃ (i j c : Int) (n : Nat), vs = [.int i, .int j, .int c] ∧ c ≠ 0 ∧ Builtin.divisionGoesByPylong (j - i) c = false ∧ Builtin.Range.small i j c = true ∧ Builtin.Range.rangeSize i j c = n ∧ R (Itr3 i c n) H1 := rfl
end
section
variable {K : PySem.W.Frag} {wi : TI} {cap : List (Option Nat)} {g : TG} {tt : TT} {te tl td tk : TE}
theorem mn_iList (h : MonoE tl) : MonoI (iList K tl) := fun σ H _ _ f q => h σ H _ _ (fun _ _ ⟨a, e, x, r⟩ => ⟨a, e, x, f _ _ r⟩) q
theorem mn_comp (hi : MonoI wi) : MonoE (tComp cap wi g tt te) := fun σ H Q Q' f h => by
  rw [ap_comp] at h ⊢
  exact hi σ H _ _ (fun J H1 hc D hD => by
    obtain ⟨W, w0, hW⟩ := hc D hD
    exact ⟨W, w0, fun i m acc σ1 H2 hw hD2 => (hW i m acc σ1 H2 hw hD2).imp (fun ⟨a, b⟩ => ⟨a, f _ _ b⟩) id⟩) h
theorem mn_dput (h1 : MonoE td) (h2 : MonoE tk) (h3 : MonoE te) : MonoS (sDPut td tk te) := fun D D' σ H f q => h3 σ H _ _ (fun v H1 q1 => h1 σ H1 _ _ (fun x H2 q2 => h2 σ H2 _ _ (fun y H3 ⟨a, H4, e1, e2, e3⟩ => ⟨a, H4, e1, e2, f.nx _ _ e3⟩) q2) q1) q
end
end L2
namespace L2
open PySem PySem.Spec PyProof.Rows
section
end
section
variable {X : Cx} {CX : CXT} {k : Nat} {f C : Addr} {fd : FuncData} {ps : List Str} {sp : Sp} {dvs : List V} {ds : List Value} {x : Str} {p pos : Pos} {e : Expr} {es : List Expr} {t : TA}
end
section
variable {X : Cx}
def tFR (x : Str) (t : TE) : TE := fun σ H Q => t σ H fun v H1 => ∃ z, v = .str z ∧ (reprText z).length ≤ 100000 ∧ Q (.str (x ++ reprText z)) H1
theorem ap_fr {x : Str} {t : TE} {σ : St} {H : Hp} {Q : VK} : tFR x t σ H Q = t σ H fun v H1 => ∃ z, v = .str z ∧ (reprText z).length ≤ 100000 ∧ Q (.str (x ++ reprText z)) H1 := rfl
def rSlS : V → Option Int → Option Int → Hp → VK → Prop := fun x _ _ H Q => ∃ z : Str, x = .str z ∧ z.length ≤ sizeLine ∧ ∀ y : Str, y.length ≤ z.length → (∀ c ∈ y.cps.toList, c ∈ z.cps.toList) → Q (.str y) H
theorem ap_slS {z : Str} {lo hi : Option Int} {H : Hp} {Q : VK} : rSlS (.str z) lo hi H Q = (z.length ≤ sizeLine ∧ ∀ y : Str, y.length ≤ z.length → (∀ c ∈ y.cps.toList, c ∈ z.cps.toList) → Q (.str y) H) := by simp [rSlS]
end
end L2
namespace L2
open PySem PySem.Spec PyProof.Rows
theorem vals_rev {xs : List V} {us : List Value} (h : Vals xs us) : Vals xs.reverse us.reverse := by
  induction h with
  | nil => exact .nil
  | cons r _ ih =>
    rw [List.reverse_cons, List.reverse_cons]
    exact ih.append (.cons r .nil)
section
variable {X : Cx}
def tSlRev (K : PySem.W.Frag) (te ts : TE) : TE := fun σ H Q => te σ H fun x H1 => ts σ H1 fun y H2 => ∃ a xs, x = .ref a ∧ y = .int (-1) ∧ SqL K H2 a xs ∧ ∀ p, H2 p = none → Q (.ref p) (upd H2 p (.lst xs.reverse))
theorem ap_slRev {K : PySem.W.Frag} {te ts : TE} {σ : St} {H : Hp} {Q : VK} : tSlRev K te ts σ H Q = te σ H fun x H1 => ts σ H1 fun y H2 => ∃ a xs, x = .ref a ∧ y = .int (-1) ∧ SqL K H2 a xs ∧ ∀ p, H2 p = none → Q (.ref p) (upd H2 p (.lst xs.reverse)) := rfl
end
section
variable {K : PySem.W.Frag} {a : Addr} {xs : List V} {g : TG} {tt : TT} {te : TE} {σ : St} {H : Hp} {Q : VK} {cap : List (Option Nat)}
theorem CompP.enumI (Sσ : St → Prop) (p : Nat → Bool) (hS : SqL K H a xs) (h0 : Sσ (capSt σ cap)) (hz : xs.length ≤ sizeLine)
    (hs : ∀ (i : Nat) x, xs[i]? = some x → ∀ (σ : St) (H5 : Hp) (q : Addr) (R1 : St → VK) (R2 : St → Hp → Prop), Sσ σ → Same H H5 → H5 q = some (.tup [.int i, x]) → (p i = true → ∀ σ4 H6, Sσ σ4 → Same H5 H6 → R1 σ4 (.int i) H6) → (p i = false → ∀ σ4 H6, Sσ σ4 → Same H5 H6 → R2 σ4 H6) →
      g (.ref q) σ H5 fun σ4 H4 => tt σ4 H4 fun b H5 => if b = true then te σ4 H5 (R1 σ4) else R2 σ4 H5)
    (k : ∀ D H', H D = Option.none → Same H H' → H' D = some (.lst (((List.range xs.length).filter p).map fun i : Nat => V.int i)) → Q (.ref D) H') : CompP cap (Ite K a) g tt te σ H Q := by
  intro D hD
  refine ⟨fun i m acc σ H2 => m = xs.length - i ∧ i ≤ xs.length ∧ Sσ σ ∧ Same H H2 ∧ acc = ((List.range i).filter p).map fun i : Nat => V.int i, ⟨xs.length, rfl, Nat.zero_le _, h0, Same.new hD, rfl⟩, ?_⟩
  rintro i m acc σ1 H2 ⟨rfl, hi, hσ, sm, rfl⟩ hA
  have hal : (((List.range i).filter p).map fun i : Nat => V.int i).length ≤ i := by
    rw [List.length_map]
    exact Nat.le_trans (List.length_filter_le _ _) (by simp)
  by_cases hlt : i < xs.length
  · refine .inr ⟨⟨xs, xs[i], sm.seq hS, by simp [hlt]⟩, fun v H3 hy => ?_⟩
    obtain ⟨q, x, hq, rfl, rfl, e1⟩ := hy
    have hx := e1 xs (sm.seq hS)
    have s3 := Same.new (o := .tup [V.int i, x]) hq
    refine hs i x hx σ1 _ q _ _ hσ (sm.trans s3) upd_same (fun hp σ4 H6 hσ4 s6 => ?_) fun hp σ4 H6 hσ4 s6 => ?_
    · have hA6 := (s3.trans s6) _ _ hA
      refine ⟨_, hA6, by omega, xs.length - (i + 1), by omega, rfl, hlt, hσ4, (sm.trans (s3.trans s6)).upd hD, ?_⟩
      rw [List.range_succ, List.filter_append, List.filter_cons_of_pos (by simpa using hp), List.map_append]
      rfl
    · have hA6 := (s3.trans s6) _ _ hA
      refine ⟨xs.length - (i + 1), by omega, _, hA6, rfl, hlt, hσ4, sm.trans (s3.trans s6), ?_⟩
      rw [List.range_succ, List.filter_append, List.filter_cons_of_neg (by simpa using hp), List.map_append]
      simp
  · obtain rfl : i = xs.length := by omega
    exact .inl ⟨⟨xs, sm.seq hS, Nat.le_refl _⟩, k D H2 hD sm hA⟩
end
end L2
namespace L2
open PySem PySem.W PySem.Spec PySem.Calls PyProof.Rows
def SameX (Pt : Addr) (H H' : Hp) : Prop := ∀ b o, b ≠ Pt → H b = some o → H' b = some o
theorem SameX.of {Pt : Addr} {H H' : Hp} (h : Same H H') : SameX Pt H H' := fun b o _ e => h b o e
theorem SameX.trans {Pt : Addr} {H H1 H2 : Hp} (h : SameX Pt H H1) (k : SameX Pt H1 H2) : SameX Pt H H2 := fun b o n e => k b o n (h b o n e)
section
variable {H : Hp} {Pt c f : Addr} {ps : Array Value} {q : Str} {o : Obj}
end
section
variable {X : Cx} {pins : List (Addr × Obj)} {σ : St} {H : Hp} {s : Shared}
end
section
variable {P : Program} {w : World} {K : PySem.W.Frag} {mg : Str → Option Value} {base : Heap}
end
section
variable {X : Cx}
def tSortL (K : PySem.W.Frag) (Pt : Addr) (x : Str) (tb : TE) (t : TA) : TE := fun σ H Q => t σ H fun vs H1 => ∃ (a : Addr) (ys : List V) (kf : V → List Int), vs = [.ref a] ∧ SqL K H1 a ys ∧ ys.length < 64 ∧ H1 Pt = some (.tbl #[]) ∧
  (∀ y ∈ ys, kf y ≠ [] ∧ ∀ H2, SameX Pt H1 H2 → ∀ R : VK, (∀ t H3, Same H2 H3 → H3 t = some (.tup ((kf y).map V.int)) → R (.ref t) H3) → tb (start [x] [y]) H2 R) ∧
  ∀ p zs H', SameX Pt H1 H' → H1 p = none → H' p = some (.lst zs) → zs.Perm ys → (∀ m, (∀ y ∈ ys, (kf y).length = m) → (ys.map kf).Nodup → zs.Pairwise fun y z => lexB (kf y) (kf z) false = true) → Q (.ref p) H'
theorem ap_tSortL {K : PySem.W.Frag} {Pt : Addr} {x : Str} {tb : TE} {t : TA} {σ : St} {H : Hp} {Q : VK} : tSortL K Pt x tb t σ H Q = t σ H fun vs H1 => ∃ (a : Addr) (ys : List V) (kf : V → List Int), vs = [.ref a] ∧ SqL K H1 a ys ∧ ys.length < 64 ∧ H1 Pt = some (.tbl #[]) ∧
  (∀ y ∈ ys, kf y ≠ [] ∧ ∀ H2, SameX Pt H1 H2 → ∀ R : VK, (∀ t H3, Same H2 H3 → H3 t = some (.tup ((kf y).map V.int)) → R (.ref t) H3) → tb (start [x] [y]) H2 R) ∧
  ∀ p zs H', SameX Pt H1 H' → H1 p = none → H' p = some (.lst zs) → zs.Perm ys → (∀ m, (∀ y ∈ ys, (kf y).length = m) → (ys.map kf).Nodup → zs.Pairwise fun y z => lexB (kf y) (kf z) false = true) → Q (.ref p) H' := rfl
end
end L2
namespace L2
open PySem PySem.W PySem.Spec PySem.Calls PyProof.Rows
section
variable {X : Cx}
end
end L2
namespace L2
open PySem PySem.W PySem.Spec PySem.Calls PyProof.Rows
structure Apart3 (z TI TO i1 i2 i3 l1 l2 l3 : Addr) : Prop where
  zz : TI ≠ z ∧ TO ≠ z ∧ i1 ≠ z ∧ i2 ≠ z ∧ i3 ≠ z ∧ l1 ≠ z ∧ l2 ≠ z ∧ l3 ≠ z
  to : TI ≠ TO ∧ i1 ≠ TO ∧ i2 ≠ TO ∧ i3 ≠ TO ∧ l1 ≠ TO ∧ l2 ≠ TO ∧ l3 ≠ TO
  ii : i1 ≠ i2 ∧ i1 ≠ i3 ∧ i2 ≠ i3
  j1 : TI ≠ i1 ∧ l1 ≠ i1 ∧ l2 ≠ i1 ∧ l3 ≠ i1
  j2 : TI ≠ i2 ∧ l1 ≠ i2 ∧ l2 ≠ i2 ∧ l3 ≠ i2
  j3 : TI ≠ i3 ∧ l1 ≠ i3 ∧ l2 ≠ i3 ∧ l3 ≠ i3
section
variable {prog : Program} {w : World} {A : Around} {E : Value → Shared → Prop} {s : Shared}
end
section
variable {prog : Program} {w : World} {A : Around} {E : Value → Shared → Prop} {s : Shared}
end
section
variable {prog : Program} {w : World} {A : Around} {E : Value → Shared → Prop} {s : Shared}
end
def Itz3 (K : PySem.W.Frag) (a b c : Addr) : It :=
  ⟨fun i H => ∃ xs ys zs x y z, SqL K H a xs ∧ SqL K H b ys ∧ SqL K H c zs ∧ xs[i]? = some x ∧ ys[i]? = some y ∧ zs[i]? = some z,
   fun i H v H' => ∃ p x y z, H p = none ∧ v = .ref p ∧ H' = upd H p (.tup [x, y, z]) ∧ (∀ xs, SqL K H a xs → xs[i]? = some x) ∧ (∀ ys, SqL K H b ys → ys[i]? = some y) ∧ ∀ zs, SqL K H c zs → zs[i]? = some z,
   fun i H => ∃ xs ys zs, SqL K H a xs ∧ SqL K H b ys ∧ SqL K H c zs ∧ xs.length ≤ i⟩
section
variable {X : Cx} {K : PySem.W.Frag} {ta : TA} {elts : List Expr} {x1 : Nat} {tpos : Pos}
def iZip3 (K : PySem.W.Frag) (ta : TA) : TI := fun σ H R => ta σ H fun vs H1 => ∃ a b c, vs = [.ref a, .ref b, .ref c] ∧ (∃ xs, SqL K H1 a xs) ∧ (∃ ys, SqL K H1 b ys) ∧ (∃ zs, SqL K H1 c zs) ∧ R (Itz3 K a b c) H1
variable {σ : St} {H : Hp} {R : It → Hp → Prop} {g : TG} {tb : TS} {D : Ends} {a b c : Addr} {xs ys zs : List V}
theorem ap_iZip3 : iZip3 K ta σ H R = ta σ H fun vs H1 => ∃ a b c, vs = [.ref a, .ref b, .ref c] ∧ (∃ xs, SqL K H1 a xs) ∧ (∃ ys, SqL K H1 b ys) ∧ (∃ zs, SqL K H1 c zs) ∧ R (Itz3 K a b c) H1 := rfl
end
end L2
namespace L2
open PySem PySem.W PySem.Spec PySem.Calls PyProof.Rows
theorem lri_len : typeLookup (.type "list_reverseiterator") "__len__" = pure none := by rw [typeLookup_type, builtinLookup_eq_fast]; kernel_rfl
theorem lri_hint : typeLookup (.type "list_reverseiterator") "__length_hint__" = pure (some (.builtin "list_reverseiterator.__length_hint__")) := by rw [typeLookup_type, builtinLookup_eq_fast]; kernel_rfl
theorem lri_self : isSubtype (.type "list_reverseiterator") (.type "list_reverseiterator") = pure true := by rw [isSubtype_type]; kernel_rfl
section
variable {prog : Program} {w : World} {A : Around} {s : Shared} {R : Result → Shared → Prop}
theorem extend_rev {it l S : Addr} {items : Array Value} {c₀ : Nat} {res : Value} (hh : A.in1.handled = none) (hit : s.heap.IsRevIter it l ((items.size : Int) - 1)) (hl : s.heap.IsList l items) (hne : l ≠ it) (hSi : S ≠ it) (hSl : S ≠ l) (hn : items.size ≤ sizeLine)
    (hS : s.heap.get? S = some { cls := .type "list", data := .seq #[] c₀ })
    (hR : ∀ s' acc' c', Moved [S, it] (fun a b => b = a) s s' → s'.heap.get? S = some { cls := .type "list", dict := none, data := .seq acc' c', slots := #[] } → ItemsOf (fun i v => items[items.size - 1 - i]? = some v) acc' items.size → R (.ok (.ret res)) s') :
    wpAny (model prog w) A.in1 (Builtin.List.listExtendWith (.ref S) (.ref it) res) (fun fin s' => match fin with | .done f => R (.ok f) s' | .again c' => c'.quiet = true ∧ codeAny (model prog w) A c' R s') (fun e s' => R (.error e) s') s := by
  have W := Walks.listRev (prog := prog) (w := w) hh it l hne items
  have hT := hit.typeIs
  unfold Builtin.List.listExtendWith
  refine wpAny_bind (wpAny_typeOf hT ?_)
  have h1 : Builtin.List.listSameRef (.ref S) (.ref it) = false := by simp [Builtin.List.listSameRef, hSi]
  have h2 : (Value.type "list_reverseiterator" == Value.type "list") = false := by decide
  have h3 : (Value.type "list_reverseiterator" == Value.type "tuple") = false := by decide
  simp only [h1, h2, h3, Bool.or_false, Bool.false_eq_true, if_false]
  refine wpAny_bind (wpAny_pyIter_revIter hit (wpAny_bind (wpAny_holding ?_))); unfold Builtin.List.listLengthHint
  refine wpAny_bind (wpAny_specialOf hT lri_len ?_); show wpAny _ A.in1 (specialOf (Value.ref it) (Str.ofString "__length_hint__") >>= _) _ _ _
  refine wpAny_bind (wpAny_specialOf hT lri_hint ?_)
  dsimp only
  rw [show splitId "list_reverseiterator.__length_hint__" = some ("list_reverseiterator", "__length_hint__") from by kernel_rfl]
  dsimp only
  refine wpAny_bind (wpAny_isInstance (T := "list_reverseiterator") (b := true) hT lri_self ?_)
  rw [if_neg (by decide), if_pos (by kernel_rfl), if_neg (by decide)]
  refine wpAny_pure ?_
  rw [if_neg (by decide +kernel)]
  refine wpAny_pure ⟨plainId_quiet F.plain_extend_loop _, codeAny_extend_loopS W.toS hn S (by simp [hSi, hSl]) res items.size 0 _ #[] c₀ rfl (Nat.zero_le _) ⟨Nat.zero_le _, ?_, hl⟩ hS (ItemsOf.nil _) fun s' acc' c' hm hS' hacc => hR s' acc' c' hm hS' hacc⟩
  rw [show ((items.size : Int) - 1 - ((0 : Nat) : Int)) = (items.size : Int) - 1 by omega]
  exact hit
end
section
variable {prog : Program} {w : World} {A : Around} {E : Value → Shared → Prop} {s : Shared}
theorem call_list_rev {it l : Addr} {items : Array Value} {Q : Value → Shared → Prop} (hh : A.in1.in1.handled = none) (hit : s.heap.IsRevIter it l ((items.size : Int) - 1)) (hl : s.heap.IsList l items) (hne : l ≠ it) (hn : items.size ≤ sizeLine)
    (hQ : ∀ s' acc' c', (∀ b o, b ≠ it → s.heap.get? b = some o → s'.heap.get? b = some o) → s'.gens = s.gens → s'.drawn = s.drawn → s'.os = s.os →
      s'.heap.get? s.heap.objs.size = some { cls := .type "list", dict := none, data := .seq acc' c', slots := #[] } → ItemsOf (fun i v => items[items.size - 1 - i]? = some v) acc' items.size → Q (.ref s.heap.objs.size) s') :
    wpAny (model prog w) A (call (.type "list") [.ref it]) Q E s := by
  have lt1 : it < s.heap.objs.size := by obtain ⟨o, e, _⟩ := hit; exact Heap.lt_size e
  have lt2 : l < s.heap.objs.size := by obtain ⟨o, e, _⟩ := hl; exact Heap.lt_size e
  refine callType_codes (Q₁ := fun obj s₁ => obj = .ref s.heap.objs.size ∧ s₁ = { s with heap := s.heap.push { cls := .type "list", data := .seq #[] } }) F.called_list (F.typeCall_list_1 _) F.entry_list_init (code_list_new _ ⟨rfl, rfl⟩) fun obj s₁ h₁ => ?_
  obtain ⟨rfl, rfl⟩ := h₁
  have hS : (s.heap.push { cls := .type "list", data := .seq #[] }).get? s.heap.objs.size = some { cls := .type "list", data := .seq #[] } := Heap.get?_push_size _ rfl
  have hS₂ := Heap.get?_update_self (Obj.mapSeq (fun _ => (#[] : Array Value))) hS rfl
  have oth : ∀ b o, b < s.heap.objs.size → s.heap.get? b = some o → ((s.heap.push { cls := .type "list", data := .seq #[] }).update s.heap.objs.size (Obj.mapSeq (fun _ => (#[] : Array Value)))).get? b = some o := fun b o hb e =>
    (Heap.get?_update_other _ _ (Nat.ne_of_gt hb)).trans (Heap.get?_push_of_some _ e)
  refine ⟨⟨_, hS, rfl⟩, F.args_list_init_2 _ _, ?_⟩
  show wpAny _ A.in1.in1 (do let old ← Builtin.List.listItems (.ref s.heap.objs.size); Builtin.List.listUpdate (.ref s.heap.objs.size) (fun _ => #[]); letGo old.toList.reverse; Builtin.List.listExtendWith (.ref s.heap.objs.size) (.ref it) .none) _ _ _
  refine wpAny_bind ?_; unfold Builtin.List.listItems; refine wpAny_bind (wpAny_seqItems hS rfl (wpAny_pure ?_))
  show wpAny _ A.in1.in1 (updateSeq s.heap.objs.size (fun _ => #[]) >>= fun _ => letGo (#[] : Array Value).toList.reverse >>= fun _ => Builtin.List.listExtendWith (.ref s.heap.objs.size) (.ref it) .none) _ _ _
  refine wpAny_bind (wpAny_updateSeq hS rfl (wpAny_bind (wpAny_letGo ?_)))
  refine extend_rev (l := l) (items := items) hh (hit.at fun o e => oth _ o lt1 e) (hl.at fun o e => oth _ o lt2 e) hne (Nat.ne_of_gt lt1) (Nat.ne_of_gt lt2) hn hS₂ fun s' acc' c' hm hS' hacc => ?_
  refine ⟨rfl, hQ s' acc' c' (fun b o hb e => hm.heap b o (by simp [hb, Nat.ne_of_lt (Heap.lt_size e)]) (oth b o (Heap.lt_size e) e)) hm.gens hm.drawn hm.os hS' hacc⟩
end
section
variable {X : Cx}
def tListRev (K : PySem.W.Frag) (t : TA) : TE := fun σ H Q => t σ H fun vs H1 => ∃ a ys, vs = [.ref a] ∧ SqL K H1 a ys ∧ ∀ l, H1 l = none → Q (.ref l) (upd H1 l (.lst ys.reverse))
theorem pe_listRev {e : Expr} {t : TA} {p p2 pos pos2 : Pos} (hc : X.calm = true) (hgl : Gl X "list") (hml : X.mg "list" = none) (hgr : Gl X "reversed") (hmr : X.mg "reversed" = none) (ha : PA X [e] t)
    (hs : starEach [.Call (.Name "reversed" p2) [e] [] pos2] X.env = [(false, eval (.Call (.Name "reversed" p2) [e] [] pos2) X.env)] := by rfl) (he : starEach [e] X.env = [(false, eval e X.env)] := by rfl) :
    PE X (.Call (.Name "list" p) [.Call (.Name "reversed" p2) [e] [] pos2] [] pos) (tListRev X.K t) := by
  intro pins s σ H Q I h
  refine wpAny_Call_Name_kw (ld_blt I hgl hml (show bootBuiltins "list" = some (.type "list") from by decide +kernel) ?_)
  refine PyProof.Rows.callWith_type1 (T := "list") ?_ (by rw [hs]; rfl) rfl
  rw [hs]
  show wpAny _ _ (spliced ((false, eval (.Call (.Name "reversed" p2) [e] [] pos2) X.env) :: backTo pos [])) _ _ s
  refine Calls.spliced_cons (wpAny_Call_Name_kw (ld_blt I hgr hmr (show bootBuiltins "reversed" = some (.type "reversed") from by decide +kernel) (PyProof.Rows.callWith_type1 (T := "reversed") (thn (ha pos2 pins s σ H _ I h) fun us s1 ⟨vs, H1, I1, r1, a, ys, ev, hq, q⟩ => ?_) (by rw [he]; rfl) rfl)))
  subst ev
  obtain ⟨u, rfl, ru⟩ := vals1 r1
  cases ru
  obtain ⟨its, rv, pl, hz⟩ := I1.list hq
  have hl := pl.isList
  have hlt : a < s1.heap.objs.size := by obtain ⟨o, e, _⟩ := hl; exact Heap.lt_size e
  refine call_reversed_list hl (Calls.spliced_nil ?_)
  have I2 : Inv X pins σ H1 { s1 with heap := s1.heap.push (revObj a ((its.toArray.size : Int) - 1)) } := I1.kept (t' := s1.toks) fun b o e => Heap.get?_push_of_some _ e
  have hit : (s1.heap.push (revObj a ((its.toArray.size : Int) - 1))).IsRevIter s1.heap.objs.size a ((its.toArray.size : Int) - 1) := ⟨_, Heap.get?_push_size _ rfl, rfl, rfl⟩
  have hf : FpOk X pins H1 s1.heap.objs.size := I1.fpOk (Nat.le_refl _) (I1.hok.fresh (Nat.le_refl _))
  have hsz : its.toArray.size ≤ sizeLine := by rw [List.size_toArray, ← rv.length]; exact hz
  refine call_list_rev (s := { s1 with heap := s1.heap.push (revObj a ((its.toArray.size : Int) - 1)) }) (I.ok.hd hc) hit (hl.at fun o e => Heap.get?_push_of_some _ e) (Nat.ne_of_lt hlt) hsz fun s' acc c k1 k2 k3 k4 hS hacc => ?_
  obtain ⟨h', g, d, tk, os⟩ := s'
  obtain rfl : g = s1.gens := k2; obtain rfl : d = s1.drawn := k3; obtain rfl : os = s1.os := k4
  have e1 : (s1.heap.push (revObj a ((its.toArray.size : Int) - 1))).objs.size = s1.heap.objs.size + 1 := Heap.size_push ..
  rw [show (({ s1 with heap := s1.heap.push (revObj a ((its.toArray.size : Int) - 1)) } : Shared).heap.objs.size) = s1.heap.objs.size + 1 from e1] at hS ⊢
  have hacc2 : acc.toList = its.reverse := by
    refine List.ext_getElem? fun i => ?_
    by_cases hi : i < its.length
    · have hia : i < acc.size := by rw [hacc.1, List.size_toArray]; exact hi
      have h2 : its.toArray[its.toArray.size - 1 - i]? = some acc[i] := hacc.2 i acc[i] (Array.getElem?_eq_getElem hia)
      rw [Array.getElem?_toList, Array.getElem?_eq_getElem hia, List.getElem?_reverse hi]
      rw [List.getElem?_toArray, List.size_toArray] at h2
      exact h2.symm
    · rw [List.getElem?_eq_none (by rw [Array.length_toList, hacc.1, List.size_toArray]; omega), List.getElem?_eq_none (by rw [List.length_reverse]; omega)]
  refine ⟨.ref (s1.heap.objs.size + 1), _, I2.turnedT (t' := tk) (fp := [s1.heap.objs.size]) (T := s1.heap.objs.size + 1) (o := .lst ys.reverse) (fun b hb => by rw [List.mem_singleton.mp hb]; exact hf) (Nat.le_of_eq e1) (fun b o hb e => k1 b o (fun z => hb (by simp [z])) e) ?_, rfl, q _ (I1.hok.fresh (Nat.le_succ _))⟩
  refine ⟨by rw [List.length_reverse]; exact hz, its.reverse, c, vals_rev rv, ?_⟩
  rw [← hacc2, Array.toArray_toList]
  exact hS
theorem pe_listRevK {K : PySem.W.Frag} {t : TA} {e : Expr} (hK : X.K = K) (h : PE X e (tListRev X.K t)) : PE X e (tListRev K t) := hK ▸ h
theorem ap_tListRev {K : PySem.W.Frag} {t : TA} {σ : St} {H : Hp} {Q : VK} : tListRev K t σ H Q = t σ H fun vs H1 => ∃ a ys, vs = [.ref a] ∧ SqL K H1 a ys ∧ ∀ l, H1 l = none → Q (.ref l) (upd H1 l (.lst ys.reverse)) := rfl
end
end L2
namespace L2
open PySem PySem.W PySem.Spec PySem.Calls PyProof.Rows
section
variable {prog : Program} {w : World} {A : Around} {R : Result → Shared → Prop} {I : Addr} {fp wr : List Addr} {G : Array GenState → Array GenState → Prop} {n : Nat} {P : Nat → Value → Prop} {St : Nat → Shared → Prop}
theorem minD_rest (W : WalksS prog w A.in1 I fp wr G n P St) (bt : Nat → Nat → Bool) (hcmp : CmpOf prog w A.in1 .Lt P bt) (hb : ∀ j, 0 < j → j < n → bt j 0 = false) (S : Addr) (hSf : S ∉ fp) (dv v0 : Value) (hP0 : P 0 v0) :
    ∀ (k j : Nat) (s : Shared) (c : Nat), n - (j + 1) = k → j + 1 ≤ n → St (j + 1) s → s.heap.get? S = some { cls := .type "list", dict := none, data := .seq #[v0, v0] c, slots := #[] } →
    (∀ s', Moved (S :: wr) G s s' → R (.ok (.ret v0)) s') → codeAny (model prog w) A (.builtin "min.loop" ⟨[.ref I, .none, .ref S], [("default", dv)]⟩) R s := by
  have hSw : S ∉ wr := fun h => hSf (W.sub _ h); have hsub : ∀ b ∈ wr, b ∈ S :: wr := fun b hb => List.mem_cons_of_mem _ hb
  have hnm : (toString "min" ++ toString ".loop" : String) = "min.loop" := by decide
  have notS : ∀ {b : Addr}, b ∉ S :: wr → S ≠ b := fun hb h => hb (h ▸ List.mem_cons_self)
  intro k
  induction k with
  | zero =>
    intro j s c hk hj hst hS hR
    have hin : j + 1 = n := by omega
    refine codeAny_builtin F.entry_min_loop ?_; rw [Around.under_plainId F.plain_min_loop _]; show wpAny _ A.in1 (seqItems? (.ref S) >>= _) _ _ s
    refine wpAny_bind (wpAny_seqItems hS rfl ?_); show wpAny _ A.in1 (tryCatch (pyNext (.ref I)) _ >>= _) _ _ s
    refine wpAny_bind (wpAny_tryCatch (W.done s _ _ (hin ▸ hst) fun s' hm => ?_)); have hS' := hm.heap S _ hSw hS; show wpAny _ A.in1 (updateSeq S (fun _ => #[]) >>= _) _ _ _
    refine wpAny_bind (wpAny_updateSeq hS' rfl (wpAny_bind (wpAny_letGo (wpAny_pure (hR _ ((hm.mono hsub).then_heap (tk := s'.toks) (Nat.le_refl _) fun b o hb e => (Heap.get?_update_other _ _ (notS hb)).trans e))))))
  | succ k ih =>
    intro j s c hk hj hst hS hR
    have hlt : j + 1 < n := by omega
    refine codeAny_builtin F.entry_min_loop ?_; rw [Around.under_plainId F.plain_min_loop _]; show wpAny _ A.in1 (seqItems? (.ref S) >>= _) _ _ s
    refine wpAny_bind (wpAny_seqItems hS rfl ?_); show wpAny _ A.in1 (tryCatch (pyNext (.ref I)) _ >>= _) _ _ s
    refine wpAny_bind (wpAny_tryCatch (W.item (j + 1) s _ _ hlt hst fun v s' hP hst' hm => ?_)); have hS' := hm.heap S _ hSw hS; show wpAny _ A.in1 (tryCatch (holding [v, v] (richCompare .Lt v v0 >>= _)) _ >>= _) _ _ _
    refine wpAny_bind (wpAny_tryCatch (wpAny_holding (wpAny_bind (hcmp (j + 1) 0 v v0 _ _ _ hP hP0 (wpAny_bind (wpAny_holding (wpAny_truthy_bool (wpAny_bind (wpAny_letGo (wpAny_pure ?_))))))))))
    rw [hb (j + 1) (Nat.succ_pos _) hlt]; simp only [Bool.false_eq_true, if_false]; refine wpAny_bind (wpAny_letGo ?_); rw [hnm]
    exact wpAny_pure ⟨plainId_quiet F.plain_min_loop _, ih (j + 1) _ c (by omega) hlt hst' hS' fun s'' hm'' => hR s'' (Moved.trans W.gtrans (hm.mono hsub) hm'')⟩
theorem minD_first (W : WalksS prog w A.in1 I fp wr G n P St) (bt : Nat → Nat → Bool) (hcmp : CmpOf prog w A.in1 .Lt P bt) (hb : ∀ j, 0 < j → j < n → bt j 0 = false) (S : Addr) (hSf : S ∉ fp) (dv : Value) {s : Shared} {c : Nat} (hst : St 0 s) (hS : s.heap.get? S = some { cls := .type "list", dict := none, data := .seq #[] c, slots := #[] })
    (hR : ∀ v s', (n = 0 → v = dv) → (0 < n → P 0 v) → Moved (S :: wr) G s s' → R (.ok (.ret v)) s') : codeAny (model prog w) A (.builtin "min.loop" ⟨[.ref I, .none, .ref S], [("default", dv)]⟩) R s := by
  have hSw : S ∉ wr := fun h => hSf (W.sub _ h); have hsub : ∀ b ∈ wr, b ∈ S :: wr := fun b hb => List.mem_cons_of_mem _ hb
  have hnm : (toString "min" ++ toString ".loop" : String) = "min.loop" := by decide
  have notS : ∀ {b : Addr}, b ∉ S :: wr → S ≠ b := fun hb h => hb (h ▸ List.mem_cons_self)
  refine codeAny_builtin F.entry_min_loop ?_; rw [Around.under_plainId F.plain_min_loop _]; show wpAny _ A.in1 (seqItems? (.ref S) >>= _) _ _ s
  refine wpAny_bind (wpAny_seqItems hS rfl ?_); show wpAny _ A.in1 (tryCatch (pyNext (.ref I)) _ >>= _) _ _ s
  by_cases hn : n = 0
  · refine wpAny_bind (wpAny_tryCatch (W.done s _ _ (hn ▸ hst) fun s' hm => ?_))
    show wpAny _ A.in1 (rule _ >>= _) _ _ _
    exact wpAny_bind (wpAny_rule (wpAny_pure (hR dv _ (fun _ => rfl) (fun h => absurd h (by omega)) (hm.mono hsub))))
  · have hp : 0 < n := by omega
    refine wpAny_bind (wpAny_tryCatch (W.item 0 s _ _ hp hst fun v s' hP hst' hm => ?_)); have hS' := hm.heap S _ hSw hS; show wpAny _ A.in1 (updateSeq S (fun _ => #[v, v]) >>= _) _ _ _
    refine wpAny_bind (wpAny_updateSeq hS' rfl ?_); rw [hnm]
    refine wpAny_pure ⟨plainId_quiet F.plain_min_loop _, minD_rest W bt hcmp hb S hSf dv v hP _ 0 _ _ rfl hp (W.frame _ s' _ s'.toks hst' (Nat.le_refl _) fun b hbf o e => (Heap.get?_update_other _ _ (fun h : S = b => hSf (by rw [h]; exact hbf))).trans e) (Heap.get?_update_self _ hS' rfl) fun s'' hm'' => ?_⟩
    exact hR v s'' (fun h => absurd h hn) (fun _ => hP) (Moved.trans W.gtrans ((hm.mono hsub).then_heap (by first | exact Nat.le_refl _ | exact Nat.le_succ _ | omega) fun b o hb e => (Heap.get?_update_other _ _ (notS hb)).trans e) hm'')
end
theorem am_d (a v : Value) : argsOk "min" ⟨[a], [(Str.ofString "default", v)]⟩ := by unfold argsOk; kernel_rfl
section
variable {prog : Program} {w : World} {A : Around} {E : Value → Shared → Prop} {s : Shared}
theorem call_min_dflt {l : Addr} {its : List Value} {ns : List Int} {dv : Value} {Q : Value → Shared → Prop} (hh : A.in1.handled = none) (hl : s.heap.IsList l its.toArray) (hi : IntsAre its ns) (hasc : ns.Pairwise (· < ·))
    (hQ : ∀ v h' tk, (ns = [] → v = dv) → (∀ n r, ns = n :: r → ∃ t, v = .int n t) → (∀ b o, s.heap.get? b = some o → h'.get? b = some o) → Q v { s with heap := h', toks := tk }) :
    wpAny (model prog w) A (call (.builtin "min") [.ref l] [(Str.ofString "default", dv)]) Q E s := by
  have hnm : (toString "min" ++ toString ".loop" : String) = "min.loop" := by decide
  have hlt : l < s.heap.objs.size := by obtain ⟨o, e, _⟩ := hl; exact Heap.lt_size e
  have hfin : wpAny (model prog w) A.in1 (Builtin.«min» ⟨[.ref l], [(Str.ofString "default", dv)]⟩) (fun fin s' => match fin with
      | .done f => (match (Except.ok f : Result) with | .ok (.ret v) => Q v s' | .ok _ => False | .error e => E e s')
      | .again c' => c'.quiet = true ∧ codeAny (model prog w) A c' (fun r s' => match r with | .ok (.ret v) => Q v s' | .ok _ => False | .error e => E e s') s') E s := by
    show wpAny _ A.in1 (Builtin.Builtins.bindParams "min" ["key", "default"] 0 ⟨[], [(Str.ofString "default", dv)]⟩ >>= _) _ _ s
    refine wpAny_bind (wpAny_of_eq (show Builtin.Builtins.bindParams "min" ["key", "default"] 0 ⟨[], [(Str.ofString "default", dv)]⟩ = pure [none, some dv] from rfl) (wpAny_bind (wpAny_pure (wpAny_bind (wpAny_pyIter_list hl ?_)))))
    have ia : ∀ (i : Nat) v, its.toArray[i]? = some v → ∃ t, v = .int (ns.getD i 0) t := fun i v e => by
      rw [List.getElem?_toArray] at e
      have rv := vals_ints hi
      have hil : i < its.length := (List.getElem?_eq_some_iff.mp e).1
      have hin : i < ns.length := by have := rv.length; rw [List.length_map] at this; omega
      obtain ⟨u, hu, ru⟩ := rv.get (show (ns.map V.int)[i]? = some (.int ns[i]) by rw [List.getElem?_map, List.getElem?_eq_getElem hin]; rfl)
      rw [e] at hu
      obtain rfl := Option.some.inj hu
      obtain ⟨t, rfl⟩ := ru
      exact ⟨t, by simp [hin]⟩
    have hlen : its.length = ns.length := by have := (vals_ints hi).length; rw [List.length_map] at this; exact this.symm
    refine wpAny_bind (wpAny_newList ?_ (Nat.zero_le _))
    rw [hnm]
    have W := (Walks.list (prog := prog) (w := w) (A := A.in1) hh s.heap.objs.size l (Nat.ne_of_lt hlt) its.toArray).toS
    have e1 : (s.heap.push { cls := .type "list_iterator", data := .fields #[.ref l, .int 0 0] }).objs.size = s.heap.objs.size + 1 := Heap.size_push ..
    refine wpAny_pure ⟨plainId_quiet F.plain_min_loop _, minD_first W _ (CmpOf.ints_lt (fun i => ns.getD i 0) ia) (fun j h0 hj => ?_) _ ?_ dv ?_ (Heap.get?_push_size _ rfl) fun v s' h1 h2 hm => ?_⟩
    · rw [List.size_toArray, hlen] at hj
      have h00 : 0 < ns.length := by omega
      have := List.pairwise_iff_getElem.mp hasc 0 j h00 hj h0
      have ej : ns.getD j 0 = ns[j] := by simp [hj]
      have e0 : ns.getD 0 0 = ns[0] := by simp [h00]
      rw [ej, e0]
      exact decide_eq_false (by omega)
    · show (s.heap.push _).objs.size ∉ [s.heap.objs.size, l]
      rw [e1]
      simp only [List.mem_cons, List.not_mem_nil, or_false, not_or]
      exact ⟨Nat.succ_ne_self _, fun z => absurd hlt (Nat.not_lt.mpr (z ▸ Nat.le_succ _))⟩
    · exact ⟨⟨_, Heap.get?_push_of_some _ (Heap.get?_push_size _ rfl), rfl, rfl⟩, hl.at fun o e => Heap.get?_push_of_some _ (Heap.get?_push_of_some _ e)⟩
    · obtain ⟨h', g, d, tk, os⟩ := s'
      obtain rfl : g = s.gens := hm.gens; obtain rfl : d = s.drawn := hm.drawn; obtain rfl : os = s.os := hm.os
      refine hQ v h' tk (fun e => h1 (by rw [List.size_toArray, hlen, e]; rfl)) (fun n r e => ?_) fun b o e => hm.heap b o ?_ (Heap.get?_push_of_some _ (Heap.get?_push_of_some _ e))
      · obtain ⟨t, rfl⟩ := ia 0 v (h2 (by rw [List.size_toArray, hlen, e]; exact Nat.succ_pos _))
        exact ⟨t, by rw [e]; rfl⟩
      · have hbl := Heap.lt_size e
        have e2 : ({ s with heap := s.heap.push { cls := .type "list_iterator", data := .fields #[.ref l, .int 0 0] } } : Shared).heap.objs.size = s.heap.objs.size + 1 := e1
        rw [e2]
        simp only [List.mem_cons, List.not_mem_nil, or_false, not_or]
        exact ⟨fun z => absurd hbl (Nat.not_lt.mpr (z ▸ Nat.le_succ _)), Nat.ne_of_lt hbl⟩
  refine wpAny_call (codeAny_call_builtin F.plain_min F.entry_min ?_)
  simp only [checkBuiltinCall, F.kind_min]
  cases hsig : Manifest.signature? "min" with
  | none => exact wpAny_pure hfin
  | some sig =>
    have ha' : Bind.checkArgs "min" sig ⟨[.ref l], [(Str.ofString "default", dv)]⟩ = pure () := by simpa only [argsOk, hsig] using am_d (.ref l) dv
    simp only [ha']; exact wpAny_pure hfin
end
section
variable {X : Cx}
def tMinD (K : PySem.W.Frag) (t : TA) (td : TE) : TE := fun σ H Q => t σ H fun vs H1 => td σ H1 fun y H2 => ∃ (a : Addr) (ns : List Int) (i : Int), vs = [.ref a] ∧ [y] = [.int i] ∧ SqL K H2 a (ns.map V.int) ∧ ns.Pairwise (· < ·) ∧ Q (.int (ns.headD i)) H2
theorem pe_minD {e d : Expr} {t : TA} {td : TE} {p kpos pos : Pos} (hc : X.calm = true) (hg : Gl X "min") (hm : X.mg "min" = none) (ha : PA X [e] t) (hd : PE X d td)
    (he : backTo pos (starEach [e] X.env) = (false, eval e X.env) :: backTo pos (starEach [] X.env) := by rfl) (hpl : (backTo pos (starEach [e] X.env)).any (·.1) = false := by rfl) :
    PE X (.Call (.Name "min" p) [e] [⟨some "default", d, kpos⟩] pos) (tMinD X.K t td) := by
  intro pins s σ H Q I h
  refine wpAny_Call_Name_kw (ld_blt I hg hm (show bootBuiltins "min" = some (.builtin "min") from by decide +kernel) ?_)
  refine callWith_kw (thn (ha pos pins s σ H _ I h) fun us s1 ⟨vs, H1, I1, r, q1⟩ => ?_) he hpl
  have hk : PK X [⟨some "default", d, kpos⟩] (tCons td tNil) := pk_cons hd pk_nil
  refine thn (hk pos pins s1 σ H1 (fun zs H2 => ∃ (a : Addr) (ns : List Int) (i : Int), vs = [.ref a] ∧ zs = [.int i] ∧ SqL X.K H2 a (ns.map V.int) ∧ ns.Pairwise (· < ·) ∧ Q (.int (ns.headD i)) H2) I1 q1) fun ws s2 ⟨zs, H2, I2, rz, a, ns, i, ev, ey, hS, hasc, q⟩ => ?_
  subst ev ey
  obtain ⟨u, rfl, ru⟩ := vals1 r
  cases ru
  obtain ⟨v1, rfl, rv1⟩ := vals1 rz
  obtain ⟨tk0, rfl⟩ := rv1
  obtain ⟨its, rv, pl, hz⟩ := I2.list hS
  refine call_min_dflt (ns := ns) (I.ok.hd hc) pl.isList (intsAre_of rv) hasc fun v h' tk h1 h2 k => ⟨.int (ns.headD i), H2, I2.kept (t' := tk) k, ?_, q⟩
  cases ns with
  | nil => rw [h1 rfl]; exact ⟨_, rfl⟩
  | cons n r => obtain ⟨t, rfl⟩ := h2 n r rfl; exact ⟨_, rfl⟩
theorem ap_tMinD {K : PySem.W.Frag} {t : TA} {td : TE} {σ : St} {H : Hp} {Q : VK} : tMinD K t td σ H Q = t σ H fun vs H1 => td σ H1 fun y H2 => ∃ (a : Addr) (ns : List Int) (i : Int), vs = [.ref a] ∧ [y] = [.int i] ∧ SqL K H2 a (ns.map V.int) ∧ ns.Pairwise (· < ·) ∧ Q (.int (ns.headD i)) H2 := rfl
theorem pe_minDK {K : PySem.W.Frag} {t : TA} {td : TE} {e : Expr} (hK : X.K = K) (h : PE X e (tMinD X.K t td)) : PE X e (tMinD K t td) := hK ▸ h
end
end L2
namespace L2
open PySem PySem.W PySem.Spec PySem.Calls PyProof.Rows
open PySem.AutoSeq1 (wpAny_loadPart')
open PySem.MeetsSeq PySem.SeqAt
section
variable {X : Cx}
end
end L2
namespace L2
open PySem PySem.W PySem.Spec PyProof.Rows
section
variable {P : Program} {w : World} {A : Around} {E : Value → Shared → Prop} {s : Shared}
end
theorem ap_break {D : Ends} {σ : St} {H : Hp} : tBreak D σ H = D.bk σ H := rfl
section
variable {X : Cx}
def rSortN (K : PySem.W.Frag) : List V → Hp → VK → Prop := fun xs H Q => ∃ (a : Addr) (ys : List V) (ts : V → List Int) (m : Nat), xs = [.ref a] ∧ SqL K H a ys ∧ ys.length < 64 ∧ (ys.map ts).Nodup ∧
  (∀ y ∈ ys, (ts y).length = m ∧ ∃ b k r, y = .ref b ∧ SqT K H b (.ref k :: r) ∧ SqT K H k ((ts y).map V.int)) ∧
  ∀ p zs, H p = none → zs.Perm ys → (zs.Pairwise fun y z => lexB (ts y) (ts z) false = true) → Q (.ref p) (upd H p (.lst zs))
theorem ap_rSortN {K : PySem.W.Frag} {a : Addr} {H : Hp} {Q : VK} : rSortN K [.ref a] H Q = ∃ (ys : List V) (ts : V → List Int) (m : Nat), SqL K H a ys ∧ ys.length < 64 ∧ (ys.map ts).Nodup ∧
  (∀ y ∈ ys, (ts y).length = m ∧ ∃ b k r, y = .ref b ∧ SqT K H b (.ref k :: r) ∧ SqT K H k ((ts y).map V.int)) ∧
  ∀ p zs, H p = none → zs.Perm ys → (zs.Pairwise fun y z => lexB (ts y) (ts z) false = true) → Q (.ref p) (upd H p (.lst zs)) := by simp [rSortN]
end
end L2
namespace L2
open PySem PySem.W PySem.Spec PySem.Calls PyProof.Rows
section
variable {X : Cx}
end
end L2
namespace L2
open PySem PySem.W PySem.Spec PySem.Calls PyProof.Rows
section
variable {X : Cx}
def rSortI (K : PySem.W.Frag) : List V → Hp → VK → Prop := fun xs H Q => ∃ (a : Addr) (ns : List Int), xs = [.ref a] ∧ SqL K H a (ns.map V.int) ∧ ns.length < 64 ∧
  ∀ p (ms : List Int), H p = none → ms.Perm ns → (ms.Pairwise fun x y => x ≤ y) → Q (.ref p) (upd H p (.lst (ms.map V.int)))
theorem ap_rSortI {K : PySem.W.Frag} {a : Addr} {H : Hp} {Q : VK} : rSortI K [.ref a] H Q = ∃ (ns : List Int), SqL K H a (ns.map V.int) ∧ ns.length < 64 ∧
  ∀ p (ms : List Int), H p = none → ms.Perm ns → (ms.Pairwise fun x y => x ≤ y) → Q (.ref p) (upd H p (.lst (ms.map V.int))) := by simp [rSortI]
end
end L2
namespace L2
open PySem PySem.W PySem.Spec PySem.Calls PyProof.Rows
section
variable {X : Cx}
end
end L2
namespace L2
open PySem PySem.W PySem.Spec PySem.Calls PyProof.Rows
def viewI (v a : Addr) : HO := .ext fun h => h.IsItemsView v a
def Iti (a : Addr) (o : Obj) (kvs : List (Key × V)) : It := ⟨fun i H => H a = some (.frz o (.dK kvs)) ∧ i < kvs.length, fun i H x H' => ∃ p k v, H p = none ∧ x = .ref p ∧ H' = upd H p (.tup [kV k, v]) ∧ kvs[i]? = some (k, v), fun i H => H a = some (.frz o (.dK kvs)) ∧ kvs.length ≤ i⟩
section
variable {X : Cx} {elts : List Expr} {x1 : Nat} {tpos : Pos}
def iItems (tl : TE) : TI := fun σ H R => tl σ H fun x H1 => ∃ v a kvs, x = .ref v ∧ H1 v = some (viewI v a) ∧ H1 a = some (.dK kvs) ∧ ∀ o, R (Iti a o kvs) (upd H1 a (.frz o (.dK kvs)))
def rItems : V → List V → Hp → VK → Prop := fun x vs H Q => ∃ a kvs, x = .ref a ∧ vs = [] ∧ H a = some (.dK kvs) ∧ ∀ v, H v = none → Q (.ref v) (upd H v (viewI v a))
end
section
variable {K : PySem.W.Frag} {σ : St} {H : Hp} {Q : VK} {R : It → Hp → Prop} {tl : TE} {g : TG} {tt : TT} {te : TE} {cap : List (Option Nat)} {a : Addr} {o : Obj} {kvs : List (Key × V)}
theorem ap_iItems : iItems tl σ H R = tl σ H fun x H1 => ∃ v a kvs, x = .ref v ∧ H1 v = some (viewI v a) ∧ H1 a = some (.dK kvs) ∧ ∀ o, R (Iti a o kvs) (upd H1 a (.frz o (.dK kvs))) := rfl
theorem ap_rItems : rItems (.ref a) [] H Q = ∃ kvs, H a = some (.dK kvs) ∧ ∀ v, H v = none → Q (.ref v) (upd H v (viewI v a)) := by simp [rItems]
end
end L2
namespace L2
open PySem PySem.W PySem.Spec PySem.Calls PyProof.Rows
def Alike (ka kb : List (Key × V)) : Prop := ka.length = kb.length ∧ ∀ kv ∈ ka, ∃ i : Int, kv.2 = .int i ∧ valV kb kv.1 = some (.int i)
section
variable {X : Cx}
def rEqM : R2 := fun x y H Q => ∃ (a b : Addr) (ka kb : List (Key × V)), x = .ref a ∧ y = .ref b ∧ Rd H a (.dK ka) ∧ Rd H b (.dK kb) ∧ Alike ka kb ∧ Q (.bl true) H
def rNeM : R2 := fun x y H Q => ∃ (a b : Addr) (ka kb : List (Key × V)), x = .ref a ∧ y = .ref b ∧ Rd H a (.dK ka) ∧ Rd H b (.dK kb) ∧ Alike ka kb ∧ Q (.bl false) H
theorem ap_eqM {a b : Addr} {H : Hp} {Q : VK} : rEqM (.ref a) (.ref b) H Q = ∃ (ka kb : List (Key × V)), Rd H a (.dK ka) ∧ Rd H b (.dK kb) ∧ Alike ka kb ∧ Q (.bl true) H := by simp [rEqM]
theorem ap_neM {a b : Addr} {H : Hp} {Q : VK} : rNeM (.ref a) (.ref b) H Q = ∃ (ka kb : List (Key × V)), Rd H a (.dK ka) ∧ Rd H b (.dK kb) ∧ Alike ka kb ∧ Q (.bl false) H := by simp [rNeM]
end
end L2
namespace L2
open PySem PySem.W PySem.Spec PySem.Calls PyProof.Rows
def Itk (a : Addr) (o : Obj) (kvs : List (Key × V)) : It := ⟨fun i H => H a = some (.frz o (.dK kvs)) ∧ i < kvs.length, fun i H x H' => H' = H ∧ ∃ kv, kvs[i]? = some kv ∧ x = kV kv.1, fun i H => H a = some (.frz o (.dK kvs)) ∧ kvs.length ≤ i⟩
section
variable {X : Cx} {tg : Expr}
def iKeys (tl : TE) : TI := fun σ H R => tl σ H fun x H1 => ∃ a kvs, x = .ref a ∧ H1 a = some (.dK kvs) ∧ ∀ o, R (Itk a o kvs) (upd H1 a (.frz o (.dK kvs)))
end
section
variable {K : PySem.W.Frag} {σ : St} {H : Hp} {R : It → Hp → Prop} {tl : TE} {g : TG} {tb : TS} {D : Ends} {a : Addr} {o : Obj} {kvs : List (Key × V)}
theorem ap_iKeys : iKeys tl σ H R = tl σ H fun x H1 => ∃ a kvs, x = .ref a ∧ H1 a = some (.dK kvs) ∧ ∀ o, R (Itk a o kvs) (upd H1 a (.frz o (.dK kvs))) := rfl
theorem ForP.keys (Pv : Nat → St → Hp → Prop) (h0 : Pv 0 σ H) (hl : ∀ i σ H, i ≤ kvs.length → Pv i σ H → H a = some (.frz o (.dK kvs)))
    (hs : ∀ (i : Nat) (kv : Key × V) σ H, kvs[i]? = some kv → Pv i σ H → g (kV kv.1) σ H fun σ2 H2 => tb { D with nx := Pv (i + 1), ct := Pv (i + 1), bk := D.nx } σ2 H2) (hd : ∀ σ H, Pv kvs.length σ H → D.nx σ H) : ForP (Itk a o kvs) g tb D σ H := by
  refine ⟨fun i m σ H => m = kvs.length - i ∧ i ≤ kvs.length ∧ Pv i σ H, ⟨kvs.length, by simp, Nat.zero_le _, h0⟩, ?_⟩
  rintro i m σ H ⟨rfl, hi, p⟩
  have q1 := hl i σ H hi p
  by_cases hlt : i < kvs.length
  · refine .inr ⟨⟨q1, hlt⟩, Pv (i + 1), fun σ' H' p' => ⟨kvs.length - (i + 1), by omega, rfl, hlt, p'⟩, fun v H' y => ?_⟩
    obtain ⟨rfl, kv, e1, rfl⟩ := y
    exact hs i kv σ _ e1 p
  · have e : i = kvs.length := by omega
    subst e
    exact .inl ⟨⟨q1, Nat.le_refl _⟩, hd σ H p⟩
end
end L2
namespace L2
open PySem PySem.W PySem.Spec PySem.Calls PyProof.Rows
section
variable {X : Cx}
end
end L2
namespace L2
open PySem PySem.Spec PyProof.Rows
section
variable {prog : Program} {w : World} {A : Around} {E : Value → Shared → Prop} {h : Heap} {g : Array GenState} {d : Drawn} {t : Nat} {os : OsState} {a : Addr} {o : Obj}
  {nm q : Str} {C N : Addr} {bs bm bmB : List Value} {hdct : Bool} {sn : List Str} {sub : List Value} {ab : Bool} {col : Option Bool} {dd : Option Addr} {k0 k1 k2 k3 k5 : Option Value} {B newId initId : String} {K : PySem.W.Frag}
theorem xcall_entry {rest : List Value} {fI : Addr} {oI : Obj} {Q : Fin → Shared → Prop} (KX : K.In h) (F : ExcBaseFacts B newId initId bmB) (T : OwnTail h bmB bm)
    (hC : h.get? C = some (excClassObj nm q C N bs bm hdct sn sub ab col dd k0 k1 k2 k3 k5 newId)) (hi : PySem.W.findIn K (.ref C) "__init__" = some (some (.ref fI))) (hf : h.get? fI = some oI) (hfc : oI.cls = .type "function") (hz : rest.length ≤ sizeLine)
    (k : ∀ h', Heap.MadeExcOf h h' (h.objs.size + 1) (.ref C) rest → codeAny (model prog w) A (Code.call (.ref fI) ⟨.ref (h.objs.size + 1) :: rest, []⟩) (fun r s' => match r with | .ok (.ret v) => v = .none ∧ Q (.done (.ret (.ref (h.objs.size + 1)))) s' | .ok _ => False | .error x => E x s') ⟨h', g, d, t, os⟩) :
    wpAny (model prog w) A (Builtin.«type.__call__» ⟨.ref C :: rest, []⟩) Q E ⟨h, g, d, t, os⟩ := by
  have hM := fun {M : Model} {A : Around} {E} {Q : Option String → Shared → Prop} (k : Q (some newId) ⟨h, g, d, t, os⟩) => wpAny_madeBy_exc (M := M) (A := A) (E := E) (Q := Q) hC k
  repeat (any_goals (first | assumption | (with_reducible refine wpAny_loadPart_at hC ?_) | with_reducible refine hM ?_ | wp_step))
  refine codeAny_call_builtin_code (Code.quiet_builtin _ F.quiet) (wpAny_check_new_subT F T hC (codeAny_exc_new_subT F T hC ?_ hz))
  have e1 : ∀ b o, h.get? b = some o → ((h.push { cls := Value.type "tuple", data := Data.seq rest.toArray }).push { cls := Value.ref C, data := Data.fields #[Value.ref h.objs.size, Value.none, Value.none, Value.none, Value.bool false, Value.none] }).get? b = some o := fun b o e => Heap.get?_push_of_some _ (Heap.get?_push_of_some _ e)
  have e2 : ((h.push { cls := Value.type "tuple", data := Data.seq rest.toArray }).push { cls := Value.ref C, data := Data.fields #[Value.ref h.objs.size, Value.none, Value.none, Value.none, Value.bool false, Value.none] }).get? (h.objs.size + 1) = some { cls := Value.ref C, data := Data.fields #[Value.ref h.objs.size, Value.none, Value.none, Value.none, Value.bool false, Value.none] } := Heap.get?_push_at (by rw [Heap.size_push]) rfl
  have e3 : ((h.push { cls := Value.type "tuple", data := Data.seq rest.toArray }).push { cls := Value.ref C, data := Data.fields #[Value.ref h.objs.size, Value.none, Value.none, Value.none, Value.bool false, Value.none] }).get? h.objs.size = some { cls := Value.type "tuple", data := Data.seq rest.toArray } := Heap.get?_push_of_some _ (Heap.get?_push_at rfl rfl)
  have mk : Heap.MadeExcOf h ((h.push { cls := Value.type "tuple", data := Data.seq rest.toArray }).push { cls := Value.ref C, data := Data.fields #[Value.ref h.objs.size, Value.none, Value.none, Value.none, Value.bool false, Value.none] }) (h.objs.size + 1) (.ref C) rest := ⟨e1, Heap.get?_none_of_le (by omega), _, e2, Heap.get?_none_of_le (Nat.le_refl _), e3⟩
  have k' := k _ mk
  generalize ((h.push { cls := Value.type "tuple", data := Data.seq rest.toArray }).push { cls := Value.ref C, data := Data.fields #[Value.ref h.objs.size, Value.none, Value.none, Value.none, Value.bool false, Value.none] }) = h2 at *
  have hC2 := e1 _ _ hC
  have hf2 := e1 _ _ hf
  have LK := PySem.W.looks_findIn (M := model prog w) (KX.keeps e1) hi
  have hcB : (Value.ref C :: bm).contains (.ref C) = true := by simp
  repeat (any_goals (first | assumption | (with_reducible refine wpAny_loadPart_at hC2 ?_) | (with_reducible refine wpAny_loadPart_at e2 ?_) | (with_reducible refine wpAny_isSubtype_exc hC2 ?_; rw [hcB]) | with_reducible refine LK.at ?_ | wp_step))
  unfold bindSpecial
  repeat (any_goals (first | assumption | (with_reducible refine wpAny_loadPart_at hf2 ?_; rw [hfc]) | wp_step))
  refine codeAny_mono k' (fun r s' hr => ?_)
  cases r with
  | error x => exact hr
  | ok fl =>
    cases fl with
    | ret v =>
      obtain ⟨rfl, hq⟩ := hr
      refine wpAny_pure ?_
      dsimp only
      rw [if_neg (by decide)]
      exact wpAny_pure hq
    | next => exact hr
    | brk => exact hr
    | cont => exact hr
theorem xcall {rest : List Value} {fI : Addr} {oI : Obj} {Q : Value → Shared → Prop} (KX : K.In h) (F : ExcBaseFacts B newId initId bmB) (T : OwnTail h bmB bm)
    (hC : h.get? C = some (excClassObj nm q C N bs bm hdct sn sub ab col dd k0 k1 k2 k3 k5 newId)) (hi : PySem.W.findIn K (.ref C) "__init__" = some (some (.ref fI))) (hf : h.get? fI = some oI) (hfc : oI.cls = .type "function") (hz : rest.length ≤ sizeLine)
    (k : ∀ h', Heap.MadeExcOf h h' (h.objs.size + 1) (.ref C) rest → codeAny (model prog w) (A.under (.builtin "type.__call__" ⟨.ref C :: rest, []⟩)) (Code.call (.ref fI) ⟨.ref (h.objs.size + 1) :: rest, []⟩) (fun r s' => match r with | .ok (.ret v) => v = .none ∧ Q (.ref (h.objs.size + 1)) s' | .ok _ => False | .error x => E x s') ⟨h', g, d, t, os⟩) :
    wpAny (model prog w) A (call (.ref C) rest) Q E ⟨h, g, d, t, os⟩ := by
  refine wpAny_call (codeAny_of_tree ?_)
  rw [show (model prog w).den (Code.call (.ref C) ⟨rest, []⟩) = callAny (.ref C) ⟨rest, []⟩ from by with_unfolding_all rfl]
  unfold callAny
  try dsimp only
  have hT : (⟨h, g, d, t, os⟩ : Shared).TypeIs (.ref C) "type" := ⟨_, hC, rfl⟩
  have L := tc_lookup
  repeat (any_goals (first | assumption | (with_reducible refine wpAny_loadPart_at hC ?_) | (with_reducible refine wpAny_load' hC ?_) | wp_step))
  rw [tc_bind]
  refine wpAny_pure ?_
  dsimp only [callAny.plainCallee]
  refine wpAny_bind (wpAny_pure ?_)
  rw [if_pos (by decide)]
  refine wpAny_pure ⟨rfl, codeAny_call_builtin_at (Code.quiet_builtin _ (by decide +kernel)) entry_typeCall (wpAny_check_type_call_sub hC (xcall_entry KX F T hC hi hf hfc hz fun h' mk => codeAny_mono (k h' mk) fun r s' hr => ?_))⟩
  cases r with
  | error x => exact hr
  | ok fl => cases fl <;> exact hr
theorem xi_call {tk : Tok} {z : Str} {t0 : Value} {R : Result → Shared → Prop} (F : ExcBaseFacts B newId initId bmB) (T : OwnTail h bmB bm) (hC : h.get? C = some (excClassObj nm q C N bs bm hdct sn sub ab col dd k0 k1 k2 k3 k5 newId))
    (hx : h.get? a = some ⟨.ref C, none, .fields #[t0, .none, .none, .none, .bool false, .none], #[]⟩)
    (hq : ∀ h', h' = (h.push { cls := Value.type "tuple", data := Data.seq #[Value.str z tk] }).update a (Obj.mapFields fun x => x.setIfInBounds 0 (Value.ref h.objs.size)) → R (.ok (.ret .none)) ⟨h', g, d, t, os⟩) :
    codeAny (model prog w) A (.call (.builtin initId) ⟨[.ref a, .str z tk], []⟩) R ⟨h, g, d, t, os⟩ := by
  refine codeAny_call_builtin F.init.plain F.initEntry (wpAny_check_init_subT F T hC hx rfl ?_)
  repeat (any_goals (first | assumption | (with_reducible refine wpAny_loadPart_at hx ?_) | wp_step))
  split
  · exact wpAny_letGo (wpAny_pure (hq _ rfl))
  · exact wpAny_pure (wpAny_pure (hq _ rfl))
theorem xg_entry {tk : Tok} {f : Str} {dx : Addr} {mA : Str → Option Value} {v : Value} {vs : Array Value} {Q : Fin → Shared → Prop} (KX : K.In h) (Zf : PySem.W.findIn K (.ref C) f = some none) (hC : h.get? C = some (excClassObj nm q C N bs bm true sn sub ab col dd k0 k1 k2 k3 k5 newId))
    (hx : h.get? a = some o) (hc : o.cls = .ref C) (hd : o.dict = some dx) (hda : o.data = .fields vs) (hN : h.Ns1 dx mA) (hv : mA f = some v) (hq : Q (.done (.ret v)) ⟨h, g, d, t, os⟩) :
    wpAny (model prog w) A (Builtin.«object.__getattribute__» ⟨[.ref a, .str f tk], []⟩) Q E ⟨h, g, d, t, os⟩ := by
  have LK := PySem.W.looks_findIn (M := model prog w) KX Zf
  have hN' : h.Ns dx mA := by obtain ⟨o, es, ep, e1, e2, e3, e4, e5⟩ := hN; exact ⟨o, es, ep, e1, e2, e3, e5⟩
  repeat (any_goals (first | assumption | (with_reducible refine wpAny_loadPart_at hx ?_; rw [hc]) | with_reducible refine LK.at ?_ | wp_step))
  rw [hda]
  try dsimp only
  unfold instanceDict
  repeat (any_goals (first | assumption | (with_reducible refine wpAny_loadPart_at hx ?_; rw [hc]) | with_reducible refine LK.at ?_ | wp_step))
  rw [hd]
  refine wpAny_pure ?_
  unfold Builtin.ObjectAttr.inDict
  try dsimp only
  refine wpAny_nsGet (s := ⟨h, g, d, t, os⟩) hN' ?_
  rw [hv]
  repeat (any_goals (first | assumption | wp_step))
theorem xg_call {tk : Tok} {f : Str} {dx : Addr} {mA : Str → Option Value} {v : Value} {vs : Array Value} {R : Result → Shared → Prop} (KX : K.In h) (Zf : PySem.W.findIn K (.ref C) f = some none) (hC : h.get? C = some (excClassObj nm q C N bs bm true sn sub ab col dd k0 k1 k2 k3 k5 newId)) (hbe : bm.contains (.type "BaseException") = true)
    (hx : h.get? a = some o) (hc : o.cls = .ref C) (hd : o.dict = some dx) (hda : o.data = .fields vs) (hN : h.Ns1 dx mA) (hv : mA f = some v) (hq : R (.ok (.ret v)) ⟨h, g, d, t, os⟩) :
    codeAny (model prog w) A (.call (.builtin "BaseException.__getattribute__") ⟨[.ref a, .str f tk], []⟩) R ⟨h, g, d, t, os⟩ := by
  have hcB : (Value.ref C :: bm).contains (.type "BaseException") = true := by rw [List.contains_cons, hbe, Bool.or_true]
  have hk : builtinKind "BaseException.__getattribute__" = some .slot := by decide +kernel
  have hsplit : splitId "BaseException.__getattribute__" = some ("BaseException", "__getattribute__") := by decide +kernel
  have hargs := F.args_bexc_ga (.ref a) (.str f tk)
  have ck : ∀ {M : Model} {A' : Around} {E' : Value → Shared → Prop} {Q' : Unit → Shared → Prop}, Q' () ⟨h, g, d, t, os⟩ → wpAny M A' (checkBuiltinCall "BaseException.__getattribute__" ⟨[.ref a, .str f tk], []⟩) Q' E' ⟨h, g, d, t, os⟩ := by
    intro M A' E' Q' hq'
    simp only [checkBuiltinCall, hk, hsplit]
    refine wpAny_bind ?_
    unfold isInstance
    repeat (first | (with_reducible refine wpAny_loadPart_at hx ?_; rw [hc]) | (with_reducible refine wpAny_isSubtype_exc hC ?_; rw [hcB]) | wp_step)
    exact hq'
  exact codeAny_call_builtin (by decide +kernel) F.entry_bexc_ga (ck (xg_entry KX Zf hC hx hc hd hda hN hv hq))
theorem xg_get {f : Str} {dx : Addr} {mA : Str → Option Value} {v : Value} {vs : Array Value} {Q : Value → Shared → Prop} (KX : K.In h) (Z : XAsk K C) (Zf : PySem.W.findIn K (.ref C) f = some none) (hC : h.get? C = some (excClassObj nm q C N bs bm true sn sub ab col dd k0 k1 k2 k3 k5 newId)) (hbe : bm.contains (.type "BaseException") = true)
    (hx : h.get? a = some o) (hc : o.cls = .ref C) (hd : o.dict = some dx) (hda : o.data = .fields vs) (hN : h.Ns1 dx mA) (hv : mA f = some v) (hvb : ∀ id, v ≠ .builtin id) (hq : Q v ⟨h, g, d, t + 1, os⟩) :
    wpAny (model prog w) A (getAttr (.ref a) f true) Q E ⟨h, g, d, t, os⟩ := by
  have f3 := PySem.F.excAttr_ValueError.ga.bind (.ref a)
  have hx2 : (Value.builtin "BaseException.__getattribute__" == Value.builtin "object.__getattribute__") = false := by decide +kernel
  have hx1 : (onTheHeap (Value.ref C) && Value.builtin "BaseException.__getattribute__" == Value.builtin "object.__getattribute__") = false := by rw [hx2]; rfl
  have L1 := PySem.W.looks_findIn (M := model prog w) KX Z.ga
  have L2 := PySem.W.looks_findIn (M := model prog w) KX Z.gh
  unfold getAttr
  repeat (any_goals (first | assumption | (with_reducible refine wpAny_loadPart_at hx ?_; rw [hc]) | with_reducible refine L1.at ?_ | with_reducible refine L2.at ?_ | wp_step))
  refine xg_call KX Zf hC hbe hx hc hd hda hN hv ?_
  repeat (any_goals (first | assumption | wp_step))
  cases v <;> first | exact wpAny_pure hq | exact absurd rfl (hvb _)
theorem refuse_exc {M : Model} {Q : Unit → Shared → Prop} (T : OwnTail h [.type "ValueError", .type "Exception", .type "BaseException", .type "object"] bm) (hC : h.get? C = some (excClassObj nm q C N bs bm hdct sn sub ab col dd k0 k1 k2 k3 k5 newId))
    (hx : h.get? a = some o) (hc : o.cls = .ref C) (hq : Q () ⟨h, g, d, t, os⟩) : wpAny M A (Builtin.ObjectAttr.refuseIfOverridden (.ref a) "__setattr__") Q E ⟨h, g, d, t, os⟩ := by
  have key : ∀ {tl : List Value}, OwnTail h [.type "ValueError", .type "Exception", .type "BaseException", .type "object"] tl → ∀ (bd : Value → Option Unit × Unit → Sem (ForInStep (Option Unit × Unit))) (R : Option Unit × Unit → Shared → Prop), (∀ b r, bd (.ref b) r = pure (ForInStep.yield (none, ()))) →
      wpAny M A (forIn [.type "ValueError", .type "Exception", .type "BaseException", .type "object"] (none, ()) bd) R E ⟨h, g, d, t, os⟩ → wpAny M A (forIn tl (none, ()) bd) R E ⟨h, g, d, t, os⟩ := by
    intro tl T bd R hb hw
    induction T with
    | base => exact hw
    | own _ _ _ _ ih =>
      rw [List.forIn_cons, hb]
      exact wpAny_bind (wpAny_pure ih)
  unfold Builtin.ObjectAttr.refuseIfOverridden typeOf
  repeat (any_goals (first | assumption | (with_reducible refine wpAny_loadPart_at hx ?_; rw [hc]) | with_reducible refine wpAny_mroOf_exc hC ?_ | with_reducible refine wpAny_bind ?_))
  refine wpAny_pure (wpAny_bind (wpAny_mroOf_exc hC (wpAny_bind ?_)))
  rw [List.forIn_cons]
  refine wpAny_bind (wpAny_pure ?_)
  try dsimp only
  refine key T _ _ (fun b r => rfl) ?_
  have own1 : ∀ n, n = "ValueError" ∨ n = "Exception" ∨ n = "BaseException" → classOwn (.type n) (Str.ofString "__setattr__") = pure none := by
    rintro n (rfl | rfl | rfl) <;> with_unfolding_all rfl
  have o1 := own1 "ValueError" (by simp)
  have o2 := own1 "Exception" (by simp)
  have o3 := own1 "BaseException" (by simp)
  have o4 := F.own_object_setattr
  repeat (any_goals (first | assumption | wp_step))
theorem xs_entry {tk : Tok} {f : Str} {v : Value} {vs : Array Value} {Q : Fin → Shared → Prop} (KX : K.In h) (T : OwnTail h [.type "ValueError", .type "Exception", .type "BaseException", .type "object"] bm) (Zf : PySem.W.findIn K (.ref C) f = some none) (hC : h.get? C = some (excClassObj nm q C N bs bm true sn sub ab col dd k0 k1 k2 k3 k5 newId))
    (hx : h.get? a = some ⟨.ref C, none, .fields vs, #[]⟩) (hq : ∀ h' tk', (∀ b o, b ≠ a → h.get? b = some o → h'.get? b = some o) → h'.get? a = some ⟨.ref C, some h.objs.size, .fields vs, #[]⟩ → h'.Ns1 h.objs.size (fun y => if y = f then some v else none) → Q (.done (.ret .none)) ⟨h', g, d, tk', os⟩) :
    wpAny (model prog w) A (Builtin.«object.__setattr__» ⟨[.ref a, .str f tk, v], []⟩) Q E ⟨h, g, d, t, os⟩ := by
  have LK := PySem.W.looks_findIn (M := model prog w) KX Zf
  unfold Builtin.«object.__setattr__»
  dsimp only [List.isEmpty]
  rw [if_neg (by decide)]
  refine wpAny_bind (refuse_exc T hC hx rfl ?_)
  have hlt : a < h.objs.size := Heap.lt_size hx
  have e1 : ((h.push { cls := Value.type "dict", data := Data.dict #[] }).update a fun o => { cls := o.cls, dict := some h.objs.size, data := o.data, slots := o.slots }).get? h.objs.size = some { cls := Value.type "dict", data := Data.dict #[] } :=
    Heap.get?_update_of_ne _ (Nat.ne_of_lt hlt) (Heap.get?_push_at rfl rfl)
  have e2 : ((h.push { cls := Value.type "dict", data := Data.dict #[] }).update a fun o => { cls := o.cls, dict := some h.objs.size, data := o.data, slots := o.slots }).get? a = some ⟨.ref C, some h.objs.size, .fields vs, #[]⟩ :=
    Heap.get?_update_self _ (Heap.get?_push_of_some _ hx) rfl
  have e3 : ∀ b o, b ≠ a → h.get? b = some o → ((h.push { cls := Value.type "dict", data := Data.dict #[] }).update a fun o => { cls := o.cls, dict := some h.objs.size, data := o.data, slots := o.slots }).get? b = some o := fun b o hb e =>
    Heap.get?_update_of_ne _ (Ne.symm hb) (Heap.get?_push_of_some _ e)
  have n1 : ((h.push { cls := Value.type "dict", data := Data.dict #[] }).update a fun o => { cls := o.cls, dict := some h.objs.size, data := o.data, slots := o.slots }).Ns1 h.objs.size (fun _ => none) := ⟨_, #[], 0, e1, rfl, by intro e he; simp at he, by simp [UniqKeys], fun _ => rfl⟩
  repeat (any_goals (first | assumption | (with_reducible refine wpAny_nsSet1 (m := fun _ => none) ?_ ?_) | (with_reducible refine wpAny_loadPart_at hx ?_) | with_reducible refine LK.at ?_ | wp_step))
  intro h' hn sb
  obtain ⟨o', es, ep, g1, g2, hcnt⟩ := hn.count (ns := [f]) (fun y hy => by
    by_cases e : y = f
    · rw [e]; simp
    · exact absurd (if_neg e) hy)
  refine wpAny_bind (wpAny_lookBehind g1 (by rw [g2]; exact pastItsLine_dict (Nat.le_trans hcnt (by simp))) (wpAny_pure (hq h' _ (fun b o hb e => ?_) ?_ hn)))
  · rw [sb.2 b (Nat.ne_of_lt (Heap.lt_size e))]
    exact e3 b o hb e
  · rw [sb.2 a (Nat.ne_of_lt hlt)]
    exact e2
theorem xs_set {f : Str} {v : Value} {vs : Array Value} {Q : Unit → Shared → Prop} (KX : K.In h) (T : OwnTail h [.type "ValueError", .type "Exception", .type "BaseException", .type "object"] bm) (Zf : PySem.W.findIn K (.ref C) f = some none) (Zs : PySem.W.findIn K (.ref C) "__setattr__" = some (some (.builtin "object.__setattr__"))) (hC : h.get? C = some (excClassObj nm q C N bs bm true sn sub ab col dd k0 k1 k2 k3 k5 newId))
    (hx : h.get? a = some ⟨.ref C, none, .fields vs, #[]⟩) (hq : ∀ h' tk', (∀ b o, b ≠ a → h.get? b = some o → h'.get? b = some o) → h'.get? a = some ⟨.ref C, some h.objs.size, .fields vs, #[]⟩ → h'.Ns1 h.objs.size (fun y => if y = f then some v else none) → Q () ⟨h', g, d, tk', os⟩) :
    wpAny (model prog w) A (setAttr (.ref a) f v) Q E ⟨h, g, d, t, os⟩ := by
  have L1 := PySem.W.looks_findIn (M := model prog w) KX Zs
  have hcB : (Value.ref C :: bm).contains (.type "object") = true := by rw [List.contains_cons, T.hasType (by decide : _ = true), Bool.or_true]
  have f3 := F.slot_object_setattr.bind (.ref a)
  unfold setAttr
  repeat (any_goals (first | assumption | (with_reducible refine wpAny_loadPart_at hx ?_) | with_reducible refine L1.at ?_ | wp_step))
  have hk := F.bk_object_setattr
  have hsplit := F.sp_object_setattr
  have hargs := F.args_object_setattr_3 (.ref a) (.str f t) v
  have ck : ∀ {M : Model} {A' : Around} {E' : Value → Shared → Prop} {Q' : Unit → Shared → Prop} {t' : Nat}, Q' () ⟨h, g, d, t', os⟩ → wpAny M A' (checkBuiltinCall "object.__setattr__" ⟨[.ref a, .str f t, v], []⟩) Q' E' ⟨h, g, d, t', os⟩ := by
    intro M A' E' Q' t' hq'
    simp only [checkBuiltinCall, hk, hsplit]
    refine wpAny_bind ?_
    unfold isInstance
    repeat (first | (with_reducible refine wpAny_loadPart_at hx ?_) | (with_reducible refine wpAny_isSubtype_exc hC ?_; rw [hcB]) | wp_step)
    exact hq'
  refine codeAny_call_builtin (by decide +kernel) F.entry_object_setattr (ck (xs_entry KX T Zf hC hx fun h' tk' q1 q2 q3 => ?_))
  exact wpAny_pure (wpAny_pure (hq h' tk' q1 q2 q3))
theorem raise_made {M : Model} {env : Env} {s : Shared} {x : Sem Value} {Q : Flow → Shared → Prop} (hB : bm.contains (.type "BaseException") = true) (hh : A.handled = none)
    (hx : wpAny M A x (fun v s₁ => ∃ e oe vs, v = .ref e ∧ s₁.heap.get? C = some (excClassObj nm q C N bs bm hdct sn sub ab col dd k0 k1 k2 k3 k5 newId) ∧ s₁.heap.get? e = some oe ∧ oe.cls = .ref C ∧ oe.data = .fields vs ∧ vs[1]? = some .none ∧ E (.ref e) s₁) E s) :
    wpAny M A (raiseStmt env (some x) none) Q E s := by
  unfold raiseStmt
  refine wpAny_bind (wpAny_mono hx (fun v s₁ hv => ?_) fun _ _ z => z)
  obtain ⟨e, oe, vs, rfl, gC, ge, gc, gd, g1, hE⟩ := hv
  obtain ⟨h, g, d, t, os⟩ := s₁
  have hcB : (Value.ref C :: bm).contains (.type "BaseException") = true := by rw [List.contains_cons, hB, Bool.or_true]
  repeat (any_goals (first | assumption | (with_reducible refine wpAny_loadPart_at ge ?_; try rw [gc]) | (with_reducible refine wpAny_loadPart_at gC ?_) | (with_reducible refine wpAny_isSubtype_exc gC ?_; rw [hcB]) | wp_step))
  rw [gd]
  refine wpAny_pure ?_
  try dsimp only
  rw [g1]
  refine wpAny_pure ?_
  try dsimp only
  rw [if_neg (by decide)]
  exact wpAny_pure (wpAny_raiseNew_none hh hE)
end
end L2
namespace L2
open PySem PySem.Spec PyProof.Rows
structure XClsI (K : PySem.W.Frag) (C fI : Addr) : Prop where
  ex : ∃ (nm qn : Str) (N : Addr) (bs bm : List Value) (sn : List Str) (sub : List Value) (ab : Bool) (col : Option Bool) (dd : Option Addr) (k0 k1 k2 k3 k5 : Option Value), K.lookup C = some (excClassObj nm qn C N bs bm true sn sub ab col dd k0 k1 k2 k3 k5 "ValueError.__new__") ∧ PySem.W.tailIn K [.type "ValueError", .type "Exception", .type "BaseException", .type "object"] bm = true
  ini : PySem.W.findIn K (.ref C) "__init__" = some (some (.ref fI))
  fn : PySem.W.isFn K (.ref fI) = true
  sa : PySem.W.findIn K (.ref C) "__setattr__" = some (some (.builtin "object.__setattr__"))
  kp : PySem.W.keepIn K (.ref C) = true
theorem XClsI.obj {K : PySem.W.Frag} {C fI : Addr} {h : Heap} (c : XClsI K C fI) (X : K.In h) : ∃ (nm qn : Str) (N : Addr) (bs bm : List Value) (sn : List Str) (sub : List Value) (ab : Bool) (col : Option Bool) (dd : Option Addr) (k0 k1 k2 k3 k5 : Option Value),
    h.get? C = some (excClassObj nm qn C N bs bm true sn sub ab col dd k0 k1 k2 k3 k5 "ValueError.__new__") ∧ OwnTail h [.type "ValueError", .type "Exception", .type "BaseException", .type "object"] bm := by
  obtain ⟨nm, qn, N, bs, bm, sn, sub, ab, col, dd, k0, k1, k2, k3, k5, e1, e2⟩ := c.ex
  exact ⟨nm, qn, N, bs, bm, sn, sub, ab, col, dd, k0, k1, k2, k3, k5, X _ _ e1, PySem.W.tail_of_in X e2⟩
theorem XClsI.fun_ {K : PySem.W.Frag} {C fI : Addr} {h : Heap} (c : XClsI K C fI) (X : K.In h) : ∃ o, h.get? fI = some o ∧ o.cls = .type "function" := by
  have e : PySem.W.typeIn K (.ref fI) = some (.type "function") := beq_iff_eq.mp c.fn
  unfold PySem.W.typeIn at e
  dsimp only at e
  cases q : List.lookup fI K with
  | none => rw [q] at e; cases e
  | some o => rw [q] at e; exact ⟨o, X _ _ q, Option.some.inj e⟩
def rawX (C e : Addr) : HO := .ext fun h => ∃ t0, h.get? e = some ⟨.ref C, none, .fields #[t0, .none, .none, .none, .bool false, .none], #[]⟩
def madeX (C e d : Addr) : HO := .ext fun h => ∃ t0, h.get? e = some ⟨.ref C, some d, .fields #[t0, .none, .none, .none, .bool false, .none], #[]⟩
def excF (C e d : Addr) : HO := .ext fun h => ∃ o vs, h.get? e = some o ∧ o.cls = .ref C ∧ o.dict = some d ∧ o.data = .fields vs
def del (H : Hp) (a : Addr) : Hp := fun b => if b = a then none else H b
theorem del_same {H : Hp} {a : Addr} : del H a a = none := by unfold del; rw [if_pos rfl]
theorem del_ne {H : Hp} {a b : Addr} (h : b ≠ a) : del H a b = H b := by unfold del; rw [if_neg h]
section
variable {X : Cx} {CX : CXT} {k : Nat} {f C : Addr} {fd : FuncData} {ps ks : List Str} {sp : Sp} {dvs : List V} {ds : List Value} {E : XK} {x m fn : Str} {p np cpos pos apos : Pos} {e o : Expr} {es : List Expr} {ta tv : TE} {t tk : TA}
theorem Inv.drop {pins : List (Addr × Obj)} {σ : St} {H : Hp} {s : Shared} {a : Addr} {φ : Heap → Prop} (I : Inv X pins σ H s) (hH : H a = some (.ext φ)) : Inv X pins σ (del H a) s := by
  have nt : ∀ b xs, H b = some (.tup xs) → b ≠ a := fun b xs n z => by rw [z, hH] at n; cases n
  have nw : ∀ b y, H b = some (.own y) → b ≠ a := fun b y n z => by rw [z, hH] at n; cases n
  have ntb : ∀ b ps, H b = some (.tbl ps) → b ≠ a := fun b y n z => by rw [z, hH] at n; cases n
  have nf : ∀ b o u, H b = some (.frz o u) → b ≠ a := fun b o u n z => by rw [z, hH] at n; cases n
  have dn : ∀ b, H b = none → del H a b = none := fun b n => by unfold del; split; rfl; exact n
  refine ⟨I.ok, I.os, I.bare, ⟨I.base.keep, I.base.slot, fun b ob q n hx => dn b (I.base.free b ob q n hx), I.base.there, fun b xs q => ?_, fun b ob u q => ?_, fun b ps q => ?_⟩, I.loc, I.cell, dn _ I.free, fun x c e => dn _ (I.freeC x c e), fun p hp => ?_, fun b u e => ?_, I.len⟩
  · have h := I.base.tups b xs q; rw [del_ne (nt b xs h)]; exact h
  · have h := I.base.frzs b ob u q; rw [del_ne (nf b ob u h)]; exact h
  · obtain ⟨m, h⟩ := I.base.tbls b ps q; exact ⟨m, by rw [del_ne (ntb b _ h)]; exact h⟩
  · obtain ⟨p1, p2, p3⟩ := I.pin p hp; exact ⟨p1, dn _ p2, p3⟩
  · have hb : b ≠ a := fun z => by rw [z, del_same] at e; cases e
    rw [del_ne hb] at e
    exact (I.hok b u e).stay (fun _ _ _ q => q) (fun c q => by rw [del_ne (nw c _ q)]; exact q) fun c xs q => by rw [del_ne (nt c xs q)]; exact q
theorem Inv.track {pins : List (Addr × Obj)} {σ : St} {H : Hp} {s : Shared} {a : Addr} {u : HO} (I : Inv X pins σ H s) (hn : H a = none) (h0 : X.s₀.heap.objs.size ≤ a) (hL : a ≠ X.env.locals) (hc : ∀ x c, X.env.cells.lookup x = some c → c ≠ a) (hp : ∀ p ∈ X.pn ++ pins, p.1 ≠ a) (ok : ObjOk X.prog X.w (upd H a u) s.heap a u) :
    Inv X pins σ (upd H a u) s := by
  have ns : ∀ b v, H b = some v → b ≠ a := fun b v q z => by rw [z, hn] at q; cases q
  refine ⟨I.ok, I.os, I.bare, ⟨I.base.keep, I.base.slot, fun b ob q n hx => ?_, I.base.there, fun b xs q => ?_, fun b ob v q => ?_, fun b ps q => ?_⟩, I.loc, I.cell, ?_, fun x c e => ?_, fun p hp' => ?_, fun b v e => ?_, I.len⟩
  · rw [upd_ne (Nat.ne_of_lt (Nat.lt_of_lt_of_le (Heap.lt_size q) h0))]; exact I.base.free b ob q n hx
  · have h := I.base.tups b xs q; rw [upd_ne (ns _ _ h)]; exact h
  · have h := I.base.frzs b ob v q; rw [upd_ne (ns _ _ h)]; exact h
  · obtain ⟨m, h⟩ := I.base.tbls b ps q; exact ⟨m, by rw [upd_ne (ns _ _ h)]; exact h⟩
  · rw [upd_ne (Ne.symm hL)]; exact I.free
  · rw [upd_ne (hc x c e)]; exact I.freeC x c e
  · obtain ⟨p1, p2, p3⟩ := I.pin p hp'; exact ⟨p1, by rw [upd_ne (hp p hp')]; exact p2, p3⟩
  · by_cases hb : b = a
    · subst hb; rw [upd_same] at e; cases e; exact ok
    · rw [upd_ne hb] at e
      exact (I.hok b v e).stay (fun _ _ _ q => q) (fun c q => by rw [upd_ne (ns _ _ q)]; exact q) fun c xs q => by rw [upd_ne (ns _ _ q)]; exact q
theorem run_xmake {pins : List (Addr × Obj)} {σ : St} {H : Hp} {s : Shared} {Q : Addr → Hp → Prop} {us : List Value} {vs : List V} (M : XClsI X.K C f) (F : FnOk X.prog X.w X.K X.mg X.base CX0 k f fd ps sp) (hr : Room (k + 1) X.A) (hb : Binds X.K fd ps ds) (hd : Vals dvs ds)
    (I : Inv X pins σ H s) (r : Vals vs us) (hz : vs.length ≤ sizeLine)
    (h : ∀ e, H e = none → sp (.ref e :: (vs ++ dvs)) (upd H e (rawX C e)) (fun v H2 => v = .non ∧ Q e H2) E0) :
    wpAny (model X.prog X.w) X.A (call (.ref C) us) (fun u s' => ∃ e H', u = .ref e ∧ X.s₀.heap.objs.size ≤ e ∧ Inv X pins σ H' s' ∧ Q e H') X.xe s := by
  obtain ⟨nm, qn, N, bs, bm, sn, sub, ab, col, dd, k0, k1, k2, k3, k5, g1, g2⟩ := M.obj I.kIn
  obtain ⟨oI, g3, g4⟩ := M.fun_ I.kIn
  have hsz := I.sz
  have hkin := I.kIn
  have hq := h (s.heap.objs.size + 1) (I.hok.fresh (Nat.le_succ _))
  obtain ⟨h0, g, d, tt, os⟩ := s
  refine xcall (K := X.K) hkin PySem.F.excBase_ValueError g2 g1 M.ini g3 g4 (by rw [← r.length]; exact hz) fun h' mk => ?_
  obtain ⟨t0, q1, q2, q3⟩ := mk.there
  have I2 : Inv X pins σ (upd H (h0.objs.size + 1) (rawX C (h0.objs.size + 1))) ⟨h', g, d, tt, os⟩ := I.laid (t' := tt) mk.keeps (Nat.le_succ _) (show ObjOk _ _ _ _ _ (rawX C _) from ⟨⟨_, q1⟩, ⟨_, q1⟩, fun h1 h2 ⟨t1, z⟩ kk => ⟨t1, kk _ z⟩⟩)
  have r2 : Vals (V.ref (h0.objs.size + 1) :: (vs ++ dvs)) (Value.ref (h0.objs.size + 1) :: (us ++ ds)) := .cons rfl (r.append hd)
  have hl : (Value.ref (h0.objs.size + 1) :: us ++ ds).length = ps.length := by
    have e := r2.length
    rw [F.len _ _ _ _ hq] at e
    exact e.symm
  refine codeAny_mono (F.run _ X.stack _ _ ⟨Value.ref (h0.objs.size + 1) :: us, []⟩ (Value.ref (h0.objs.size + 1) :: (us ++ ds)) _ _ E0 (hr.make C us []) (I2.env0.make C us []) (hb _ (Value.ref (h0.objs.size + 1) :: us) I2.kIn hl) r2 hq) fun r s' hq' => ?_
  cases r with
  | error e => exact False.elim hq'
  | ok fl =>
    cases fl with
    | ret u =>
      obtain ⟨v, H', I3, rv, ev, q3⟩ := I2.after hq'
      subst ev
      exact ⟨rv, ⟨_, H', rfl, Nat.le_trans hsz (Nat.le_succ _), I3, q3⟩⟩
    | next => exact False.elim hq'
    | brk => exact False.elim hq'
    | cont => exact False.elim hq'
def tMakeX (C : Addr) (sp : Sp) (dvs : List V) (t : TA) : TE := fun σ H Q => t σ H fun vs H1 => vs.length ≤ sizeLine ∧ ∀ e, H1 e = none → sp (.ref e :: (vs ++ dvs)) (upd H1 e (rawX C e)) (fun v H2 => v = .non ∧ Q (.ref e) H2) E0
def RaisesF (X : Cx) (E : XK) : Prop := ∀ (pins : List (Addr × Obj)) (σ : St) (H : Hp) (s : Shared) (e C d : Addr) (t0 : Value), Inv X pins σ H s → s.heap.get? e = some ⟨.ref C, some d, .fields #[t0, .none, .none, .none, .bool false, .none], #[]⟩ → H e = none → X.s₀.heap.get? e = none → E (.ref C) (some d) H → X.xe (.ref e) s
theorem raisesF_cx {P : Program} {w : World} {K : PySem.W.Frag} {mg : Str → Option Value} {base : Heap} {N : List Str} {qual : Str} {scope : Scope} {f : Addr} {cd : Value} {A : Around} {outer : List Env} {s₀ : Shared} {H₀ : Hp} {E : XK} : RaisesF (cxOf (CX1 P w) P w K mg base N qual scope f cd A outer s₀ H₀ E) E :=
  fun pins σ H s e C d t0 I he hH hs hE => raise_core I he rfl rfl rfl rfl hH hs hE
def sp_xini (C : Addr) (fn : Str) : Sp := fun vs H Q _ => ∃ (e : Addr) (n : Int), vs = [.ref e, .int n] ∧ n.natAbs < 2 ^ 300 ∧ H e = some (rawX C e) ∧ ∀ d, H d = none → d ≠ e → Q .non (upd (upd H e (madeX C e d)) d (.xd [(fn, .int n)]))
def tRaiseF (C : Addr) (fn : Str) (E : XK) (t : TA) : TS := fun _ σ H => t σ H fun vs H1 => ∃ n : Int, vs = [.int n] ∧ n.natAbs < 2 ^ 300 ∧ ∀ d, H1 d = none → E (.ref C) (some d) (upd H1 d (.xd [(fn, .int n)]))
theorem ps_raiseF (hR : RaisesF X E) (hc : X.calm = true) (M : XClsI X.K C f) (F : FnOk X.prog X.w X.K X.mg X.base CX0 k f fd ps (sp_xini C fn)) (hr : Room (k + 1) X.A) (hg : Gl X x) (hm : X.mg x = some (.ref C)) (hb : Binds X.K fd ps [])
    (ha : PA X (e :: es) t) (hdb : (x == ("__debug__" : Str)) = false := by decide) (he : starEach (e :: es) X.env = (false, eval e X.env) :: starEach es X.env := by rfl) (hpl : (backTo cpos (starEach es X.env)).any (·.1) = false := by rfl) :
    PS X (.Raise (some (.Call (.Name x np) (e :: es) [] cpos)) none pos) (tRaiseF C fn E t) := by
  intro pins s σ H D I h
  rw [arm_exec_Raise]
  obtain ⟨nm, qn, N, bs, bm, sn, sub, ab, col, dd, k0, k1, k2, k3, k5, g1, g2⟩ := M.obj I.ok.mod.kin
  refine wpAny_bind (wpAny_standAt (raise_made (C := C) (nm := nm) (q := qn) (N := N) (bs := bs) (bm := bm) (hdct := true) (sn := sn) (sub := sub) (ab := ab) (col := col) (dd := dd) (k0 := k0) (k1 := k1) (k2 := k2) (k3 := k3) (k5 := k5) (newId := "ValueError.__new__") (g2.hasType (by rfl)) (I.ok.hd hc) ?_))
  refine wpAny_bind (wpAny_Call_Name_kw (ld_glob I hg hm ?_ hdb))
  refine PySem.W.callWith_K (h₀ := X.base) I.ok.mod.kin M.kp (thn (ha cpos pins s σ H _ I h) fun us s1 ⟨vs, H1, I1, r, n, ev, hn, q⟩ => ⟨I1.kIn, ?_⟩) he hpl
  refine thn (run_xmake (dvs := []) (ds := []) (Q := fun e H2 => ∃ d, H2 e = some (madeX C e d) ∧ E (.ref C) (some d) (del H2 e)) M F hr hb .nil I1 r (by rw [ev, sizeLine_eq]; show 1 ≤ _; omega) fun e he => ?_) fun u s2 ⟨e, H2, eu, hsz, I2, d, q2, q3⟩ => ?_
  · subst ev
    refine ⟨e, n, rfl, hn, upd_same, fun d hd hde => ⟨rfl, d, ?_, ?_⟩⟩
    · rw [upd_ne (Ne.symm hde), upd_same]
    · have hd' : H1 d = none := by rw [upd_ne hde] at hd; exact hd
      have e1 : del (upd (upd (upd H1 e (rawX C e)) e (madeX C e d)) d (.xd [(fn, .int n)])) e = upd H1 d (.xd [(fn, .int n)]) := by
        funext b
        by_cases hb : b = e
        · subst hb
          rw [del_same, upd_ne (Ne.symm hde), he]
        · rw [del_ne hb]
          by_cases hb2 : b = d
          · subst hb2; rw [upd_same, upd_same]
          · rw [upd_ne hb2, upd_ne hb2, upd_ne hb, upd_ne hb]
      rw [e1]
      exact q d hd'
  · subst eu
    refine wpAny_bind (wpAny_standAt (wpAny_pure ?_))
    obtain ⟨⟨t0, gx⟩, _, _⟩ := (show ObjOk X.prog X.w H2 s2.heap e (madeX C e d) from I2.hok e _ q2)
    exact ⟨e, _, _, rfl, I2.bk _ _ g1, gx, rfl, rfl, rfl, hR pins σ (del H2 e) s2 e C d t0 (I2.drop q2) gx del_same (Heap.get?_none_of_le hsz) q3⟩
structure XIni (K : PySem.W.Frag) (B : Addr) : Prop where
  ga : PySem.W.specialIn K (.ref B) "__getattribute__" = some (some (.builtin "type.__getattribute__"))
  rd : PySem.W.readsIn K B (.type "type") = true
  fi : PySem.W.findCls K (.ref B) (.type "type") "__init__" = some (.val (.builtin "ValueError.__init__"))
def tXIni (K : PySem.W.Frag) (t : TA) : TE := fun σ H Q => t σ H fun vs H1 => ∃ e C fI z, vs = [.ref e, .str z] ∧ H1 e = some (rawX C e) ∧ XClsI K C fI ∧ Q .non H1
theorem pe_xini {B : Addr} {pl : Sem Bool} (Z : XIni X.K B) (hg : Gl X x) (hm : X.mg x = some (.ref B))
    (ha : PA X (e :: es) t) (hdb : (x == ("__debug__" : Str)) = false := by decide) (he : starEach (e :: es) X.env = (false, eval e X.env) :: starEach es X.env := by rfl) (hpl : (backTo pos (starEach es X.env)).any (·.1) = false := by rfl)
    (ht : eval (.Call (.Attribute (.Name x p) "__init__" apos) (e :: es) [] pos) X.env = (do
      let ov ← eval (.Name x p) X.env
      standAt apos.atName
      let (f, first) ← holding [ov] (getMethod ov "__init__" pl)
      callWith pos f first (backTo pos (starEach (e :: es) X.env)) (backToKw pos (keywordEach [] X.env))) := by rfl) :
    PE X (.Call (.Attribute (.Name x p) "__init__" apos) (e :: es) [] pos) (tXIni X.K t) := by
  intro pins s σ H Q I h
  refine PySem.W.methodCall_KW (pl := pl) (ld_glob I hg hm ?_ hdb) ht
  refine PySem.W.method_cls I.kIn Z.ga (PySem.W.cls_value I.kIn Z.rd Z.fi rfl ?_)
  have I' : Inv X pins σ H { s with toks := s.toks + 1 } := I.tok _
  refine PyProof.Rows.callWith_builtin1 (thn (ha pos pins _ σ H _ I' h) fun us s1 ⟨vs, H1, I1, r, ea, C, fI, z, ev, hH, M, q⟩ => ?_) he hpl
  subst ev
  obtain ⟨u1, u2, rfl, r1, r2⟩ := vals2 r
  cases r1
  obtain ⟨tk, rfl⟩ := r2
  obtain ⟨nm, qn, N, bs, bm, sn, sub, ab, col, dd, k0, k1, k2, k3, k5, g1, g2⟩ := M.obj I1.kIn
  obtain ⟨⟨t0, gx⟩, _, _⟩ := (show ObjOk X.prog X.w H1 s1.heap ea (rawX C ea) from I1.hok ea _ hH)
  have hlt := Heap.lt_size gx
  obtain ⟨h0, g, d, tt, os⟩ := s1
  refine wpAny_call (xi_call (z := z) (tk := tk) PySem.F.excBase_ValueError g2 g1 gx fun h' eh => ?_)
  have e1 : h'.get? ea = some ⟨.ref C, none, .fields #[.ref h0.objs.size, .none, .none, .none, .bool false, .none], #[]⟩ := by
    rw [eh]
    exact Heap.get?_update_self (o := ⟨.ref C, none, .fields #[t0, .none, .none, .none, .bool false, .none], #[]⟩) _ (Heap.get?_push_of_some _ gx) rfl
  have e2 : ∀ b u, b ≠ ea → h0.get? b = some u → h'.get? b = some u := fun b u hb e => by
    rw [eh]
    exact Heap.get?_update_of_ne _ (Ne.symm hb) (Heap.get?_push_of_some _ e)
  have I2 : Inv X pins σ (upd H1 ea (rawX C ea)) ⟨h', g, d, tt, os⟩ := I1.write (t' := tt) (x := ea) (e := ea) (by rw [hH]; exact True.intro) (.inl rfl) e2 ⟨_, e1⟩ (show ObjOk _ _ _ _ _ (rawX C ea) from ⟨⟨_, e1⟩, ⟨_, e1⟩, fun h1 h2 ⟨t1, z⟩ kk => ⟨t1, kk _ z⟩⟩)
  have eH : upd H1 ea (rawX C ea) = H1 := by
    funext b
    by_cases hb : b = ea
    · subst hb; rw [upd_same, hH]
    · rw [upd_ne hb]
  rw [eH] at I2
  exact ⟨.non, H1, I2, rfl, q⟩
def sXFld (K : PySem.W.Frag) (ta tv : TE) (f : Str) : TS := fun D σ H => tv σ H fun y H1 => ta σ H1 fun x H2 => ∃ e C fI, x = .ref e ∧ H2 e = some (rawX C e) ∧ XClsI K C fI ∧ NoAttr K C f ∧ ∀ d, H2 d = none → d ≠ e → D.nx σ (upd (upd H2 e (madeX C e d)) d (.xd [(f, y)]))
theorem ps_xfld {pos' : Pos} {value : Expr} (ha : PE X o ta) (hv : PE X value tv) (hs : swapsWith value (some (.Attribute o fn pos')) pos.line X.env = pure false) : PS X (.Assign [.Attribute o fn pos'] value pos) (sXFld X.K ta tv fn) := by
  intro pins s σ H D I h
  refine plainObj_wpAny_Assign_Attribute (thn (hv pins s σ H _ I h) fun u s1 ⟨y, H1, I1, ry, q⟩ => thn (ha pins s1 σ H1 _ I1 q) fun ov s2 ⟨x, H2, I2, rx, a, C, fI, ex, hH, M, n, q2⟩ => ?_) hs
  subst ex
  obtain rfl : ov = Value.ref a := rx
  obtain ⟨nm, qn, N, bs, bm, sn, sub, ab, col, dd, k0, k1, k2, k3, k5, g1, g2⟩ := M.obj I2.kIn
  obtain ⟨⟨t0, gx⟩, _, _⟩ := (show ObjOk X.prog X.w H2 s2.heap a (rawX C a) from I2.hok a _ hH)
  have hkin := I2.kIn
  have hlt := Heap.lt_size gx
  have hfr : H2 s2.heap.objs.size = none := I2.hok.fresh (Nat.le_refl _)
  obtain ⟨h0, g, d, tt, os⟩ := s2
  have hlt : a < h0.objs.size := hlt
  refine xs_set (K := X.K) hkin g2 n M.sa g1 gx fun h' tk' k1 k2 k3 => ?_
  have I3 : Inv X pins σ (upd H2 a (madeX C a h0.objs.size)) ⟨h', g, d, tk', os⟩ := I2.write (t' := tk') (x := a) (e := a) (by rw [hH]; exact True.intro) (.inl rfl) k1 ⟨_, k2⟩ (show ObjOk _ _ _ _ _ (madeX C a _) from ⟨⟨_, k2⟩, ⟨_, k2⟩, fun h1 h2 ⟨t1, z⟩ kk => ⟨t1, kk _ z⟩⟩)
  have hne : h0.objs.size ≠ a := Ne.symm (Nat.ne_of_lt hlt)
  refine ⟨σ, _, ?_, q2 h0.objs.size hfr hne⟩
  have hlo : X.env.locals < h0.objs.size := I2.lt
  refine I3.track (by rw [upd_ne hne]; exact hfr) I2.sz (Ne.symm (Nat.ne_of_lt hlo)) (fun x c e => ?_) (fun p hp => ?_) (show ObjOk _ _ _ _ _ (.xd [(fn, y)]) from ⟨_, k3, fun f' => ?_⟩)
  · obtain ⟨v, ob, z, _⟩ := I2.cell x c e
    exact Nat.ne_of_lt (Heap.lt_size z)
  · exact Nat.ne_of_lt (Heap.lt_size (I2.pin p hp).1)
  · by_cases hf : f' = fn
    · subst hf
      rw [if_pos rfl, show List.lookup f' [(f', y)] = some y by simp [List.lookup]]
      exact ry
    · rw [if_neg hf, show List.lookup f' [(fn, y)] = none by simp [List.lookup, beq_eq_false_iff_ne.mpr hf]]
      exact True.intro
def tXFld (K : PySem.W.Frag) (ta : TE) (f : Str) : TE := fun σ H Q => ta σ H fun x H1 => ∃ e C fI d fs n, x = .ref e ∧ (H1 e = some (madeX C e d) ∨ H1 e = some (excF C e d)) ∧ XClsI K C fI ∧ XAsk K C ∧ NoAttr K C f ∧ H1 d = some (.xd fs) ∧ fs.lookup f = some (.int n) ∧ Q (.int n) H1
theorem pe_xfld (he : PE X e ta) (hb : attributeBase e fn X.env (eval e X.env) = eval e X.env) : PE X (.Attribute e fn pos) (tXFld X.K ta fn) := by
  intro pins s σ H Q I h
  refine attr_of hb (thn (he pins s σ H _ I h) fun u s1 ⟨x, H1, I1, rx, a, C, fI, d, fs, n, ex, hH, M, Z, hn, hd, hl, q⟩ => ?_)
  subst ex
  obtain rfl : u = Value.ref a := rx
  obtain ⟨nm, qn, N, bs, bm, sn, sub, ab, col, dd, k0, k1, k2, k3, k5, g1, g2⟩ := M.obj I1.kIn
  have hob : ∃ o vs, s1.heap.get? a = some o ∧ o.cls = .ref C ∧ o.dict = some d ∧ o.data = .fields vs := by
    rcases hH with hH | hH
    · obtain ⟨⟨t0, gx⟩, _, _⟩ := (show ObjOk X.prog X.w H1 s1.heap a (madeX C a d) from I1.hok a _ hH)
      exact ⟨_, _, gx, rfl, rfl, rfl⟩
    · obtain ⟨gx, _, _⟩ := (show ObjOk X.prog X.w H1 s1.heap a (excF C a d) from I1.hok a _ hH)
      exact gx
  obtain ⟨ob, vs, o1, o2, o3, o4⟩ := hob
  obtain ⟨mA, hN, hr⟩ := (show ObjOk X.prog X.w H1 s1.heap d (.xd fs) from I1.hok d _ hd)
  obtain ⟨v, hv, rv⟩ := RelO.some_of (v := .int n) (o := mA fn) (by rw [← hl]; exact hr fn)
  obtain ⟨tk, rfl⟩ := rv
  have hkin := I1.kIn
  have I2 := I1.tok (s1.toks + 1)
  obtain ⟨h0, g, dr, tt, os⟩ := s1
  exact xg_get (K := X.K) hkin Z hn g1 (g2.hasType (by rfl)) o1 o2 o3 o4 hN hv (fun id z => by cases z) ⟨.int n, H1, I2, ⟨_, rfl⟩, q⟩
theorem Inv.landedF {pins : List (Addr × Obj)} {σ : St} {H1 H' : Hp} {s1 s' : Shared} {ea C d : Addr} {a0 : Value} {B h6 : Heap} (I : Inv X pins σ H1 s1) (os : s'.os = s1.os) (bare : AllBare s'.gens) (un : Un (frs X.stack) [] H1 H' s1.heap s'.heap) (hok : HOk X.prog X.w H' B)
    (fl : Heap.FlyingW B X.stack ea (.ref C) a0 s'.heap) (k1 : ∀ b o, s1.heap.get? b = some o → H1 b = none → b ∉ frs X.stack → B.get? b = some o) (k2 : ∀ b o, s1.heap.get? b = some o → b ∉ frs X.stack → ∃ o', B.get? b = some o') (hn : H' ea = none)
    (fl6 : Heap.FlyingW B X.stack ea (.ref C) a0 h6) (ups : s'.heap.UpToSlots h6) (hdd : DictIs h6 ea (some d)) : Inv X pins σ (upd H' ea (excF C ea d)) { s' with heap := h6 } := by
  have st : ∀ b o, B.get? b = some o → h6.get? b = some o := fl6.1
  have nea : ∀ b o, s1.heap.get? b = some o → b ≠ ea := fun b o q z => by
    subst z
    by_cases hb : b ∈ frs X.stack
    · obtain ⟨_, o2, q2, nd⟩ := fl6.2.2.1.mem hb
      obtain ⟨oe, vs, q3, _, dd, _⟩ := fl6.first
      rw [q2] at q3; cases q3
      exact nd vs dd
    · obtain ⟨o', q'⟩ := k2 b o q hb
      rw [fl6.2.1] at q'; cases q'
  have q3 : ∀ b o, s1.heap.get? b = some o → b ∈ frs X.stack → ∃ o1, s'.heap.get? b = some o1 ∧ (H1 b = none → ∃ sl, o1 = { o with slots := sl }) ∧ ∃ sl, h6.get? b = some { o1 with slots := sl } := fun b o q hb => by
    obtain ⟨_, o1, z1, nd⟩ := fl.2.2.1.mem hb
    refine ⟨o1, z1, fun n => ?_, ups b o1 z1 nd⟩
    obtain ⟨sl2, y2⟩ := un.slot b _ q n hb (by simp)
    rw [z1] at y2
    exact ⟨sl2, Option.some.inj y2⟩
  refine I.call' (ch := []) (s' := { s' with heap := h6 }) os ⟨fun b o q n hb _ => st b o (k1 b o q n hb), fun b o q n hb _ => ?_, fun b o q n _ => ?_, fun b o q _ => ?_, fun b xs z => ?_, fun b o xs z => ?_, fun b ps z => ?_⟩ (fun b u q => ?_) bare (fun b hb => absurd hb (by simp))
  · obtain ⟨o1, _, e1, sl, e2⟩ := q3 b o q hb
    obtain ⟨sl1, rfl⟩ := e1 n
    exact ⟨sl, e2⟩
  · rw [upd_ne (nea b o q)]
    exact un.free b o q n (by simp)
  · by_cases hb : b ∈ frs X.stack
    · obtain ⟨o1, _, _, sl, e2⟩ := q3 b o q hb
      exact ⟨_, e2⟩
    · obtain ⟨o', q'⟩ := k2 b o q hb
      exact ⟨o', st b o' q'⟩
  · have z' := un.tups b xs z
    rw [upd_ne (ne_of_none z' hn)]; exact z'
  · have z' := un.frzs b o xs z
    rw [upd_ne (ne_of_none z' hn)]; exact z'
  · obtain ⟨mo, z'⟩ := un.tbls b ps z
    exact ⟨mo, by rw [upd_ne (ne_of_none z' hn)]; exact z'⟩
  · by_cases hb : b = ea
    · subst hb
      rw [upd_same] at q; cases q
      obtain ⟨oe, vs, q3, cc, dd, _⟩ := fl6.first
      obtain ⟨o2, q4, q5⟩ := hdd
      rw [q3] at q4; cases q4
      exact ⟨⟨oe, vs, q3, cc, q5, dd⟩, ⟨oe, q3⟩, fun h1 h2 ⟨o, v2, e1, e2⟩ k => ⟨o, v2, k o e1, e2⟩⟩
    · rw [upd_ne hb] at q
      exact (hok b u q).stay (fun c v _ z => st c v z) (fun c z => by rw [upd_ne (ne_of_none z hn)]; exact z) fun c xs z => by rw [upd_ne (ne_of_none z hn)]; exact z
def tTryF (te : TX) (C : Addr) (i : Nat) (ts : TS) : TS := fun D σ H => te σ H (fun _ H1 => D.nx σ H1) fun cls dd H1 => cls = .ref C ∧ ∃ d, dd = some d ∧ ∀ ea, H1 ea = none →
  ts { nx := fun σ2 H2 => D.nx (σ2.set i none) H2, rt := D.rt, bk := fun σ2 H2 => D.bk (σ2.set i none) H2, ct := fun σ2 H2 => D.ct (σ2.set i none) H2 } (σ.set i (some (.ref ea))) (upd H1 ea (excF C ea d))
theorem ps_tryF {fI : Addr} {te : TX} {i : Nat} {n : Str} {ts : TS} {b₀ : Stmt} {suite : List Stmt} {np epos hpos pos : Pos} (h : PEx X (CX1 X.prog X.w) e te) (c : XClsI X.K C fI) (hg : Gl X x) (hm : X.mg x = some (.ref C)) (hfr : X.env.frame = some X.env.locals) (hst : X.stack = X.env :: X.outer)
    (hN : X.N.Nodup) (hi : X.N[i]? = some n) (hk : X.env.kindOf n = some .local) (hsu : ∀ ea, PSs (X.inSuite ea) (b₀ :: suite) ts) (hd : (x == ("__debug__" : Str)) = false := by decide)
    (hs : swapsWith e none epos.line X.env = pure false := by rfl) :
    PS X (.Try [.Expr e epos] [.ExceptHandler (some (.Name x np)) (some n) (b₀ :: suite) hpos] [] [] pos) (tTryF te C i ts) := by
  intro pins s σ H D I hw
  refine wpAny_Try_except (wpAny_execs_cons (wpAny_Expr_any (wpAny_mono (h pins s σ H _ _ I hw) (fun v s1 ⟨y, H1, I1, r1, q1⟩ => wpAny_execs_nil (wpAny_execs_nil ⟨σ, H1, I1, q1⟩)) fun ev s' hx => ?_) I.quiet hs))
  obtain ⟨H1, s1, I1, ea, C', a0, H', B, dd, rfl, os, bare, un, hok, fl, k1, k2, hn, hdd, hC, d, hds, hE⟩ := hx
  subst hds
  have hcc : C' = C := Value.ref.inj hC
  subst hcc
  have fl' := fl
  rw [hst] at fl'
  have frm : X.A.frames = some (X.env :: X.outer) := by rw [← hst]; exact I.ok.frames
  refine wpAny_mono (wpAny_kd (KD.noteFrame _ _) (wpAny_looks_onW (Q := fun _ s2 => ∃ h4, s2 = { s' with heap := h4 } ∧ Heap.HeldW B (X.env :: X.outer) ea (.ref C') a0 X.env.locals h4 ∧ Heap.UpToSlots s'.heap h4) frm hfr fl' fun h4 held4 up4 => ⟨h4, rfl, held4, up4⟩)) (fun _ s2 z => ?_) (fun _ _ z => z)
  obtain ⟨⟨h4, rfl, held4, up4⟩, dk4⟩ := z
  refine wpAny_mono (wpAny_kd (KD.setFlight _ _) (wpAny_landsW (Q := fun _ s2 => ∃ h5, s2 = { s' with heap := h5 } ∧ Heap.FlyingW B (X.env :: X.outer) ea (.ref C') a0 h5 ∧ Heap.UpToSlots h4 h5) held4 fun h5 fl5 up5 => ⟨h5, rfl, fl5, up5⟩)) (fun _ s2 z => ?_) (fun _ _ z => z)
  obtain ⟨⟨h5, rfl, fl5, up5⟩, dk5⟩ := z
  have hd5 : DictIs h5 ea (some d) := (hdd.dk dk4).dk dk5
  have up5' := up4.trans up5
  have I5 : Inv X pins σ (upd H' ea (excF C' ea d)) { s' with heap := h5 } := I1.landedF os bare un hok fl k1 k2 hn (by rw [hst]; exact fl5) up5' hd5
  obtain ⟨nm, qn, N, bs, bm, sn, sub, ab, col, dd', g0, g1', g2', g3', g5', gC, gT⟩ := c.obj I5.kIn
  obtain ⟨ob, hob, hobc⟩ := fl5.there
  refine wpAny_handleBy_cons (codeAny_handlers_test (ld_glob (X := X.inSuite ea) (I5.inSuite ea) hg hm ?_ hd)) (by intro q; cases q)
  refine wpAny_excMatches_sub_self gC hob hobc (gT.hasType rfl) (codeAny_handlers_suite_as ?_)
  refine wpAny_mono (wpAny_kd (KD.setFlight _ _) (lands_againW (Q := fun _ s2 => ∃ h6, s2 = { s' with heap := h6 } ∧ Heap.FlyingW B (X.env :: X.outer) ea (.ref C') a0 h6 ∧ Heap.UpToSlots h5 h6) fl5 fun h6 fl6 up6 => ⟨h6, rfl, fl6, up6⟩)) (fun _ s2 z => ?_) (fun _ _ z => z)
  obtain ⟨⟨h6, rfl, fl6, up6⟩, dk6⟩ := z
  have I6 : Inv X pins σ (upd H' ea (excF C' ea d)) { s' with heap := h6 } := I1.landedF os bare un hok fl k1 k2 hn (by rw [hst]; exact fl6) (up5'.trans up6) (hd5.dk dk6)
  refine store_ok (X := X) I6 hN hi (.inl hk) (v := .ref ea) rfl (fun s7 I7 => ?_) (.inr hk)
  refine wpAny_mono (hsu ea pins s7 _ _ _ (I7.inSuite ea) (hE ea hn)) (fun f s8 hf => ?_) fun _ _ z => False.elim z
  cases f with
  | next =>
    obtain ⟨σ8, H8, I8, q8⟩ := hf
    exact (I8.outSuite I.ok).gone hN hi hk fun s9 I9 => ⟨_, H8, I9, q8⟩
  | brk =>
    obtain ⟨σ8, H8, I8, q8⟩ := hf
    exact (I8.outSuite I.ok).gone hN hi hk fun s9 I9 => ⟨_, H8, I9, q8⟩
  | cont =>
    obtain ⟨σ8, H8, I8, q8⟩ := hf
    exact (I8.outSuite I.ok).gone hN hi hk fun s9 I9 => ⟨_, H8, I9, q8⟩
  | ret u =>
    obtain ⟨v8, σ8, H8, I8, r8, q8⟩ := hf
    exact (I8.outSuite I.ok).gone hN hi hk fun s9 I9 => ⟨v8, _, H8, I9, r8, q8⟩
theorem kitx_excI {K : PySem.W.Frag} {a C fI : Addr} (c : XClsI K C fI) (Z : XAsk K C) : PySem.W.KitX K (.ref a) (.ref C) (fun h => ∃ o, h.get? a = some o ∧ o.cls = .ref C) where
  ty := fun M h _ ⟨o, e1, e2⟩ => e2 ▸ (PySem.W.Looks.ld e1).andThen .now
  it := fun M h X _ => by
    obtain ⟨nm, qn, N, bs, bm, sn, sub, ab, col, dd, k0, k1, k2, k3, k5, g1, _⟩ := c.obj X
    intro A' Q' E' s' k q
    unfold isType loadHead
    exact wpAny_bind (wpAny_loadPart (k _ _ g1) (wpAny_pure q))
  ne := fun h tp dd its n sl X htp => by
    obtain ⟨nm, qn, N, bs, bm, sn, sub, ab, col, dd, k0, k1, k2, k3, k5, g1, _⟩ := c.obj X
    refine Bool.eq_false_iff.mpr fun z => ?_
    have e : C = tp := Value.ref.inj (beq_iff_eq.mp z)
    subst e
    rw [g1] at htp
    exact absurd (show Value.type "type" = Value.type "tuple" from congrArg Obj.cls (Option.some.inj htp)) (by simp)
  ca := fun {prog w A E Q s} X ⟨o, e1, e2⟩ k => by
    obtain ⟨nm, qn, N, bs, bm, sn, sub, ab, col, dd, k0, k1, k2, k3, k5, g1, g4⟩ := c.obj X
    obtain ⟨h, g, d, t, os⟩ := s
    exact xc_attr X Z g1 (g4.hasType rfl) (g4.hasType rfl) e1 e2 k
def rIsF (K : PySem.W.Frag) : List V → Hp → VK → Prop := fun xs H Q => ∃ ea C c k, xs = [.ref ea, c] ∧ (∃ d, H ea = some (excF C ea d)) ∧ (∃ fI, XClsI K C fI) ∧ XAsk K C ∧ ((∃ D, c = .ref D ∧ PySem.W.kitOne K (.ref C) (.ref D) = some k) ∨ (∃ T, c = .ty T ∧ PySem.W.kitOne K (.ref C) (.type T) = some k)) ∧ Q (.bl k) H
theorem call_isF : CallR X (.builtin "isinstance") (rIsF X.K) := by
  intro pins s σ H vs us Q I r h
  obtain ⟨ea, C, c, k, rfl, ⟨d, hE⟩, ⟨fI, xc⟩, xa, hk, q⟩ := h
  obtain ⟨u, v, rfl, ru, rv⟩ := vals2 r
  cases ru
  obtain ⟨⟨o0, v0, hφ1, hφ2, _⟩, _, _⟩ := (show ObjOk X.prog X.w H s.heap ea (excF C ea d) from I.hok ea _ hE)
  rcases hk with ⟨D, rfl, e⟩ | ⟨T, rfl, e⟩
  · cases rv
    exact PySem.W.kia_one (kitx_excI xc xa) I.kIn ⟨o0, hφ1, hφ2⟩ e (fun z => nomatch z) fun tk => ⟨.bl k, H, I.tok _, rfl, q⟩
  · cases rv
    exact PySem.W.kia_one (kitx_excI xc xa) I.kIn ⟨o0, hφ1, hφ2⟩ e (fun z => nomatch z) fun tk => ⟨.bl k, H, I.tok _, rfl, q⟩
def rIsFs (K : PySem.W.Frag) : List V → Hp → VK → Prop := fun xs H Q => ∃ (ea C p : Addr) (cs : List Addr) (k : Bool), xs = [.ref ea, .ref p] ∧ (∃ d, H ea = some (excF C ea d)) ∧ (∃ fI, XClsI K C fI) ∧ XAsk K C ∧ H p = some (.tup (cs.map V.ref)) ∧ PySem.W.kitAny K (.ref C) (cs.map Value.ref) = some k ∧ Q (.bl k) H
def tFI (t : TE) : TE := fun σ H Q => t σ H fun v H1 => ∃ i : Int, v = .int i ∧ i.natAbs < 2 ^ 300 ∧ ∀ z : Str, z.length ≤ 10000 → Q (.str z) H1
theorem int_text_len {i : Int} (h : i.natAbs < 2 ^ 300) : (Str.ofString (toString i)).length ≤ 400 := by
  have hn : i.natAbs.repr.length ≤ 300 := nat_repr_length_le (by decide) h
  have hl : ∀ s : String, (Str.ofString s).length = s.length := fun s => PySem.ofString_length s
  rw [hl]
  cases i with
  | ofNat n =>
    have : (toString (Int.ofNat n)) = n.repr := rfl
    rw [this]
    have hn : n.repr.length ≤ 300 := hn
    omega
  | negSucc n =>
    have : (toString (Int.negSucc n)) = "-" ++ (n + 1).repr := rfl
    rw [this, String.length_append]
    have hn : (n + 1).repr.length ≤ 300 := hn
    have : "-".length = 1 := rfl
    omega
theorem pe_fstrI3 {y z : Str} {j1 j2 : Nat} {p1 p2 p3 : Pos} {te : TE} (he : PE X e te) (h1 : y.length ≤ 1000 := by decide +kernel) (h2 : z.length ≤ 1000 := by decide +kernel) : PE X (.JoinedStr [.Constant (.str y) j1 p1, .FormattedValue e (-1) none p2, .Constant (.str z) j2 p3] pos) (tFI te) := by
  intro pins s σ H Q I h
  have e0 : ∀ z : Str, (Str.empty ++ z) = z := fun z => by
    show Str.mk (#[] ++ z.cps) = z
    rw [Array.empty_append]
  have la : ∀ y z : Str, (y ++ z).length = y.length + z.length := fun y z => by
    show (y.cps ++ z.cps).size = _
    rw [Array.size_append]; rfl
  refine wpAny_JoinedStr (Joins_cons (Calls.Constant_str ⟨y, _, rfl, ?_, Joins_cons (wpAny_FormattedValue_plain ?_)⟩))
  · rw [e0, sizeLine_eq]; omega
  · rw [e0]
    refine thn (he pins _ σ H _ (I.tok _) h) fun v s1 ⟨w, H1, I1, r1, i, ei, hi, q⟩ => ?_
    subst ei
    obtain ⟨t1, rfl⟩ := r1
    have hl := int_text_len hi
    have hlog : i.natAbs.log2 < 1920 := by
      by_cases h0 : i.natAbs = 0
      · rw [h0]; decide
      · have := (Nat.log2_lt h0 (k := 300)).mpr hi
        omega
    refine wpAny_formatField_int hlog ⟨_, _, rfl, by rw [la, sizeLine_eq]; omega, Joins_cons (Calls.Constant_str ⟨z, _, rfl, by rw [la, la, sizeLine_eq]; omega, Joins_nil ⟨by rw [la, la, sizeLine_eq]; omega, .str _, H1, I1.tok _, ⟨_, rfl⟩, q _ (by rw [la, la]; omega)⟩⟩)⟩
end
section
variable {X : Cx} {K : PySem.W.Frag} {C : Addr} {sp : Sp} {dvs : List V} {E : XK} {x fn : Str} {p pos apos pos' : Pos} {e o value : Expr} {es : List Expr} {ta tv : TE} {t : TA} {σ : St} {H : Hp} {Q : VK} {D : Ends} {te : TX} {i : Nat} {ts : TS} {ea pa : Addr} {c : V}
theorem pe_xiniK {B : Addr} {pl : Sem Bool} (Z : XIni K B) (hg : Gl X x) (hm : X.mg x = some (.ref B)) (ha : PA X (e :: es) t) (hK : X.K = K := by rfl) (hdb : (x == ("__debug__" : Str)) = false := by decide) (he : starEach (e :: es) X.env = (false, eval e X.env) :: starEach es X.env := by rfl) (hpl : (backTo pos (starEach es X.env)).any (·.1) = false := by rfl)
    (ht : eval (.Call (.Attribute (.Name x p) "__init__" apos) (e :: es) [] pos) X.env = (do
      let ov ← eval (.Name x p) X.env
      standAt apos.atName
      let (f, first) ← holding [ov] (getMethod ov "__init__" pl)
      callWith pos f first (backTo pos (starEach (e :: es) X.env)) (backToKw pos (keywordEach [] X.env))) := by rfl) : PE X (.Call (.Attribute (.Name x p) "__init__" apos) (e :: es) [] pos) (tXIni K t) := by
  subst hK
  exact pe_xini Z hg hm ha hdb he hpl ht
theorem ps_xfldK (ha : PE X o ta) (hv : PE X value tv) (hs : swapsWith value (some (.Attribute o fn pos')) pos.line X.env = pure false) (hK : X.K = K := by rfl) : PS X (.Assign [.Attribute o fn pos'] value pos) (sXFld K ta tv fn) := hK ▸ ps_xfld ha hv hs
theorem pe_xfldK (he : PE X e ta) (hb : attributeBase e fn X.env (eval e X.env) = eval e X.env) (hK : X.K = K := by rfl) : PE X (.Attribute e fn pos) (tXFld K ta fn) := hK ▸ pe_xfld he hb
theorem call_isFK (hK : X.K = K := by rfl) : CallR X (.builtin "isinstance") (rIsF K) := hK ▸ call_isF
theorem ap_makeX : tMakeX C sp dvs t σ H Q = t σ H fun vs H1 => vs.length ≤ sizeLine ∧ ∀ e, H1 e = none → sp (.ref e :: (vs ++ dvs)) (upd H1 e (rawX C e)) (fun v H2 => v = .non ∧ Q (.ref e) H2) E0 := rfl
theorem ap_raiseF : tRaiseF C fn E t D σ H = t σ H fun vs H1 => ∃ n : Int, vs = [.int n] ∧ n.natAbs < 2 ^ 300 ∧ ∀ d, H1 d = none → E (.ref C) (some d) (upd H1 d (.xd [(fn, .int n)])) := rfl
theorem ap_xini : tXIni K t σ H Q = t σ H fun vs H1 => ∃ e C fI z, vs = [.ref e, .str z] ∧ H1 e = some (rawX C e) ∧ XClsI K C fI ∧ Q .non H1 := rfl
theorem ap_sxfld : sXFld K ta tv fn D σ H = tv σ H fun y H1 => ta σ H1 fun x H2 => ∃ e C fI, x = .ref e ∧ H2 e = some (rawX C e) ∧ XClsI K C fI ∧ NoAttr K C fn ∧ ∀ d, H2 d = none → d ≠ e → D.nx σ (upd (upd H2 e (madeX C e d)) d (.xd [(fn, y)])) := rfl
theorem ap_xfld : tXFld K ta fn σ H Q = ta σ H fun x H1 => ∃ e C fI d fs n, x = .ref e ∧ (H1 e = some (madeX C e d) ∨ H1 e = some (excF C e d)) ∧ XClsI K C fI ∧ XAsk K C ∧ NoAttr K C fn ∧ H1 d = some (.xd fs) ∧ fs.lookup fn = some (.int n) ∧ Q (.int n) H1 := rfl
theorem ap_tryF : tTryF te C i ts D σ H = te σ H (fun _ H1 => D.nx σ H1) fun cls dd H1 => cls = .ref C ∧ ∃ d, dd = some d ∧ ∀ ea, H1 ea = none →
  ts { nx := fun σ2 H2 => D.nx (σ2.set i none) H2, rt := D.rt, bk := fun σ2 H2 => D.bk (σ2.set i none) H2, ct := fun σ2 H2 => D.ct (σ2.set i none) H2 } (σ.set i (some (.ref ea))) (upd H1 ea (excF C ea d)) := rfl
theorem ap_isF : rIsF K [.ref ea, c] H Q = ∃ C k, (∃ d, H ea = some (excF C ea d)) ∧ (∃ fI, XClsI K C fI) ∧ XAsk K C ∧ ((∃ D, c = .ref D ∧ PySem.W.kitOne K (.ref C) (.ref D) = some k) ∨ (∃ T, c = .ty T ∧ PySem.W.kitOne K (.ref C) (.type T) = some k)) ∧ Q (.bl k) H := propext
  ⟨fun ⟨ea', C, c', k, e, r⟩ => by cases e; exact ⟨C, k, r⟩, fun ⟨C, k, r⟩ => ⟨ea, C, c, k, rfl, r⟩⟩
theorem ap_isFs : rIsFs K [.ref ea, .ref pa] H Q = ∃ (C : Addr) (cs : List Addr) (k : Bool), (∃ d, H ea = some (excF C ea d)) ∧ (∃ fI, XClsI K C fI) ∧ XAsk K C ∧ H pa = some (.tup (cs.map V.ref)) ∧ PySem.W.kitAny K (.ref C) (cs.map Value.ref) = some k ∧ Q (.bl k) H := propext
  ⟨fun ⟨ea', C, p', cs, k, e, r⟩ => by cases e; exact ⟨C, cs, k, r⟩, fun ⟨C, cs, k, r⟩ => ⟨ea, C, pa, cs, k, rfl, r⟩⟩
theorem ap_FI : tFI ta σ H Q = ta σ H fun v H1 => ∃ i : Int, v = .int i ∧ i.natAbs < 2 ^ 300 ∧ ∀ z : Str, z.length ≤ 10000 → Q (.str z) H1 := rfl
end
end L2
namespace L2
open PySem PySem.W PySem.Spec PySem.Calls PyProof.Rows
section
variable {X : Cx}
end
end L2
local macro_rules | `(tactic| walk_at "capok") => `(tactic| first | exact L2.CapOk.nil | (refine L2.CapOk.own ?_; walk_at "capok") | (refine L2.CapOk.take (by with_unfolding_all rfl) (by first | exact Or.inl (by with_unfolding_all rfl) | exact Or.inr (by with_unfolding_all rfl)) (by first | exact Or.inl (by with_unfolding_all rfl) | exact Or.inr (by with_unfolding_all rfl)) (by with_unfolding_all rfl) ?_; walk_at "capok"))
local macro_rules | `(tactic| walk_at "compok") => `(tactic| (refine ⟨?c1, ?c3, ?c0, ?c4, ?c5, ?c6, ?c7⟩; (case c1 => with_unfolding_all rfl); (case c3 => walk_at "capok"); (case c0 => rfl); (case c4 => decide +kernel); (case c5 => decide +kernel); (case c6 => with_unfolding_all rfl); (case c7 => (intro _; rfl))))
local macro_rules | `(tactic| walk_at "rd") => `(tactic| simp only [L2.ap_iStr, L2.ap_fldK, L2.ap_sFld, L2.ap_methD, L2.ap_make, L2.ap_makeK, L2.ap_dget2, L2.ap_dget, L2.ap_dput, L2.ap_dnewK, L2.ap_dpop1, L2.ap_dictOf, L2.ap_inD, L2.ap_leS, L2.ap_rIsC, L2.ap_ixT, L2.ap_ixS, L2.ap_slT, L2.ap_rTupOf, L2.ap_rIn, L2.ap_lenS, L2.ap_rSortT, L2.ap_new0, L2.ap_dictPairs, L2.ap_iVals, L2.ap_rVals, L2.ap_dget1, L2.ap_tSortK, L2.ap_rSortK, L2.ap_setOf, L2.ap_lenSet, L2.ap_iRng3, L2.ap_eqR, L2.ap_neR, L2.ap_fr, L2.ap_slS, L2.ap_slRev, L2.ap_tSortL, L2.ap_iZip3, L2.ap_tListRev, L2.ap_tMinD, L2.ap_rSortN, L2.ap_break, L2.ap_rSortI, L2.ap_iItems, L2.ap_rItems, L2.ap_eqM, L2.ap_neM, L2.ap_iKeys, L2.ap_makeX, L2.ap_raiseF, L2.ap_xini, L2.ap_sxfld, L2.ap_xfld, L2.ap_tryF, L2.ap_isF, L2.ap_isFs, L2.ap_FI, L2.ap_raise, L2.ap_xCall, L2.ap_isX, L2.ap_isXs, L2.ap_iZip, L2.ap_iEnum, L2.ap_seq, L2.ap_next, L2.ap_asg, L2.ap_name, L2.ap_var, L2.ap_c, L2.ap_op, L2.ap_un, L2.ap_rI, L2.ap_rI0, L2.ap_rU, L2.ap_rEq, L2.ap_rNe, L2.ap_ret, L2.ap_retN, L2.ap_drop, L2.ap_test, L2.ap_tB, L2.ap_and, L2.ap_or, L2.ap_not, L2.ap_andV, L2.ap_orV, L2.ap_notV, L2.ap_ifE, L2.ap_call, L2.ap_nil, L2.ap_cons, L2.ap_cb, L2.ap_lst, L2.ap_tup, L2.ap_chain, L2.ap_sl, L2.ap_noPart, L2.ap_part, L2.ap_gNil, L2.ap_gCons, L2.ap_gLst, L2.ap_gTup, L2.ap_bm, L2.ap_bm0, L2.ap_ixL, L2.ap_slL, L2.ap_rLen, L2.ap_rSum, L2.ap_rAny, L2.ap_rAll, L2.ap_rListOf, L2.ap_rIsT, L2.ap_append, L2.ap_rCat, L2.ap_for, L2.ap_iList, L2.ap_iTup, L2.ap_iRng1, L2.ap_iRng2, L2.ap_comp, L2.ap_noIf, L2.ap_rMax, L2.ap_rMin, L2.scal_int, L2.scal_str, L2.scal_bl, L2.start_eq, List.map_cons, List.map_nil, List.length_cons, List.length_nil, List.cons_append, List.nil_append, List.append_nil, List.replicate_succ, List.replicate_zero, Nat.reduceAdd, Nat.reduceSub, Nat.sub_self, List.set_cons_zero, List.set_cons_succ, List.getElem?_cons_zero, List.getElem?_cons_succ, Option.some.injEq, L2.V.int.injEq, L2.V.bl.injEq, L2.V.str.injEq, L2.V.ref.injEq, L2.V.ty.injEq, List.cons.injEq, exists_eq_left', exists_eq_left, exists_and_left, exists_eq', exists_eq, true_and, and_true, and_assoc, exists_const, Bool.not_true, Bool.not_false, if_true, if_false, Bool.false_eq_true, decide_true, decide_false, reduceCtorEq, Bool.not_eq_true', decide_eq_true_eq, decide_eq_false_iff_not])
local macro_rules | `(tactic| walk_at "rdi") => `(tactic| simp only [L2.ap_iStr, L2.ap_fldK, L2.ap_sFld, L2.ap_methD, L2.ap_make, L2.ap_makeK, L2.ap_dget2, L2.ap_dget, L2.ap_dput, L2.ap_dnewK, L2.ap_dpop1, L2.ap_dictOf, L2.ap_inD, L2.ap_leS, L2.ap_rIsC, L2.ap_ixT, L2.ap_ixS, L2.ap_slT, L2.ap_rTupOf, L2.ap_rIn, L2.ap_lenS, L2.ap_rSortT, L2.ap_new0, L2.ap_dictPairs, L2.ap_iVals, L2.ap_rVals, L2.ap_dget1, L2.ap_tSortK, L2.ap_rSortK, L2.ap_setOf, L2.ap_lenSet, L2.ap_iRng3, L2.ap_eqR, L2.ap_neR, L2.ap_fr, L2.ap_slS, L2.ap_slRev, L2.ap_tSortL, L2.ap_iZip3, L2.ap_tListRev, L2.ap_tMinD, L2.ap_rSortN, L2.ap_break, L2.ap_rSortI, L2.ap_iItems, L2.ap_rItems, L2.ap_eqM, L2.ap_neM, L2.ap_iKeys, L2.ap_makeX, L2.ap_raiseF, L2.ap_xini, L2.ap_sxfld, L2.ap_xfld, L2.ap_tryF, L2.ap_isF, L2.ap_isFs, L2.ap_FI, L2.ap_raise, L2.ap_xCall, L2.ap_isX, L2.ap_isXs, L2.ap_iZip, L2.ap_iEnum, L2.ap_try, L2.ap_next, L2.ap_asg, L2.ap_name, L2.ap_var, L2.ap_c, L2.ap_op, L2.ap_un, L2.ap_rI, L2.ap_rI0, L2.ap_rU, L2.ap_rEq, L2.ap_rNe, L2.ap_ret, L2.ap_retN, L2.ap_drop, L2.ap_if, L2.ap_test, L2.ap_tB, L2.ap_and, L2.ap_or, L2.ap_not, L2.ap_andV, L2.ap_orV, L2.ap_notV, L2.ap_ifE, L2.ap_call, L2.ap_nil, L2.ap_cons, L2.ap_cb, L2.ap_lst, L2.ap_tup, L2.ap_chain, L2.ap_sl, L2.ap_noPart, L2.ap_part, L2.ap_gNil, L2.ap_gCons, L2.ap_gLst, L2.ap_gTup, L2.ap_bm, L2.ap_bm0, L2.ap_ixL, L2.ap_slL, L2.ap_rLen, L2.ap_rSum, L2.ap_rAny, L2.ap_rAll, L2.ap_rListOf, L2.ap_rIsT, L2.ap_append, L2.ap_rCat, L2.ap_comp, L2.ap_iList, L2.ap_iTup, L2.ap_iRng1, L2.ap_iRng2, L2.ap_noIf, L2.ap_rMax, L2.ap_rMin, L2.scal_int, L2.scal_str, L2.scal_bl, L2.start_eq, List.map_cons, List.map_nil, List.length_cons, List.length_nil, List.cons_append, List.nil_append, List.append_nil, List.replicate_succ, List.replicate_zero, Nat.reduceAdd, Nat.reduceSub, Nat.sub_self, List.set_cons_zero, List.set_cons_succ, List.getElem?_cons_zero, List.getElem?_cons_succ, Option.some.injEq, L2.V.int.injEq, L2.V.bl.injEq, L2.V.str.injEq, L2.V.ref.injEq, L2.V.ty.injEq, List.cons.injEq, exists_eq_left', exists_eq_left, exists_and_left, exists_eq', exists_eq, true_and, and_true, and_assoc, exists_const, Bool.not_true, Bool.not_false, if_true, if_false, Bool.false_eq_true, decide_true, decide_false, reduceCtorEq, Bool.not_eq_true', decide_eq_true_eq, decide_eq_false_iff_not])
local macro_rules | `(tactic| walk_at "rda") => `(tactic| simp only [L2.ap_iStr, L2.ap_fldK, L2.ap_sFld, L2.ap_methD, L2.ap_make, L2.ap_makeK, L2.ap_dget2, L2.ap_dget, L2.ap_dput, L2.ap_dnewK, L2.ap_dpop1, L2.ap_dictOf, L2.ap_inD, L2.ap_leS, L2.ap_rIsC, L2.ap_ixT, L2.ap_ixS, L2.ap_slT, L2.ap_rTupOf, L2.ap_rIn, L2.ap_lenS, L2.ap_rSortT, L2.ap_new0, L2.ap_dictPairs, L2.ap_iVals, L2.ap_rVals, L2.ap_dget1, L2.ap_tSortK, L2.ap_rSortK, L2.ap_setOf, L2.ap_lenSet, L2.ap_iRng3, L2.ap_eqR, L2.ap_neR, L2.ap_fr, L2.ap_slS, L2.ap_slRev, L2.ap_tSortL, L2.ap_iZip3, L2.ap_tListRev, L2.ap_tMinD, L2.ap_rSortN, L2.ap_break, L2.ap_rSortI, L2.ap_iItems, L2.ap_rItems, L2.ap_eqM, L2.ap_neM, L2.ap_iKeys, L2.ap_makeX, L2.ap_raiseF, L2.ap_xini, L2.ap_sxfld, L2.ap_xfld, L2.ap_tryF, L2.ap_isF, L2.ap_isFs, L2.ap_FI, L2.ap_raise, L2.ap_xCall, L2.ap_isX, L2.ap_isXs, L2.ap_iZip, L2.ap_iEnum, L2.ap_try, L2.ap_seq, L2.ap_next, L2.ap_asg, L2.ap_name, L2.ap_var, L2.ap_c, L2.ap_op, L2.ap_un, L2.ap_rI, L2.ap_rI0, L2.ap_rU, L2.ap_rEq, L2.ap_rNe, L2.ap_ret, L2.ap_retN, L2.ap_drop, L2.ap_if, L2.ap_test, L2.ap_tB, L2.ap_and, L2.ap_or, L2.ap_not, L2.ap_andV, L2.ap_orV, L2.ap_notV, L2.ap_ifE, L2.ap_call, L2.ap_nil, L2.ap_cons, L2.ap_cb, L2.ap_lst, L2.ap_tup, L2.ap_chain, L2.ap_sl, L2.ap_noPart, L2.ap_part, L2.ap_gNil, L2.ap_gCons, L2.ap_gLst, L2.ap_gTup, L2.ap_bm, L2.ap_bm0, L2.ap_ixL, L2.ap_slL, L2.ap_rLen, L2.ap_rSum, L2.ap_rAny, L2.ap_rAll, L2.ap_rListOf, L2.ap_rIsT, L2.ap_append, L2.ap_rCat, L2.ap_for, L2.ap_iList, L2.ap_iTup, L2.ap_iRng1, L2.ap_iRng2, L2.ap_comp, L2.ap_noIf, L2.ap_rMax, L2.ap_rMin, L2.scal_int, L2.scal_str, L2.scal_bl, L2.start_eq, List.map_cons, List.map_nil, List.length_cons, List.length_nil, List.cons_append, List.nil_append, List.append_nil, List.replicate_succ, List.replicate_zero, Nat.reduceAdd, Nat.reduceSub, Nat.sub_self, List.set_cons_zero, List.set_cons_succ, List.getElem?_cons_zero, List.getElem?_cons_succ, Option.some.injEq, L2.V.int.injEq, L2.V.bl.injEq, L2.V.str.injEq, L2.V.ref.injEq, L2.V.ty.injEq, List.cons.injEq, exists_eq_left', exists_eq_left, exists_and_left, exists_eq', exists_eq, true_and, and_true, and_assoc, exists_const, Bool.not_true, Bool.not_false, if_true, if_false, Bool.false_eq_true, decide_true, decide_false, reduceCtorEq, Bool.not_eq_true', decide_eq_true_eq, decide_eq_false_iff_not])
local macro_rules | `(tactic| walk_at "mono") => `(tactic| first | (with_reducible exact L2.mn_var) | (with_reducible exact L2.mn_c) | ((with_reducible refine L2.mn_op ?_ ?_ ?_) <;> walk_at "mono") | ((with_reducible refine L2.mn_un ?_ ?_) <;> walk_at "mono") | (with_reducible exact L2.mn_rI) | (with_reducible exact L2.mn_rI0) | (with_reducible exact L2.mn_rU) | (with_reducible exact L2.mn_rEq) | (with_reducible exact L2.mn_rNe) | (with_reducible exact L2.mn_rEqD) | (with_reducible exact L2.mn_rNeD) | (with_reducible exact L2.mn_ixL) | (with_reducible exact L2.mn_ixT) | (with_reducible exact L2.mn_in) | (with_reducible exact L2.mn_isN) | (with_reducible exact L2.mn_notN) | (with_reducible exact L2.mn_cat) | ((with_reducible refine L2.mn_test ?_) <;> walk_at "mono") | ((with_reducible refine L2.mn_tB ?_) <;> walk_at "mono") | ((with_reducible refine L2.mn_not ?_) <;> walk_at "mono") | ((with_reducible refine L2.mn_and ?_ ?_) <;> walk_at "mono") | ((with_reducible refine L2.mn_or ?_ ?_) <;> walk_at "mono") | (with_reducible exact L2.mn_nil) | ((with_reducible refine L2.mn_cons ?_ ?_) <;> walk_at "mono") | ((with_reducible refine L2.mn_cb ?_ ?_) <;> walk_at "mono") | ((with_reducible refine L2.mn_call ?_ ?_) <;> walk_at "mono") | ((with_reducible refine L2.mn_lst ?_) <;> walk_at "mono") | ((with_reducible refine L2.mn_tup ?_) <;> walk_at "mono") | (with_reducible exact L2.mn_len) | (with_reducible exact L2.mn_sum) | (with_reducible exact L2.mn_any) | (with_reducible exact L2.mn_all) | (with_reducible exact L2.mn_max) | (with_reducible exact L2.mn_min) | (with_reducible exact L2.mn_listOf) | (with_reducible exact L2.mn_isT) | (with_reducible exact L2.mn_isC) | (with_reducible exact L2.mn_noPart) | ((with_reducible refine L2.mn_part ?_) <;> walk_at "mono") | ((with_reducible refine L2.mn_sl ?_ ?_ ?_ ?_) <;> walk_at "mono") | (with_reducible exact L2.mn_slL) | ((with_reducible refine L2.mn_bm ?_ ?_ ?_) <;> walk_at "mono") | ((with_reducible refine L2.mn_bm0 ?_ ?_) <;> walk_at "mono") | (with_reducible exact L2.mn_append) | ((with_reducible refine L2.mn_chain ?_ ?_ ?_ ?_ ?_) <;> walk_at "mono") | ((with_reducible refine L2.mn_andV ?_ ?_) <;> walk_at "mono") | ((with_reducible refine L2.mn_orV ?_ ?_) <;> walk_at "mono") | ((with_reducible refine L2.mn_notV ?_) <;> walk_at "mono") | ((with_reducible refine L2.mn_ifE ?_ ?_ ?_) <;> walk_at "mono") | (with_reducible exact L2.mn_name) | (with_reducible exact L2.mn_gNil) | ((with_reducible refine L2.mn_gCons ?_ ?_) <;> walk_at "mono") | ((with_reducible refine L2.mn_gLst ?_) <;> walk_at "mono") | ((with_reducible refine L2.mn_gTup ?_) <;> walk_at "mono") | (with_reducible exact L2.mn_next) | (with_reducible exact L2.mn_nxE) | (with_reducible exact L2.mn_never) | (with_reducible exact L2.mn_break) | (with_reducible exact L2.mn_cont) | ((with_reducible refine L2.mn_ret ?_) <;> walk_at "mono") | (with_reducible exact L2.mn_retN) | ((with_reducible refine L2.mn_drop ?_) <;> walk_at "mono") | ((with_reducible refine L2.mn_asg ?_ ?_) <;> walk_at "mono") | ((with_reducible refine L2.mn_seq ?_ ?_) <;> walk_at "mono") | ((with_reducible refine L2.mn_if ?_ ?_ ?_) <;> walk_at "mono") | assumption)
local macro_rules | `(tactic| walk_at "mono") => `(tactic| first | (with_reducible exact L2.mn_rEqR) | (with_reducible exact L2.mn_rNeR) | ((with_reducible refine L2.mn_comp ?_) <;> walk_at "mono") | ((with_reducible refine L2.mn_iList ?_) <;> walk_at "mono") | ((with_reducible refine L2.mn_dput ?_ ?_ ?_) <;> walk_at "mono"))
namespace My
open PySem L2 PyProof.Rows
def top (i : Nat) : Stmt := PySem.Challenge.pw_lotledger_k34_named_lots_gone.main.body.getD i (.Pass ⟨0, 0, 0, 0⟩)
abbrev s__law_cell : Stmt := top 25
abbrev s__law_row : Stmt := top 27
abbrev s_Lot___init__ : Stmt := inClass (top 11) 0
abbrev s__law_lots : Stmt := top 28
abbrev s__law_picks : Stmt := top 32
abbrev s_Lot_told : Stmt := inClass (top 11) 1
abbrev s__law_whole : Stmt := top 26
abbrev s__law_are : Stmt := top 29
abbrev s_Eldest_word : Stmt := inClass (top 16) 0
abbrev s_Newest_word : Stmt := inClass (top 17) 0
abbrev s_Dearest_word : Stmt := inClass (top 18) 0
abbrev s_Mean_word : Stmt := inClass (top 19) 0
abbrev s_way_by : Stmt := top 20
abbrev s__law_taken : Stmt := top 31
abbrev s_Way_levelled : Stmt := inClass (top 15) 0
abbrev s_sum_of_weights : Stmt := top 9
abbrev s_part_of : Stmt := top 7
abbrev s_dealt : Stmt := top 8
abbrev s_cost_in : Stmt := top 13
abbrev s_Mean_levelled : Stmt := inClass (top 19) 1
abbrev s_Lot_taken : Stmt := inClass (top 11) 2
abbrev s_NoLot___init__ : Stmt := inClass (top 4) 0
abbrev s_row_without : Stmt := top 12
abbrev s_picks_in_turn : Stmt := top 21
abbrev s_Eldest_picks : Stmt := inClass (top 16) 1
abbrev s_Newest_picks : Stmt := inClass (top 17) 1
abbrev s_Lot_is_dearer : Stmt := inClass (top 11) 4
abbrev s_dearest_first : Stmt := top 22
abbrev s_Dearest_picks : Stmt := inClass (top 18) 1
abbrev s_gone_from : Stmt := top 23
abbrev s__law_wrong : Stmt := top 34
abbrev s__law_even : Stmt := top 30
abbrev s__law_no_lot : Stmt := top 33
abbrev s_law : Stmt := top 35
structure Adr where
  _law_cell : Addr
  _law_row : Addr
  Lot___init__ : Addr
  _law_lots : Addr
  _law_picks : Addr
  Lot_told : Addr
  _law_whole : Addr
  _law_are : Addr
  Eldest_word : Addr
  Newest_word : Addr
  Dearest_word : Addr
  Mean_word : Addr
  way_by : Addr
  _law_taken : Addr
  Way_levelled : Addr
  sum_of_weights : Addr
  part_of : Addr
  dealt : Addr
  cost_in : Addr
  Mean_levelled : Addr
  Lot_taken : Addr
  NoLot___init__ : Addr
  row_without : Addr
  picks_in_turn : Addr
  Eldest_picks : Addr
  Newest_picks : Addr
  Lot_is_dearer : Addr
  dearest_first : Addr
  Dearest_picks : Addr
  gone_from : Addr
  _law_wrong : Addr
  _law_even : Addr
  _law_no_lot : Addr
  law : Addr
  C_Lot : Addr
  C_Eldest : Addr
  C_Newest : Addr
  C_Dearest : Addr
  C_Mean : Addr
  C_Way : Addr
  C_LotError : Addr
  C_NoLot : Addr
structure Fds where
  _law_cell : FuncData
  _law_row : FuncData
  Lot___init__ : FuncData
  _law_lots : FuncData
  _law_picks : FuncData
  Lot_told : FuncData
  _law_whole : FuncData
  _law_are : FuncData
  Eldest_word : FuncData
  Newest_word : FuncData
  Dearest_word : FuncData
  Mean_word : FuncData
  way_by : FuncData
  _law_taken : FuncData
  Way_levelled : FuncData
  sum_of_weights : FuncData
  part_of : FuncData
  dealt : FuncData
  cost_in : FuncData
  Mean_levelled : FuncData
  Lot_taken : FuncData
  NoLot___init__ : FuncData
  row_without : FuncData
  picks_in_turn : FuncData
  Eldest_picks : FuncData
  Newest_picks : FuncData
  Lot_is_dearer : FuncData
  dearest_first : FuncData
  Dearest_picks : FuncData
  gone_from : FuncData
  _law_wrong : FuncData
  _law_even : FuncData
  _law_no_lot : FuncData
  law : FuncData
structure Txt (K : PySem.W.Frag) (mg : Str → Option Value) (A : Adr) (D : Fds) : Prop where
  m__law_cell : mg "_law_cell" = some (.ref A._law_cell)
  k__law_cell : PySem.W.keepIn K (.ref A._law_cell) = true
  F__law_cell : Fun K "_law_cell" "_law_cell" s__law_cell A._law_cell D._law_cell
  m__law_row : mg "_law_row" = some (.ref A._law_row)
  k__law_row : PySem.W.keepIn K (.ref A._law_row) = true
  F__law_row : Fun K "_law_row" "_law_row" s__law_row A._law_row D._law_row
  F_Lot___init__ : Fun K "__init__" "Lot.__init__" s_Lot___init__ A.Lot___init__ D.Lot___init__
  m__law_lots : mg "_law_lots" = some (.ref A._law_lots)
  k__law_lots : PySem.W.keepIn K (.ref A._law_lots) = true
  F__law_lots : Fun K "_law_lots" "_law_lots" s__law_lots A._law_lots D._law_lots
  m__law_picks : mg "_law_picks" = some (.ref A._law_picks)
  k__law_picks : PySem.W.keepIn K (.ref A._law_picks) = true
  F__law_picks : Fun K "_law_picks" "_law_picks" s__law_picks A._law_picks D._law_picks
  F_Lot_told : Fun K "told" "Lot.told" s_Lot_told A.Lot_told D.Lot_told
  m__law_whole : mg "_law_whole" = some (.ref A._law_whole)
  k__law_whole : PySem.W.keepIn K (.ref A._law_whole) = true
  F__law_whole : Fun K "_law_whole" "_law_whole" s__law_whole A._law_whole D._law_whole
  m__law_are : mg "_law_are" = some (.ref A._law_are)
  k__law_are : PySem.W.keepIn K (.ref A._law_are) = true
  F__law_are : Fun K "_law_are" "_law_are" s__law_are A._law_are D._law_are
  F_Eldest_word : Fun K "word" "Eldest.word" s_Eldest_word A.Eldest_word D.Eldest_word
  F_Newest_word : Fun K "word" "Newest.word" s_Newest_word A.Newest_word D.Newest_word
  F_Dearest_word : Fun K "word" "Dearest.word" s_Dearest_word A.Dearest_word D.Dearest_word
  F_Mean_word : Fun K "word" "Mean.word" s_Mean_word A.Mean_word D.Mean_word
  m_way_by : mg "way_by" = some (.ref A.way_by)
  k_way_by : PySem.W.keepIn K (.ref A.way_by) = true
  F_way_by : Fun K "way_by" "way_by" s_way_by A.way_by D.way_by
  m__law_taken : mg "_law_taken" = some (.ref A._law_taken)
  k__law_taken : PySem.W.keepIn K (.ref A._law_taken) = true
  F__law_taken : Fun K "_law_taken" "_law_taken" s__law_taken A._law_taken D._law_taken
  F_Way_levelled : Fun K "levelled" "Way.levelled" s_Way_levelled A.Way_levelled D.Way_levelled
  m_sum_of_weights : mg "sum_of_weights" = some (.ref A.sum_of_weights)
  k_sum_of_weights : PySem.W.keepIn K (.ref A.sum_of_weights) = true
  F_sum_of_weights : Fun K "sum_of_weights" "sum_of_weights" s_sum_of_weights A.sum_of_weights D.sum_of_weights
  m_part_of : mg "part_of" = some (.ref A.part_of)
  k_part_of : PySem.W.keepIn K (.ref A.part_of) = true
  F_part_of : Fun K "part_of" "part_of" s_part_of A.part_of D.part_of
  m_dealt : mg "dealt" = some (.ref A.dealt)
  k_dealt : PySem.W.keepIn K (.ref A.dealt) = true
  F_dealt : Fun K "dealt" "dealt" s_dealt A.dealt D.dealt
  m_cost_in : mg "cost_in" = some (.ref A.cost_in)
  k_cost_in : PySem.W.keepIn K (.ref A.cost_in) = true
  F_cost_in : Fun K "cost_in" "cost_in" s_cost_in A.cost_in D.cost_in
  F_Mean_levelled : Fun K "levelled" "Mean.levelled" s_Mean_levelled A.Mean_levelled D.Mean_levelled
  F_Lot_taken : Fun K "taken" "Lot.taken" s_Lot_taken A.Lot_taken D.Lot_taken
  F_NoLot___init__ : Fun K "__init__" "NoLot.__init__" s_NoLot___init__ A.NoLot___init__ D.NoLot___init__
  m_row_without : mg "row_without" = some (.ref A.row_without)
  k_row_without : PySem.W.keepIn K (.ref A.row_without) = true
  F_row_without : Fun K "row_without" "row_without" s_row_without A.row_without D.row_without
  m_picks_in_turn : mg "picks_in_turn" = some (.ref A.picks_in_turn)
  k_picks_in_turn : PySem.W.keepIn K (.ref A.picks_in_turn) = true
  F_picks_in_turn : Fun K "picks_in_turn" "picks_in_turn" s_picks_in_turn A.picks_in_turn D.picks_in_turn
  F_Eldest_picks : Fun K "picks" "Eldest.picks" s_Eldest_picks A.Eldest_picks D.Eldest_picks
  F_Newest_picks : Fun K "picks" "Newest.picks" s_Newest_picks A.Newest_picks D.Newest_picks
  F_Lot_is_dearer : Fun K "is_dearer" "Lot.is_dearer" s_Lot_is_dearer A.Lot_is_dearer D.Lot_is_dearer
  m_dearest_first : mg "dearest_first" = some (.ref A.dearest_first)
  k_dearest_first : PySem.W.keepIn K (.ref A.dearest_first) = true
  F_dearest_first : Fun K "dearest_first" "dearest_first" s_dearest_first A.dearest_first D.dearest_first
  F_Dearest_picks : Fun K "picks" "Dearest.picks" s_Dearest_picks A.Dearest_picks D.Dearest_picks
  m_gone_from : mg "gone_from" = some (.ref A.gone_from)
  k_gone_from : PySem.W.keepIn K (.ref A.gone_from) = true
  F_gone_from : Fun K "gone_from" "gone_from" s_gone_from A.gone_from D.gone_from
  m__law_wrong : mg "_law_wrong" = some (.ref A._law_wrong)
  k__law_wrong : PySem.W.keepIn K (.ref A._law_wrong) = true
  F__law_wrong : Fun K "_law_wrong" "_law_wrong" s__law_wrong A._law_wrong D._law_wrong
  m__law_even : mg "_law_even" = some (.ref A._law_even)
  k__law_even : PySem.W.keepIn K (.ref A._law_even) = true
  F__law_even : Fun K "_law_even" "_law_even" s__law_even A._law_even D._law_even
  m__law_no_lot : mg "_law_no_lot" = some (.ref A._law_no_lot)
  k__law_no_lot : PySem.W.keepIn K (.ref A._law_no_lot) = true
  F__law_no_lot : Fun K "_law_no_lot" "_law_no_lot" s__law_no_lot A._law_no_lot D._law_no_lot
  m_law : mg "law" = some (.ref A.law)
  k_law : PySem.W.keepIn K (.ref A.law) = true
  F_law : Fun K "law" "law" s_law A.law D.law
  b_len : mg "len" = none
  b_range : mg "range" = none
  b_sorted : mg "sorted" = none
  b_int : mg "int" = none
  b_list : mg "list" = none
  b_isinstance : mg "isinstance" = none
  b_bool : mg "bool" = none
  b_zip : mg "zip" = none
  b_tuple : mg "tuple" = none
  b_all : mg "all" = none
  b_any : mg "any" = none
  b_sum : mg "sum" = none
  b_dict : mg "dict" = none
  b_min : mg "min" = none
  b_reversed : mg "reversed" = none
  b_enumerate : mg "enumerate" = none
  m_Lot : mg "Lot" = some (.ref A.C_Lot)
  m_Eldest : mg "Eldest" = some (.ref A.C_Eldest)
  m_Newest : mg "Newest" = some (.ref A.C_Newest)
  m_Dearest : mg "Dearest" = some (.ref A.C_Dearest)
  m_Mean : mg "Mean" = some (.ref A.C_Mean)
  m_Way : mg "Way" = some (.ref A.C_Way)
  m_LotError : mg "LotError" = some (.ref A.C_LotError)
  m_NoLot : mg "NoLot" = some (.ref A.C_NoLot)
  x_LotError : XCls K A.C_LotError
  y_LotError : XAsk K A.C_LotError
  xi_NoLot : XClsI K A.C_NoLot A.NoLot___init__
  y_NoLot : XAsk K A.C_NoLot
  n_NoLot_number : NoAttr K A.C_NoLot "number"
  ini_LotError : XIni K A.C_LotError
  cl_Lot : Cls K A.C_Lot
  ty_Lot : InsTy K A.C_Lot
  n_Lot_number : NoAttr K A.C_Lot "number"
  n_Lot_since : NoAttr K A.C_Lot "since"
  n_Lot_pieces : NoAttr K A.C_Lot "pieces"
  n_Lot_cost : NoAttr K A.C_Lot "cost"
  cl_Eldest : Cls K A.C_Eldest
  ty_Eldest : InsTy K A.C_Eldest
  cl_Newest : Cls K A.C_Newest
  ty_Newest : InsTy K A.C_Newest
  cl_Dearest : Cls K A.C_Dearest
  ty_Dearest : InsTy K A.C_Dearest
  cl_Mean : Cls K A.C_Mean
  ty_Mean : InsTy K A.C_Mean
  cl_Way : Cls K A.C_Way
  ty_Way : InsTy K A.C_Way
  mk_Lot : Mk K A.C_Lot A.Lot___init__
  mk0_Eldest : Mk0 K A.C_Eldest
  mk0_Newest : Mk0 K A.C_Newest
  mk0_Dearest : Mk0 K A.C_Dearest
  mk0_Mean : Mk0 K A.C_Mean
  me_Lot_told : Meth K A.C_Lot "told" A.Lot_told
  me_Eldest_word : Meth K A.C_Eldest "word" A.Eldest_word
  me_Newest_word : Meth K A.C_Newest "word" A.Newest_word
  me_Dearest_word : Meth K A.C_Dearest "word" A.Dearest_word
  me_Mean_word : Meth K A.C_Mean "word" A.Mean_word
  me_Lot_taken : Meth K A.C_Lot "taken" A.Lot_taken
  me_Lot_is_dearer : Meth K A.C_Lot "is_dearer" A.Lot_is_dearer
  me_Eldest_levelled : Meth K A.C_Eldest "levelled" A.Way_levelled
  me_Newest_levelled : Meth K A.C_Newest "levelled" A.Way_levelled
  me_Dearest_levelled : Meth K A.C_Dearest "levelled" A.Way_levelled
  me_Mean_levelled : Meth K A.C_Mean "levelled" A.Mean_levelled
  me_Eldest_picks : Meth K A.C_Eldest "picks" A.Eldest_picks
  me_Newest_picks : Meth K A.C_Newest "picks" A.Newest_picks
  me_Dearest_picks : Meth K A.C_Dearest "picks" A.Dearest_picks
  me_Mean_picks : Meth K A.C_Mean "picks" A.Eldest_picks
  kx1 : PySem.W.kitOne K (.ref A.C_NoLot) (.ref A.C_LotError) = some true
  ki_Lot : PySem.W.kitOne K (.ref A.C_Lot) (.ref A.C_Lot) = some true
theorem sc__law_cell : FnScope ["_law_script", "_law_k"] ["_law_script", "_law_k"] (defScope s__law_cell) := ⟨rfl, rfl, rfl, by decide +kernel, rfl, by decide +kernel, by decide +kernel⟩
theorem sc__law_row : FnScope ["_law_script", "_law_start", "_law_most", "_law_style", "_law_rows", "_law_known", "_law_k", "_law_parts", "_law_j", "_law_cell_here", "_law_small", "_law_top", "_law_number"] ["_law_script", "_law_start", "_law_most"] (defScope s__law_row) := ⟨rfl, rfl, rfl, by decide +kernel, rfl, by decide +kernel, by decide +kernel⟩
theorem sc_Lot___init__ : FnScope ["self", "number", "since", "pieces", "cost"] ["self", "number", "since", "pieces", "cost"] (defScope s_Lot___init__) := ⟨rfl, rfl, rfl, by decide +kernel, rfl, by decide +kernel, by decide +kernel⟩
theorem sc__law_lots : FnScope ["_law_row_here"] ["_law_row_here"] (defScope s__law_lots) := ⟨rfl, rfl, rfl, by decide +kernel, rfl, by decide +kernel, by decide +kernel⟩
theorem sc__law_picks : FnScope ["_law_script", "_law_start", "_law_row_here", "_law_left", "_law_picks_here", "_law_k", "_law_cell_here", "_law_lot", "_law_wanted"] ["_law_script", "_law_start", "_law_row_here"] (defScope s__law_picks) := ⟨rfl, rfl, rfl, by decide +kernel, rfl, by decide +kernel, by decide +kernel⟩
theorem sc_Lot_told : FnScope ["self"] ["self"] (defScope s_Lot_told) := ⟨rfl, rfl, rfl, by decide +kernel, rfl, by decide +kernel, by decide +kernel⟩
theorem sc__law_whole : FnScope ["_law_found"] ["_law_found"] (defScope s__law_whole) := ⟨rfl, rfl, rfl, by decide +kernel, rfl, by decide +kernel, by decide +kernel⟩
theorem sc__law_are : FnScope ["_law_lots_here", "_law_row_here", "_law_lot", "_law_due", "_law_told"] ["_law_lots_here", "_law_row_here"] (defScope s__law_are) := ⟨rfl, rfl, rfl, by decide +kernel, rfl, by decide +kernel, by decide +kernel⟩
theorem sc_Eldest_word : FnScope ["self"] ["self"] (defScope s_Eldest_word) := ⟨rfl, rfl, rfl, by decide +kernel, rfl, by decide +kernel, by decide +kernel⟩
theorem sc_Newest_word : FnScope ["self"] ["self"] (defScope s_Newest_word) := ⟨rfl, rfl, rfl, by decide +kernel, rfl, by decide +kernel, by decide +kernel⟩
theorem sc_Dearest_word : FnScope ["self"] ["self"] (defScope s_Dearest_word) := ⟨rfl, rfl, rfl, by decide +kernel, rfl, by decide +kernel, by decide +kernel⟩
theorem sc_Mean_word : FnScope ["self"] ["self"] (defScope s_Mean_word) := ⟨rfl, rfl, rfl, by decide +kernel, rfl, by decide +kernel, by decide +kernel⟩
theorem sc_way_by : FnScope ["word", "way"] ["word"] (defScope s_way_by) := ⟨rfl, rfl, rfl, by decide +kernel, rfl, by decide +kernel, by decide +kernel⟩
theorem sc__law_taken : FnScope ["_law_row_here", "_law_picks_here", "_law_known", "_law_lot", "_law_some", "_law_number", "_law_wanted", "_law_here", "_law_since", "_law_pieces", "_law_cost", "_law_part"] ["_law_row_here", "_law_picks_here"] (defScope s__law_taken) := ⟨rfl, rfl, rfl, by decide +kernel, rfl, by decide +kernel, by decide +kernel⟩
theorem sc_Way_levelled : FnScope ["self", "lots"] ["self", "lots"] (defScope s_Way_levelled) := ⟨rfl, rfl, rfl, by decide +kernel, rfl, by decide +kernel, by decide +kernel⟩
theorem sc_sum_of_weights : FnScope ["weights", "whole"] ["weights"] (defScope s_sum_of_weights) := ⟨rfl, rfl, rfl, by decide +kernel, rfl, by decide +kernel, by decide +kernel⟩
theorem sc_part_of : FnScope ["amount", "part", "whole"] ["amount", "part", "whole"] (defScope s_part_of) := ⟨rfl, rfl, rfl, by decide +kernel, rfl, by decide +kernel, by decide +kernel⟩
theorem sc_dealt : FnScope ["amount", "weights", "whole", "shares", "weight_till_here", "dealt_till_here", "weight", "dealt_with_it"] ["amount", "weights"] (defScope s_dealt) := ⟨rfl, rfl, rfl, by decide +kernel, rfl, by decide +kernel, by decide +kernel⟩
theorem sc_cost_in : FnScope ["lots"] ["lots"] (defScope s_cost_in) := ⟨rfl, rfl, rfl, by decide +kernel, rfl, by decide +kernel, by decide +kernel⟩
theorem sc_Mean_levelled : FnScope ["self", "lots", "costs"] ["self", "lots"] (defScope s_Mean_levelled) := ⟨rfl, rfl, rfl, by decide +kernel, rfl, by decide +kernel, by decide +kernel⟩
theorem sc_Lot_taken : FnScope ["self", "pieces", "cost", "gone"] ["self", "pieces"] (defScope s_Lot_taken) := ⟨rfl, rfl, rfl, by decide +kernel, rfl, by decide +kernel, by decide +kernel⟩
theorem sc_NoLot___init__ : FnScope ["self", "number"] ["self", "number"] (defScope s_NoLot___init__) := ⟨rfl, rfl, rfl, by decide +kernel, rfl, by decide +kernel, by decide +kernel⟩
theorem sc_row_without : FnScope ["lots", "picks", "left", "taken", "number", "pieces", "lot", "parts"] ["lots", "picks"] (defScope s_row_without) := ⟨rfl, rfl, rfl, by decide +kernel, rfl, by decide +kernel, by decide +kernel⟩
theorem sc_picks_in_turn : FnScope ["lots", "pieces", "picks", "wanted", "lot", "going"] ["lots", "pieces"] (defScope s_picks_in_turn) := ⟨rfl, rfl, rfl, by decide +kernel, rfl, by decide +kernel, by decide +kernel⟩
theorem sc_Eldest_picks : FnScope ["self", "lots", "pieces"] ["self", "lots", "pieces"] (defScope s_Eldest_picks) := ⟨rfl, rfl, rfl, by decide +kernel, rfl, by decide +kernel, by decide +kernel⟩
theorem sc_Newest_picks : FnScope ["self", "lots", "pieces"] ["self", "lots", "pieces"] (defScope s_Newest_picks) := ⟨rfl, rfl, rfl, by decide +kernel, rfl, by decide +kernel, by decide +kernel⟩
theorem sc_Lot_is_dearer : FnScope ["self", "other"] ["self", "other"] (defScope s_Lot_is_dearer) := ⟨rfl, rfl, rfl, by decide +kernel, rfl, by decide +kernel, by decide +kernel⟩
theorem sc_dearest_first : FnScope ["lots", "turn", "lot", "cheaper"] ["lots"] (defScope s_dearest_first) := ⟨rfl, rfl, rfl, by decide +kernel, rfl, by decide +kernel, by decide +kernel⟩
theorem sc_Dearest_picks : FnScope ["self", "lots", "pieces"] ["self", "lots", "pieces"] (defScope s_Dearest_picks) := ⟨rfl, rfl, rfl, by decide +kernel, rfl, by decide +kernel, by decide +kernel⟩
theorem sc_gone_from : FnScope ["way", "lots", "pieces", "named", "row", "picks"] ["way", "lots", "pieces", "named"] (defScope s_gone_from) := ⟨rfl, rfl, rfl, by decide +kernel, rfl, by decide +kernel, by decide +kernel⟩
theorem sc__law_wrong : FnScope ["_law_picks_here", "_law_row_here", "_law_cell_here", "_law_at", "_law_number", "_law_pieces", "_law_there"] ["_law_picks_here", "_law_row_here", "_law_cell_here"] (defScope s__law_wrong) := ⟨rfl, rfl, rfl, by decide +kernel, rfl, by decide +kernel, by decide +kernel⟩
theorem sc__law_even : FnScope ["_law_row_here", "_law_cost", "_law_pieces", "_law_made", "_law_had", "_law_ahead", "_law_lot"] ["_law_row_here"] (defScope s__law_even) := ⟨rfl, rfl, rfl, by decide +kernel, rfl, by decide +kernel, by decide +kernel⟩
theorem sc__law_no_lot : FnScope ["_law_way", "_law_lots_here", "_law_pieces", "_law_named", "_law_told", "e"] ["_law_way", "_law_lots_here", "_law_pieces", "_law_named"] (defScope s__law_no_lot) := ⟨rfl, rfl, rfl, by decide +kernel, rfl, by decide +kernel, by decide +kernel⟩
theorem sc_law : FnScope ["_law_script", "_law_row_here", "_law_lots_here", "_law_picks_here", "_law_wanted", "_law_word", "_law_way", "_law_flat", "_law_handed", "_law_some", "_law_left", "_law_found", "_law_at", "_law_pick", "_law_bent", "_law_pieces"] ["_law_script"] (defScope s_law) := ⟨rfl, rfl, rfl, by decide +kernel, rfl, by decide +kernel, by decide +kernel⟩
section
variable {P : Program} {w : World} {K : PySem.W.Frag} {mg : Str → Option Value} {base : Heap} {A : Adr} {D : Fds}
theorem b__law_cell (T : Txt K mg A D) : Binds K D._law_cell ["_law_script", "_law_k"] [] := T.F__law_cell.binds (ps := ["_law_script", "_law_k"]) fun _ _ _ _ _ _ us hl => match us, hl with | [_, _], _ => rfl
theorem b__law_row (T : Txt K mg A D) : Binds K D._law_row ["_law_script", "_law_start", "_law_most"] [] := T.F__law_row.binds (ps := ["_law_script", "_law_start", "_law_most"]) fun _ _ _ _ _ _ us hl => match us, hl with | [_, _, _], _ => rfl
theorem b_Lot___init__ (T : Txt K mg A D) : Binds K D.Lot___init__ ["self", "number", "since", "pieces", "cost"] [] := T.F_Lot___init__.binds (ps := ["self", "number", "since", "pieces", "cost"]) fun _ _ _ _ _ _ us hl => match us, hl with | [_, _, _, _, _], _ => rfl
theorem b__law_lots (T : Txt K mg A D) : Binds K D._law_lots ["_law_row_here"] [] := T.F__law_lots.binds (ps := ["_law_row_here"]) fun _ _ _ _ _ _ us hl => match us, hl with | [_], _ => rfl
theorem b__law_picks (T : Txt K mg A D) : Binds K D._law_picks ["_law_script", "_law_start", "_law_row_here"] [] := T.F__law_picks.binds (ps := ["_law_script", "_law_start", "_law_row_here"]) fun _ _ _ _ _ _ us hl => match us, hl with | [_, _, _], _ => rfl
theorem b_Lot_told (T : Txt K mg A D) : Binds K D.Lot_told ["self"] [] := T.F_Lot_told.binds (ps := ["self"]) fun _ _ _ _ _ _ us hl => match us, hl with | [_], _ => rfl
theorem b__law_whole (T : Txt K mg A D) : Binds K D._law_whole ["_law_found"] [] := T.F__law_whole.binds (ps := ["_law_found"]) fun _ _ _ _ _ _ us hl => match us, hl with | [_], _ => rfl
theorem b__law_are (T : Txt K mg A D) : Binds K D._law_are ["_law_lots_here", "_law_row_here"] [] := T.F__law_are.binds (ps := ["_law_lots_here", "_law_row_here"]) fun _ _ _ _ _ _ us hl => match us, hl with | [_, _], _ => rfl
theorem b_Eldest_word (T : Txt K mg A D) : Binds K D.Eldest_word ["self"] [] := T.F_Eldest_word.binds (ps := ["self"]) fun _ _ _ _ _ _ us hl => match us, hl with | [_], _ => rfl
theorem b_Newest_word (T : Txt K mg A D) : Binds K D.Newest_word ["self"] [] := T.F_Newest_word.binds (ps := ["self"]) fun _ _ _ _ _ _ us hl => match us, hl with | [_], _ => rfl
theorem b_Dearest_word (T : Txt K mg A D) : Binds K D.Dearest_word ["self"] [] := T.F_Dearest_word.binds (ps := ["self"]) fun _ _ _ _ _ _ us hl => match us, hl with | [_], _ => rfl
theorem b_Mean_word (T : Txt K mg A D) : Binds K D.Mean_word ["self"] [] := T.F_Mean_word.binds (ps := ["self"]) fun _ _ _ _ _ _ us hl => match us, hl with | [_], _ => rfl
theorem b_way_by (T : Txt K mg A D) : Binds K D.way_by ["word"] [] := T.F_way_by.binds (ps := ["word"]) fun _ _ _ _ _ _ us hl => match us, hl with | [_], _ => rfl
theorem b__law_taken (T : Txt K mg A D) : Binds K D._law_taken ["_law_row_here", "_law_picks_here"] [] := T.F__law_taken.binds (ps := ["_law_row_here", "_law_picks_here"]) fun _ _ _ _ _ _ us hl => match us, hl with | [_, _], _ => rfl
theorem b_Way_levelled (T : Txt K mg A D) : Binds K D.Way_levelled ["self", "lots"] [] := T.F_Way_levelled.binds (ps := ["self", "lots"]) fun _ _ _ _ _ _ us hl => match us, hl with | [_, _], _ => rfl
theorem b_sum_of_weights (T : Txt K mg A D) : Binds K D.sum_of_weights ["weights"] [] := T.F_sum_of_weights.binds (ps := ["weights"]) fun _ _ _ _ _ _ us hl => match us, hl with | [_], _ => rfl
theorem b_part_of (T : Txt K mg A D) : Binds K D.part_of ["amount", "part", "whole"] [] := T.F_part_of.binds (ps := ["amount", "part", "whole"]) fun _ _ _ _ _ _ us hl => match us, hl with | [_, _, _], _ => rfl
theorem b_dealt (T : Txt K mg A D) : Binds K D.dealt ["amount", "weights"] [] := T.F_dealt.binds (ps := ["amount", "weights"]) fun _ _ _ _ _ _ us hl => match us, hl with | [_, _], _ => rfl
theorem b_cost_in (T : Txt K mg A D) : Binds K D.cost_in ["lots"] [] := T.F_cost_in.binds (ps := ["lots"]) fun _ _ _ _ _ _ us hl => match us, hl with | [_], _ => rfl
theorem b_Mean_levelled (T : Txt K mg A D) : Binds K D.Mean_levelled ["self", "lots"] [] := T.F_Mean_levelled.binds (ps := ["self", "lots"]) fun _ _ _ _ _ _ us hl => match us, hl with | [_, _], _ => rfl
theorem b_Lot_taken (T : Txt K mg A D) : Binds K D.Lot_taken ["self", "pieces"] [] := T.F_Lot_taken.binds (ps := ["self", "pieces"]) fun _ _ _ _ _ _ us hl => match us, hl with | [_, _], _ => rfl
theorem b_NoLot___init__ (T : Txt K mg A D) : Binds K D.NoLot___init__ ["self", "number"] [] := T.F_NoLot___init__.binds (ps := ["self", "number"]) fun _ _ _ _ _ _ us hl => match us, hl with | [_, _], _ => rfl
theorem b_row_without (T : Txt K mg A D) : Binds K D.row_without ["lots", "picks"] [] := T.F_row_without.binds (ps := ["lots", "picks"]) fun _ _ _ _ _ _ us hl => match us, hl with | [_, _], _ => rfl
theorem b_picks_in_turn (T : Txt K mg A D) : Binds K D.picks_in_turn ["lots", "pieces"] [] := T.F_picks_in_turn.binds (ps := ["lots", "pieces"]) fun _ _ _ _ _ _ us hl => match us, hl with | [_, _], _ => rfl
theorem b_Eldest_picks (T : Txt K mg A D) : Binds K D.Eldest_picks ["self", "lots", "pieces"] [] := T.F_Eldest_picks.binds (ps := ["self", "lots", "pieces"]) fun _ _ _ _ _ _ us hl => match us, hl with | [_, _, _], _ => rfl
theorem b_Newest_picks (T : Txt K mg A D) : Binds K D.Newest_picks ["self", "lots", "pieces"] [] := T.F_Newest_picks.binds (ps := ["self", "lots", "pieces"]) fun _ _ _ _ _ _ us hl => match us, hl with | [_, _, _], _ => rfl
theorem b_Lot_is_dearer (T : Txt K mg A D) : Binds K D.Lot_is_dearer ["self", "other"] [] := T.F_Lot_is_dearer.binds (ps := ["self", "other"]) fun _ _ _ _ _ _ us hl => match us, hl with | [_, _], _ => rfl
theorem b_dearest_first (T : Txt K mg A D) : Binds K D.dearest_first ["lots"] [] := T.F_dearest_first.binds (ps := ["lots"]) fun _ _ _ _ _ _ us hl => match us, hl with | [_], _ => rfl
theorem b_Dearest_picks (T : Txt K mg A D) : Binds K D.Dearest_picks ["self", "lots", "pieces"] [] := T.F_Dearest_picks.binds (ps := ["self", "lots", "pieces"]) fun _ _ _ _ _ _ us hl => match us, hl with | [_, _, _], _ => rfl
theorem b_gone_from (T : Txt K mg A D) : Binds K D.gone_from ["way", "lots", "pieces", "named"] [] := T.F_gone_from.binds (ps := ["way", "lots", "pieces", "named"]) fun _ _ _ _ _ _ us hl => match us, hl with | [_, _, _, _], _ => rfl
theorem b__law_wrong (T : Txt K mg A D) : Binds K D._law_wrong ["_law_picks_here", "_law_row_here", "_law_cell_here"] [] := T.F__law_wrong.binds (ps := ["_law_picks_here", "_law_row_here", "_law_cell_here"]) fun _ _ _ _ _ _ us hl => match us, hl with | [_, _, _], _ => rfl
theorem b__law_even (T : Txt K mg A D) : Binds K D._law_even ["_law_row_here"] [] := T.F__law_even.binds (ps := ["_law_row_here"]) fun _ _ _ _ _ _ us hl => match us, hl with | [_], _ => rfl
theorem b__law_no_lot (T : Txt K mg A D) : Binds K D._law_no_lot ["_law_way", "_law_lots_here", "_law_pieces", "_law_named"] [] := T.F__law_no_lot.binds (ps := ["_law_way", "_law_lots_here", "_law_pieces", "_law_named"]) fun _ _ _ _ _ _ us hl => match us, hl with | [_, _, _, _], _ => rfl
theorem b_law (T : Txt K mg A D) : Binds K D.law ["_law_script"] [] := T.F_law.binds (ps := ["_law_script"]) fun _ _ _ _ _ _ us hl => match us, hl with | [_], _ => rfl
end
end My
namespace My
open PySem L2 PyProof.Rows
section
variable {P : Program} {w : World} {K : PySem.W.Frag} {mg : Str → Option Value} {base : Heap} {A : Adr} {D : Fds}
theorem head34 : True := True.intro
end
end My
namespace My
open PySem L2 PyProof.Rows
section
variable {P : Program} {w : World} {K : PySem.W.Frag} {mg : Str → Option Value} {base : Heap} {A : Adr} {D : Fds}
theorem abs_ediv_le {x w : Int} (hw : 0 < w) : (x / w).natAbs ≤ x.natAbs := by
  by_cases h : 0 ≤ x
  · have h1 : 0 ≤ x / w := Int.ediv_nonneg h (by omega)
    have h2 : x / w ≤ x := Int.ediv_le_self _ h
    omega
  · have h1 : x ≤ x / w := (Int.le_ediv_iff_mul_le hw).mpr (by
      have : x * w ≤ x * 1 := Int.mul_le_mul_of_nonpos_left (by omega) (by omega)
      omega)
    have h2 : x / w < 0 := Int.ediv_neg_of_neg_of_pos (by omega) hw
    omega
theorem abs_mul_lt {x y : Int} {m n k : Nat} (hx : x.natAbs < 2 ^ m) (hy : y.natAbs < 2 ^ n) (h : m + n ≤ k) : (x * y).natAbs < 2 ^ k := by
  rw [Int.natAbs_mul]
  have h1 : x.natAbs * y.natAbs < 2 ^ m * 2 ^ n := Nat.mul_lt_mul'' hx hy
  rw [← Nat.pow_add] at h1
  exact Nat.lt_of_lt_of_le h1 (Nat.pow_le_pow_right (by decide) h)
theorem abs_mono {x : Int} {m k : Nat} (hx : x.natAbs < 2 ^ m) (h : m ≤ k) : x.natAbs < 2 ^ k := Nat.lt_of_lt_of_le hx (Nat.pow_le_pow_right (by decide) h)
theorem abs_add_lt {x y : Int} {m k : Nat} (hx : x.natAbs < 2 ^ m) (hy : y.natAbs < 2 ^ m) (h : m + 1 ≤ k) : (x + y).natAbs < 2 ^ k := by
  have h1 : (x + y).natAbs ≤ x.natAbs + y.natAbs := Int.natAbs_add_le _ _
  have h2 : 2 ^ (m + 1) = 2 ^ m + 2 ^ m := by rw [Nat.pow_succ]; omega
  have h3 : 2 ^ (m + 1) ≤ 2 ^ k := Nat.pow_le_pow_right (by decide) h
  omega
def digs : Int → List Int → List Int
  | _, [] => []
  | c, b :: r => c % b :: digs (c / b) r
def aftr : Int → List Int → Int
  | c, [] => c
  | c, b :: r => aftr (c / b) r
theorem digs_snoc : ∀ (c : Int) (l : List Int) (b : Int), digs c (l ++ [b]) = digs c l ++ [aftr c l % b]
  | _, [], _ => rfl
  | c, x :: r, b => by show c % x :: digs (c / x) (r ++ [b]) = _; rw [digs_snoc]; rfl
theorem aftr_snoc : ∀ (c : Int) (l : List Int) (b : Int), aftr c (l ++ [b]) = aftr c l / b
  | _, [], _ => rfl
  | c, x :: r, b => by show aftr (c / x) (r ++ [b]) = _; rw [aftr_snoc]; rfl
theorem digs_length : ∀ (c : Int) (l : List Int), (digs c l).length = l.length
  | _, [] => rfl
  | c, x :: r => by show (digs (c / x) r).length + 1 = _; rw [digs_length]; rfl
def mixed (c k : Int) : Int :=
  (c + 7919 * k * k + k) * 982451653 % 2305843009213693951 * ((c + 7919 * k * k + k) * 982451653 % 2305843009213693951 * 1000003 % 1152921504606846883) *
    ((c + 7919 * k * k + k) * 982451653 % 2305843009213693951 / 4096 + (c + 7919 * k * k + k) * 982451653 % 2305843009213693951 * 1000003 % 1152921504606846883 / 64 + 1)
theorem mixed_bd (c k : Int) : 0 ≤ mixed c k ∧ mixed c k < 10 ^ 60 := by
  unfold mixed
  generalize hn : (c + 7919 * k * k + k) * 982451653 % 2305843009213693951 = n
  have n0 : 0 ≤ n := by rw [← hn]; exact Int.emod_nonneg _ (by decide)
  have n1 : n < 2305843009213693951 := by rw [← hn]; exact Int.emod_lt_of_pos _ (by decide)
  generalize ho : n * 1000003 % 1152921504606846883 = o
  have o0 : 0 ≤ o := by rw [← ho]; exact Int.emod_nonneg _ (by decide)
  have o1 : o < 1152921504606846883 := by rw [← ho]; exact Int.emod_lt_of_pos _ (by decide)
  generalize hf : n / 4096 + o / 64 + 1 = f
  have f0 : 0 ≤ f := by omega
  have f1 : f < 20000000000000000 := by omega
  have p0 : 0 ≤ n * o := Int.mul_nonneg n0 o0
  have p1 : n * o ≤ 2305843009213693951 * 1152921504606846883 := Int.mul_le_mul (by omega) (by omega) o0 (by decide)
  refine ⟨Int.mul_nonneg p0 f0, ?_⟩
  have q : n * o * f ≤ (2305843009213693951 * 1152921504606846883) * 20000000000000000 := Int.mul_le_mul p1 (by omega) f0 (by decide)
  exact Int.lt_of_le_of_lt q (by decide)
def manyOf (ns : List Int) : Int :=
  if (if (63 : Int) < (ns.length : Int) then (63 : Int) else (ns.length : Int)) < 3 + ns.headD 0 / 2 % 61 then 3 + ns.headD 0 / 2 % 61 else if (63 : Int) < (ns.length : Int) then (63 : Int) else (ns.length : Int)
theorem manyOf_bd (ns : List Int) : 3 ≤ manyOf ns ∧ manyOf ns ≤ 63 := by
  unfold manyOf
  split <;> split <;> omega
def cells (ns : List Int) : List Int :=
  if 0 < ns.length ∧ ns.headD 0 % 2 = 1 then (List.range (manyOf ns).toNat).map fun (k : Nat) => mixed (ns.getD (k % ns.length) 0) k else (ns.take 63).map fun c => c % 10 ^ 60
theorem cells_len (ns : List Int) : (cells ns).length ≤ 63 := by
  have := manyOf_bd ns
  unfold cells
  split
  · rw [List.length_map, List.length_range]; omega
  · rw [List.length_map, List.length_take]; omega
theorem cells_bd (ns : List Int) : ∀ c ∈ cells ns, 0 ≤ c ∧ c < 10 ^ 60 := by
  intro c hc
  unfold cells at hc
  split at hc
  · obtain ⟨k, _, rfl⟩ := List.mem_map.mp hc
    exact mixed_bd _ _
  · obtain ⟨k, _, rfl⟩ := List.mem_map.mp hc
    exact ⟨Int.emod_nonneg _ (by decide), Int.emod_lt_of_pos _ (by decide)⟩
theorem small60 {c : Int} (h0 : 0 ≤ c) (h1 : c < 10 ^ 60) : c.natAbs < 2 ^ 200 := by
  have e : c.natAbs = c.toNat := by omega
  have h2 : (10 : Int) ^ 60 ≤ ((2 ^ 200 : Nat) : Int) := by decide
  omega
def FreshInts (H : Hp) (Q : VK) (ns : List Int) : Prop := ∀ p H', Same H H' → H p = Option.none → H' p = some (.lst (ns.map V.int)) → Q (.ref p) H'
def sp__law_digits (K : PySem.W.Frag) : Sp := fun vs H Q _ => ∃ c l bs, vs = [.int c, .ref l] ∧ SqL K H l (bs.map V.int) ∧ (∀ b ∈ bs, CDivB 0 b) ∧ bs.length ≤ 1000 ∧ FreshInts H Q (digs c bs)
def sp__law_mixed : Sp := fun vs H Q _ => ∃ c k, vs = [.int c, .int k] ∧ 0 ≤ k ∧ k < 1000 ∧ Q (.int (mixed c k)) H
def sp__law_cells (K : PySem.W.Frag) : Sp := fun vs H Q _ => ∃ a ns, vs = [.ref a] ∧ SqL K H a (ns.map V.int) ∧ ns.length ≤ 63 ∧ FreshInts H Q (cells ns)
def sp__law_whole : Sp := fun vs H Q _ => ∃ i, vs = [.int i] ∧ Q (.bl true) H
def sp_law (K : PySem.W.Frag) : Sp := fun vs H Q _ => ∃ (a : Addr) (ns : List Int), vs = [.ref a] ∧ SqL K H a (ns.map V.int) ∧ ns.length ≤ 63 ∧ ∀ H', Q (.bl true) H'
theorem map_get {ns : List Int} {i : Nat} {y : V} (h : (ns.map V.int)[i]? = some y) : ∃ z, y = V.int z ∧ ns[i]? = some z := by
  rw [List.getElem?_map] at h
  cases e : ns[i]? with
  | none => rw [e] at h; cases h
  | some z => rw [e] at h; exact ⟨z, (Option.some.inj h).symm, rfl⟩
theorem tyL {K : PySem.W.Frag} {H : Hp} {p : Addr} {xs : List V} (h : SqL K H p xs) : tyV K "list" (.ref p) H := .inl ⟨rfl, _, h⟩
end
end My
namespace My
open PySem L2 PyProof.Rows
section
variable {P : Program} {w : World} {K : PySem.W.Frag} {mg : Str → Option Value} {base : Heap} {A : Adr} {D : Fds}
theorem dep_ints (xs : List Int) : depD (.lst (xs.map DV.int)) = 1 := by
  show depDs (xs.map DV.int) + 1 = 1
  rw [depDs_ints]
theorem rNeD_ints {H : Hp} {Q : VK} {p q : Addr} {xs ys : List Int} (h1 : SqL K H p (xs.map V.int)) (h2 : SqL K H q (ys.map V.int)) (hQ : Q (.bl (!decide (xs = ys))) H) : rNeD K (.ref p) (.ref q) H Q :=
  ⟨.lst (xs.map DV.int), .lst (ys.map DV.int), .lst h1 (repsD_ints K H xs), .lst h2 (repsD_ints K H ys), by rw [dep_ints]; decide, by rw [dep_ints]; decide, by rw [deqD_lst, deqDs_ints]; exact hQ⟩
theorem rEqD_ints {H : Hp} {Q : VK} {p q : Addr} {xs ys : List Int} (h1 : SqL K H p (xs.map V.int)) (h2 : SqL K H q (ys.map V.int)) (hQ : Q (.bl (decide (xs = ys))) H) : rEqD K (.ref p) (.ref q) H Q :=
  ⟨.lst (xs.map DV.int), .lst (ys.map DV.int), .lst h1 (repsD_ints K H xs), .lst h2 (repsD_ints K H ys), by rw [dep_ints]; decide, by rw [dep_ints]; decide, by rw [deqD_lst, deqDs_ints]; exact hQ⟩
theorem atI_map {ns : List Int} {i : Nat} {x : Int} {j : Int} (h : ns[i]? = some x) (e : j = (i : Int)) : atI (ns.map V.int) j = some (.int x) := by
  rw [e]
  refine atI_nat ?_
  rw [List.getElem?_map, h]
  rfl
end
end My
namespace My
open PySem L2 PyProof.Rows
section
variable {P : Program} {w : World} {K : PySem.W.Frag} {mg : Str → Option Value} {base : Heap} {A : Adr} {D : Fds}
theorem ok__law_whole (T : Txt K mg A D) : FnOk P w K mg base CX0 1 A._law_whole D._law_whole ["_law_found"] sp__law_whole := by
  refine T.F__law_whole.ok sc__law_whole (fun vs H Q E h => ?_) (fun cdv A outer s H vs Q E hr h => ?_)
  · obtain ⟨i, rfl, _⟩ := h; rfl
  · obtain ⟨i, rfl, k⟩ := h
    refine ⟨_, (pss_one (ps_ret (pe_and (pe_callB (call_isTK (K := K)) (by rfl) T.b_isinstance (by decide +kernel) (pa_cons (pv 0) (pa_cons (pe_ty "int" (by rfl) T.b_int (by decide +kernel)) pa_nil))) (pe_one (pe_not (pe_callB (call_isTK (K := K)) (by rfl) T.b_isinstance (by decide +kernel) (pa_cons (pv 0) (pa_cons (pe_ty "bool" (by rfl) T.b_bool (by decide +kernel)) pa_nil)))))))), ?_⟩
    walk_at "rd"
    refine ⟨_, .int i, true, by with_unfolding_all rfl, ?_⟩
    walk_at "rd"
    refine ⟨_, .int i, false, by with_unfolding_all rfl, ?_⟩
    walk_at "rd"
    exact k
end
end My
namespace My
open PySem L2 PyProof.Rows
section
variable {P : Program} {w : World} {K : PySem.W.Frag} {mg : Str → Option Value} {base : Heap} {A : Adr} {D : Fds}
structure LotD where
  n : Int
  s : Int
  p : Int
  c : Int
def LotD.fs (d : LotD) : List (Str × V) := [("number", .int d.n), ("since", .int d.s), ("pieces", .int d.p), ("cost", .int d.c)]
def LotD.is (d : LotD) : List Int := [d.n, d.s, d.p, d.c]
def LotD.vs (d : LotD) : List V := [.int d.n, .int d.s, .int d.p, .int d.c]
theorem LotD.vs_is (d : LotD) : d.vs = d.is.map V.int := rfl
def IsLot (A : Adr) (H : Hp) (x : Addr) (d : LotD) : Prop := ∃ dx, H x = some (.ins A.C_Lot dx d.fs)
theorem IsLot.same {H H' : Hp} {x : Addr} {d : LotD} (h : IsLot A H x d) (s : Same H H') : IsLot A H' x d := let ⟨dx, e⟩ := h; ⟨dx, s _ _ e⟩
theorem IsLot.but {H H' : Hp} {D : Addr} {x : Addr} {d : LotD} (h : IsLot A H x d) (hne : x ≠ D) (s : But D H H') : IsLot A H' x d := let ⟨dx, e⟩ := h; ⟨dx, s _ _ hne e⟩
def Bd (i : Int) : Prop := -(2 ^ 500) < i ∧ i < 2 ^ 500
theorem Bd.mul {i j : Int} (h : Bd i) (h' : Bd j) : CMulU i j := by
  have h1 := h.1; have h2 := h.2; have h3 := h'.1; have h4 := h'.2
  refine CMulU.big ?_ ?_
  · have : i.natAbs < 2 ^ 500 := by omega
    exact Nat.lt_of_lt_of_le this (Nat.pow_le_pow_right (by decide) (by decide))
  · have : j.natAbs < 2 ^ 500 := by omega
    exact Nat.lt_of_lt_of_le this (Nat.pow_le_pow_right (by decide) (by decide))
theorem putF_at {f : Str} {v : V} {fs : List (Str × V)} (ns : List Str) (e : fs.map (·.1) = ns) (h : ns.contains f = false) : putF f v fs = fs ++ [(f, v)] := putF_new f v (e ▸ h)
structure New (B H : Hp) (x : Addr) (C dx : Addr) (fs : List (Str × V)) : Prop where
  s : Same B H
  n : B x = Option.none
  h : H x = some (.ins C dx fs)
theorem New.put {B H : Hp} {x C dx : Addr} {fs gs : List (Str × V)} (h : New B H x C dx fs) (e : gs = gs) : New B (upd H x (.ins C dx gs)) x C dx gs := ⟨h.s.upd h.n, h.n, upd_same⟩
theorem new_mk {H : Hp} {x C dx : Addr} (hx : H x = Option.none) (hdx : H dx = Option.none) : New H (upd (upd H dx (.own x)) x (.ins C dx [])) x C dx [] := ⟨(Same.new hdx).upd hx, hx, upd_same⟩
def sp_Lot___init__ (A : Adr) : Sp := fun vs H Q _ => ∃ (x : Addr) (d : LotD) (B : Hp) (dx : Addr), vs = .ref x :: d.vs ∧ New B H x A.C_Lot dx [] ∧ ∀ H', New B H' x A.C_Lot dx d.fs → Q .non H'
theorem ok_Lot___init__ (T : Txt K mg A D) : FnOk P w K mg base CX0 1 A.Lot___init__ D.Lot___init__ ["self", "number", "since", "pieces", "cost"] (sp_Lot___init__ A) := by
  refine T.F_Lot___init__.ok sc_Lot___init__ (fun vs H Q E h => ?_) (fun cdv A' outer s H vs Q E hr h => ?_)
  · obtain ⟨x, d, B, dx, rfl, _⟩ := h; rfl
  · obtain ⟨x, ⟨n, s, p, c⟩, B, dx, rfl, hN, k⟩ := h
    refine ⟨_, (pss_cons (ps_fldK (K := K) (pv 0) (pv 1) rfl)
      (pss_cons (ps_fldK (K := K) (pv 0) (pv 2) rfl)
      (pss_cons (ps_fldK (K := K) (pv 0) (pv 3) rfl)
      (pss_one (ps_fldK (K := K) (pv 0) (pv 4) rfl))))), ?_⟩
    simp only [LotD.vs]
    walk_at "rda"
    refine ⟨_, dx, _, hN.h, T.cl_Lot, T.n_Lot_number, by decide, ?_⟩
    rw [putF_new _ _ (by decide +kernel)]
    have hN := hN.put (gs := [] ++ [(Str.ofString "number", V.int n)]) rfl
    refine ⟨_, dx, _, hN.h, T.cl_Lot, T.n_Lot_since, by simp, ?_⟩
    rw [putF_at (f := Str.ofString "since") ["number"] (by rfl) (by decide +kernel)]
    have hN := hN.put (gs := ([] ++ [(Str.ofString "number", V.int n)]) ++ [(Str.ofString "since", V.int s)]) rfl
    refine ⟨_, dx, _, hN.h, T.cl_Lot, T.n_Lot_pieces, by simp, ?_⟩
    rw [putF_at (f := Str.ofString "pieces") ["number", "since"] (by rfl) (by decide +kernel)]
    have hN := hN.put (gs := (([] ++ [(Str.ofString "number", V.int n)]) ++ [(Str.ofString "since", V.int s)]) ++ [(Str.ofString "pieces", V.int p)]) rfl
    refine ⟨_, dx, _, hN.h, T.cl_Lot, T.n_Lot_cost, by simp, ?_⟩
    rw [putF_at (f := Str.ofString "cost") ["number", "since", "pieces"] (by rfl) (by decide +kernel)]
    exact k _ (hN.put rfl)
def sp_Lot_told (A : Adr) : Sp := fun vs H Q _ => ∃ (x : Addr) (d : LotD), vs = [.ref x] ∧ IsLot A H x d ∧ ∀ t, H t = Option.none → Q (.ref t) (upd H t (.tup d.vs))
theorem ok_Lot_told (T : Txt K mg A D) : FnOk P w K mg base CX0 1 A.Lot_told D.Lot_told ["self"] (sp_Lot_told A) := by
  refine T.F_Lot_told.ok sc_Lot_told (fun vs H Q E h => ?_) (fun cdv A' outer s H vs Q E hr h => ?_)
  · obtain ⟨x, d, rfl, _⟩ := h; rfl
  · obtain ⟨x, ⟨n, s, p, c⟩, rfl, ⟨dx, hx⟩, k⟩ := h
    refine ⟨_, (pss_one (ps_ret (pe_tup (pa_cons (pe_fldK (K := K) (pv 0) rfl) (pa_cons (pe_fldK (K := K) (pv 0) rfl) (pa_cons (pe_fldK (K := K) (pv 0) rfl) (pa_cons (pe_fldK (K := K) (pv 0) rfl) pa_nil))))))), ?_⟩
    walk_at "rda"
    refine ⟨_, dx, _, hx, T.cl_Lot, T.n_Lot_number, _, by rfl, ?_⟩
    refine ⟨_, dx, _, hx, T.cl_Lot, T.n_Lot_since, _, by rfl, ?_⟩
    refine ⟨_, dx, _, hx, T.cl_Lot, T.n_Lot_pieces, _, by rfl, ?_⟩
    refine ⟨_, dx, _, hx, T.cl_Lot, T.n_Lot_cost, _, by rfl, ?_⟩
    exact ⟨by rw [sizeLine_eq]; decide, fun t ht => k t ht⟩
theorem spLot_of {R : Hp → Prop} {E : XK} {H : Hp} {x dx : Addr} (d : LotD) (hx : H x = Option.none) (hdx : H dx = Option.none) (k : ∀ H', Same H H' → IsLot A H' x d → R H') :
    sp_Lot___init__ A (.ref x :: d.vs) (upd (upd H dx (.own x)) x (.ins A.C_Lot dx [])) (fun v H2 => v = .non ∧ R H2) E :=
  ⟨x, d, H, dx, rfl, new_mk hx hdx, fun H' hN => ⟨rfl, k H' hN.s ⟨dx, hN.h⟩⟩⟩
end
end My
namespace My
open PySem L2 PyProof.Rows
section
variable {P : Program} {w : World} {K : PySem.W.Frag} {mg : Str → Option Value} {base : Heap} {A : Adr} {D : Fds}
local macro_rules | `(tactic| walk_at "nx") => `(tactic| ((try dsimp only); rw [ap_seq]; walk_at "rdi"))
def cellV (ns : List Int) (k : Nat) : Int := if k < ns.length then ns.getD k 0 else if ns = [] then 0 else (ns.getD (k % ns.length) 0 + k) * 48271 % 2147483647 * 69621 % 2147483629
def sp__law_cell (K : PySem.W.Frag) : Sp := fun vs H Q _ => ∃ (a : Addr) (ns : List Int) (k : Nat), vs = [.ref a, .int k] ∧ SqL K H a (ns.map V.int) ∧ ns.length ≤ 63 ∧ ∀ H', Same H H' → Q (.int (cellV ns k)) H'
theorem ints_at {ns : List Int} {k : Nat} (h : k < ns.length) : atI (ns.map V.int) (k : Int) = some (.int (ns.getD k 0)) := by
  refine atI_nat ?_
  rw [List.getElem?_map, List.getElem?_eq_getElem h, List.getD_eq_getElem?_getD, List.getElem?_eq_getElem h]
  rfl
theorem ok__law_cell (T : Txt K mg A D) : FnOk P w K mg base CX0 1 A._law_cell D._law_cell ["_law_script", "_law_k"] (sp__law_cell K) := by
  refine T.F__law_cell.ok sc__law_cell (fun vs H Q E h => ?_) (fun cdv A outer s H vs Q E hr h => ?_)
  · obtain ⟨a, ns, k', rfl, _⟩ := h; rfl
  · obtain ⟨a, ns, k', rfl, hS, hl, k⟩ := h
    refine ⟨_, (pss_cons (ps_if (pt_cmpR (op_lt) (pv 1) (pe_callB (call_lenK (K := K)) (by rfl) T.b_len (by decide +kernel) (pa_cons (pv 0) pa_nil)) (nomark _)) (pss_one (ps_ret (pe_ix (ix_listK (K := K)) (pv 0) (pv 1) (fun _ _ => rfl)))) pss_nil)
      (pss_cons (ps_if (pt_cmpR (op_eqDK (K := K) hr) (pv 0) (pe_lst pa_nil) (nomark _)) (pss_one (ps_ret pe_int)) pss_nil)
      (pss_one (ps_ret (pe_op op_mod (pe_op op_mulU (pe_op op_mod (pe_op op_mulU (pe_op op_add (pe_ix (ix_listK (K := K)) (pv 0) (pe_op op_mod (pv 1) (pe_callB (call_lenK (K := K)) (by rfl) T.b_len (by decide +kernel) (pa_cons (pv 0) pa_nil))) (fun _ _ => rfl)) (pv 1)) pe_int) pe_int) pe_int) pe_int))))), ?_⟩
    simp only [start_eq]
    walk_at "nx"
    refine ⟨_, .inl hS, ?_⟩
    rw [List.length_map]
    by_cases h : k' < ns.length
    · rw [if_pos (by omega)]
      have := k H (Same.refl H)
      rw [cellV, if_pos h] at this
      exact ⟨_, hS, _, ints_at h, this⟩
    · rw [if_neg (by omega)]
      walk_at "nx"
      refine ⟨by rw [sizeLine_eq]; decide, fun q hq => ?_⟩
      have s1 := Same.new (o := .lst []) hq
      have hq1 : (upd H q (.lst [])) q = some (.lst []) := upd_same
      generalize upd H q _ = H1 at s1 hq1
      refine rEqD_ints (ys := []) (s1.seq hS) (SqL.of hq1) ?_
      have kk := k H1 s1
      rw [cellV, if_neg h] at kk
      by_cases h0 : ns = []
      · rw [if_pos h0] at kk
        simp only [h0, decide_true]
        walk_at "rda"
        exact kk
      · rw [if_neg h0] at kk
        have hp : 0 < ns.length := List.length_pos_iff.mpr h0
        simp only [h0, decide_false]
        walk_at "rda"
        refine ⟨_, .inl (s1.seq hS), by rw [List.length_map]; omega, _, s1.seq hS, _, ?_, _, rfl, CMulU.r (by decide) (by decide), by decide, CMulU.r (by decide) (by decide), by decide, kk⟩
        rw [List.length_map, show ((k' : Int) % (ns.length : Int)) = ((k' % ns.length : Nat) : Int) by simp]
        exact ints_at (Nat.mod_lt _ hp)
end
end My
namespace My
open PySem L2 PyProof.Rows
section
variable {P : Program} {w : World} {K : PySem.W.Frag} {mg : Str → Option Value} {base : Heap} {A : Adr} {D : Fds}
local macro_rules | `(tactic| walk_at "nx") => `(tactic| ((try dsimp only); rw [ap_seq]; walk_at "rdi"))
abbrev RL := List (Addr × LotD)
def refsR (rs : RL) : List V := rs.map fun r => V.ref r.1
def RowAt (H : Hp) (rs : RL) : Prop := ∀ r ∈ rs, H r.1 = some (.tup r.2.vs)
def LotAt (A : Adr) (H : Hp) (rs : RL) : Prop := ∀ r ∈ rs, IsLot A H r.1 r.2
theorem RowAt.same {H H' : Hp} {rs : RL} (h : RowAt H rs) (s : Same H H') : RowAt H' rs := fun r hr => s _ _ (h r hr)
theorem LotAt.same {H H' : Hp} {rs : RL} (h : LotAt A H rs) (s : Same H H') : LotAt A H' rs := fun r hr => (h r hr).same s
structure Good (d : LotD) : Prop where
  n : 0 ≤ d.n ∧ d.n ≤ 1000000
  s : 0 ≤ d.s ∧ d.s ≤ 1000000
  p : 1 ≤ d.p ∧ d.p ≤ 1000000000
  c : 0 ≤ d.c ∧ d.c ≤ 1000000000000000000
theorem refsR_get {rs : RL} {i : Nat} {y : V} (h : (refsR rs)[i]? = some y) : ∃ r, rs[i]? = some r ∧ y = .ref r.1 := by
  unfold refsR at h
  rw [List.getElem?_map] at h
  cases e : rs[i]? with
  | none => rw [e] at h; cases h
  | some r => rw [e] at h; exact ⟨r, rfl, (Option.some.inj h).symm⟩
theorem refsR_len (rs : RL) : (refsR rs).length = rs.length := by unfold refsR; rw [List.length_map]
theorem get_mem {rs : RL} {i : Nat} {r : Addr × LotD} (h : rs[i]? = some r) : r ∈ rs := List.mem_of_getElem? h
theorem refs_of (F : V → Hp → Addr × LotD → Prop) {acc : List V} {H : Hp} : ∀ {ds : List LotD}, acc.length = ds.length → (∀ (i : Nat) v, acc[i]? = some v → ∃ b d, ds[i]? = some d ∧ v = .ref b ∧ F v H (b, d)) →
    ∃ rs : RL, acc = refsR rs ∧ rs.map (·.2) = ds ∧ ∀ r ∈ rs, F (.ref r.1) H r := by
  induction acc with
  | nil =>
    intro ds hl _
    cases ds with
    | nil => exact ⟨[], rfl, rfl, fun r h => by cases h⟩
    | cons _ _ => simp at hl
  | cons v acc ih =>
    intro ds hl h
    cases ds with
    | nil => simp at hl
    | cons d ds =>
      obtain ⟨b, d', e, rfl, hf⟩ := h 0 v rfl
      cases e
      obtain ⟨rs, e1, e2, e3⟩ := ih (ds := ds) (by simpa using hl) fun i v hv => h (i + 1) v hv
      refine ⟨(b, d) :: rs, by rw [e1]; rfl, by rw [List.map_cons, e2], fun r hr => ?_⟩
      rcases List.mem_cons.mp hr with rfl | hr
      · exact hf
      · exact e3 r hr
def sp__law_lots (K : PySem.W.Frag) (A : Adr) : Sp := fun vs H Q _ => ∃ (p : Addr) (rs : RL), vs = [.ref p] ∧ SqL K H p (refsR rs) ∧ RowAt H rs ∧ rs.length ≤ 100 ∧
  ∀ q ls H', Same H H' → H q = Option.none → H' q = some (.lst (refsR ls)) → ls.map (·.2) = rs.map (·.2) → LotAt A H' ls → Q (.ref q) H'
theorem ok__law_lots (T : Txt K mg A D) : FnOk P w K mg base CX0 3 A._law_lots D._law_lots ["_law_row_here"] (sp__law_lots K A) := by
  refine T.F__law_lots.ok sc__law_lots (fun vs H Q E h => ?_) (fun cdv A' outer s0 H vs Q E hr h => ?_)
  · obtain ⟨p, rs, rfl, _⟩ := h; rfl
  · obtain ⟨p, rs, rfl, hS, hR, hl, k⟩ := h
    refine ⟨_, (pss_one (ps_ret (pe_comp (cap := [Option.none, Option.none, Option.none, Option.none]) (N' := ["_law_number", "_law_since", "_law_pieces", "_law_cost"]) rfl (by walk_at "compok") (pi_listK (K := K) (pv 0)) (fun _ _ _ _ => (pg_tupK (K := K) (n := 4) rfl (pgs_cons (pg_name (i := 0) (show (["_law_number", "_law_since", "_law_pieces", "_law_cost"] : List Str).Nodup from by decide +kernel) rfl (Or.inl rfl) (Or.inr rfl)) (pgs_cons (pg_name (i := 1) (show (["_law_number", "_law_since", "_law_pieces", "_law_cost"] : List Str).Nodup from by decide +kernel) rfl (Or.inl rfl) (Or.inr rfl)) (pgs_cons (pg_name (i := 2) (show (["_law_number", "_law_since", "_law_pieces", "_law_cost"] : List Str).Nodup from by decide +kernel) rfl (Or.inl rfl) (Or.inr rfl)) (pgs_cons (pg_name (i := 3) (show (["_law_number", "_law_since", "_law_pieces", "_law_cost"] : List Str).Nodup from by decide +kernel) rfl (Or.inl rfl) (Or.inr rfl)) pgs_nil)))))) (fun _ _ _ _ => pts_nil) (fun _ _ _ _ => (pe_make T.mk_Lot (ok_Lot___init__ (K := K) T) (hr.mono (by decide)) (by rfl) T.m_Lot (b_Lot___init__ T) .nil pass0 (pa_cons (pv 0) (pa_cons (pv 1) (pa_cons (pv 2) (pa_cons (pv 3) pa_nil))))))))), ?_⟩
    walk_at "rda"
    refine ⟨⟨_, hS⟩, ?_⟩
    refine CompP.listE (fun σ => ∃ a b c d, σ = [a, b, c, d]) (fun i v H' => ∃ b r, rs[i]? = some r ∧ v = .ref b ∧ IsLot A H' b r.2) hS ⟨_, _, _, _, rfl⟩ (by rw [refsR_len, sizeLine_eq]; omega) ?_ ?_
    · rintro Da i x hx σ H5 R ⟨_, _, _, _, rfl⟩ sm hD ⟨acc, hA⟩ kk
      obtain ⟨r, hr', rfl⟩ := refsR_get hx
      have ht := sm _ _ (hR r (get_mem hr'))
      walk_at "rdi"
      refine ⟨_, SqT.of ht, rfl, _, _, rfl, _, _, rfl, _, _, rfl, _, _, rfl, rfl, ?_⟩
      intro x dx hx hdx _
      refine spLot_of r.2 hx hdx fun H6 s6 hL => kk (.ref x) _ H6 ⟨_, _, _, _, rfl⟩ s6 fun H' hb => ⟨x, r, hr', rfl, hL.but (fun e => by rw [e, hA] at hx; cases hx) hb⟩
    · intro Da H' acc hD sm hA hlen hF
      obtain ⟨ls, e1, e2, e3⟩ := refs_of (fun _ H r => IsLot A H r.1 r.2) (H := H') (acc := acc) (ds := rs.map (·.2)) (by rw [hlen, refsR_len, List.length_map]) fun i v hv => by
        obtain ⟨b, r, h1, h2, h3⟩ := hF i v hv
        exact ⟨b, r.2, by rw [List.getElem?_map, h1]; rfl, h2, h3⟩
      exact k Da ls H' sm hD (e1 ▸ hA) e2 e3
end
end My
namespace My
open PySem L2 PyProof.Rows
section
variable {P : Program} {w : World} {K : PySem.W.Frag} {mg : Str → Option Value} {base : Heap} {A : Adr} {D : Fds}
def sp_part_of : Sp := fun vs H Q _ => ∃ a p w : Int, vs = [.int a, .int p, .int w] ∧ CMulU a p ∧ CDivB 0 w ∧ Q (.int (a * p / w)) H
theorem ok_part_of (T : Txt K mg A D) : FnOk P w K mg base CX0 1 A.part_of D.part_of ["amount", "part", "whole"] sp_part_of := by
  refine T.F_part_of.ok sc_part_of (fun vs H Q E h => ?_) (fun cdv A outer s H vs Q E hr h => ?_)
  · obtain ⟨a, p, w', rfl, _⟩ := h; rfl
  · obtain ⟨a, p, w', rfl, h1, h2, k⟩ := h
    refine ⟨_, (pss_one (ps_ret (pe_op op_fdivB (pe_op op_mulU (pv 0) (pv 1)) (pv 2)))), ?_⟩
    walk_at "rd"
    exact ⟨h1, h2, k⟩
end
end My
namespace My
open PySem L2 PyProof.Rows
section
variable {P : Program} {w : World} {K : PySem.W.Frag} {mg : Str → Option Value} {base : Heap} {A : Adr} {D : Fds}
local macro_rules | `(tactic| walk_at "nx") => `(tactic| ((try dsimp only); rw [ap_seq]; walk_at "rdi"))
def sp_Lot_taken (A : Adr) : Sp := fun vs H Q _ => ∃ (x : Addr) (d : LotD) (p : Int), vs = [.ref x, .int p] ∧ IsLot A H x d ∧ CMulU d.c p ∧ CDivB 0 d.p ∧
  ∀ t y v H', Same H H' → H t = Option.none → H' t = some (.tup [.ref y, v]) → IsLot A H' y ⟨d.n, d.s, p, d.c * p / d.p⟩ → (p = d.p → v = .non) → (p ≠ d.p → ∃ z, v = .ref z ∧ IsLot A H' z ⟨d.n, d.s, d.p - p, d.c - d.c * p / d.p⟩) → Q (.ref t) H'
theorem ok_Lot_taken (T : Txt K mg A D) : FnOk P w K mg base CX0 3 A.Lot_taken D.Lot_taken ["self", "pieces"] (sp_Lot_taken A) := by
  refine T.F_Lot_taken.ok sc_Lot_taken (fun vs H Q E h => ?_) (fun cdv A' outer s H vs Q E hr h => ?_)
  · obtain ⟨x, d, p, rfl, _⟩ := h; rfl
  · obtain ⟨x, ⟨n, s, p, c⟩, p', rfl, ⟨dx, hx⟩, m1, m2, k⟩ := h
    refine ⟨_, (pss_cons (ps_set (i := 2) sc_Lot_taken.nd rfl (Or.inl rfl) (pe_call (ok_part_of (K := K) T) (hr.mono (by decide)) (by rfl) T.m_part_of T.k_part_of (b_part_of T) .nil pass0 (pa_cons (pe_fldK (K := K) (pv 0) rfl) (pa_cons (pv 1) (pa_cons (pe_fldK (K := K) (pv 0) rfl) pa_nil)))))
      (pss_cons (ps_set (i := 3) sc_Lot_taken.nd rfl (Or.inl rfl) (pe_make T.mk_Lot (ok_Lot___init__ (K := K) T) (hr.mono (by decide)) (by rfl) T.m_Lot (b_Lot___init__ T) .nil pass0 (pa_cons (pe_fldK (K := K) (pv 0) rfl) (pa_cons (pe_fldK (K := K) (pv 0) rfl) (pa_cons (pv 1) (pa_cons (pv 2) pa_nil))))))
      (pss_cons (ps_if (pt_cmpR (op_eq) (pv 1) (pe_fldK (K := K) (pv 0) rfl) (nomark _)) (pss_one (ps_ret (pe_tup (pa_cons (pv 3) (pa_cons pe_non pa_nil))))) pss_nil)
      (pss_one (ps_ret (pe_tup (pa_cons (pv 3) (pa_cons (pe_make T.mk_Lot (ok_Lot___init__ (K := K) T) (hr.mono (by decide)) (by rfl) T.m_Lot (b_Lot___init__ T) .nil pass0 (pa_cons (pe_fldK (K := K) (pv 0) rfl) (pa_cons (pe_fldK (K := K) (pv 0) rfl) (pa_cons (pe_op op_sub (pe_fldK (K := K) (pv 0) rfl) (pv 1)) (pa_cons (pe_op op_sub (pe_fldK (K := K) (pv 0) rfl) (pv 2)) pa_nil))))) pa_nil)))))))), ?_⟩
    simp only [start_eq]
    walk_at "nx"
    refine ⟨_, dx, _, hx, T.cl_Lot, T.n_Lot_cost, _, by rfl, _, dx, _, hx, T.cl_Lot, T.n_Lot_pieces, _, by rfl, c, p', p, rfl, m1, m2, ?_⟩
    walk_at "nx"
    refine ⟨_, dx, _, hx, T.cl_Lot, T.n_Lot_number, _, by rfl, _, dx, _, hx, T.cl_Lot, T.n_Lot_since, _, by rfl, fun y dy hy hdy _ => ?_⟩
    refine spLot_of (A := A) ⟨n, s, p', c * p' / p⟩ hy hdy fun H1 s1 hY => ?_
    have hx1 := s1 _ _ hx
    walk_at "nx"
    refine ⟨_, dx, _, hx1, T.cl_Lot, T.n_Lot_pieces, _, by rfl, rfl, ?_⟩
    by_cases e : p' = p
    · rw [if_pos (by simp [e])]
      refine ⟨by rw [sizeLine_eq]; decide, fun t ht => k t y .non _ (s1.trans (Same.new ht)) (s1.free ht) upd_same (hY.same (Same.new ht)) (fun _ => rfl) fun h => (h e).elim⟩
    · rw [if_neg (by simp [e])]
      refine ⟨_, dx, _, hx1, T.cl_Lot, T.n_Lot_number, _, by rfl, _, dx, _, hx1, T.cl_Lot, T.n_Lot_since, _, by rfl, _, dx, _, hx1, T.cl_Lot, T.n_Lot_pieces, _, by rfl, _, rfl, _, dx, _, hx1, T.cl_Lot, T.n_Lot_cost, _, by rfl, _, rfl, fun z dz hz hdz _ => ?_⟩
      refine spLot_of (A := A) ⟨n, s, p - p', c - c * p' / p⟩ hz hdz fun H2 s2 hZ => ⟨by rw [sizeLine_eq]; decide, fun t ht => ?_⟩
      exact k t y (.ref z) _ (s1.trans (s2.trans (Same.new ht))) ((s1.trans s2).free ht) upd_same (hY.same (s2.trans (Same.new ht))) (fun h => (e h).elim) fun _ => ⟨z, rfl, hZ.same (Same.new ht)⟩
end
end My
namespace My
open PySem L2 PyProof.Rows
section
variable {P : Program} {w : World} {K : PySem.W.Frag} {mg : Str → Option Value} {base : Heap} {A : Adr} {D : Fds}
abbrev Pk := List (Int × Int)
def leftD (ks : Pk) (d : LotD) : LotD := match ks.lookup d.n with
  | some w => ⟨d.n, d.s, d.p - w, d.c - d.c * w / d.p⟩
  | Option.none => d
def someD (ds : List LotD) (k : Int × Int) : LotD := match ds.find? (fun d => d.n == k.1) with
  | some d => ⟨d.n, d.s, k.2, d.c * k.2 / d.p⟩
  | Option.none => ⟨0, 0, 0, 0⟩
def leftR (ks : Pk) (ds : List LotD) : List LotD := (ds.map (leftD ks)).filter fun d => decide (0 < d.p)
structure RowOk (ds : List LotD) : Prop where
  u : (ds.map LotD.n).Nodup
  g : ∀ d ∈ ds, (1 ≤ d.p ∧ d.p ≤ 100000000000) ∧ 0 ≤ d.c ∧ d.c ≤ 100000000000000000000
  l : ds.length ≤ 40
structure PkOk (ds : List LotD) (ks : Pk) : Prop where
  u : (ks.map (·.1)).Nodup
  h : ∀ k ∈ ks, ∃ d ∈ ds, d.n = k.1 ∧ 1 ≤ k.2 ∧ k.2 ≤ d.p
def kz (ds : List LotD) (vs : List V) : List (Key × V) := List.zipWith (fun d v => ((Sum.inl d.n : Key), v)) ds vs
theorem kz_val : ∀ {ds : List LotD} {vs : List V} {j : Nat} {d : LotD} {v : V}, (ds.map LotD.n).Nodup → ds[j]? = some d → vs[j]? = some v → valV (kz ds vs) (Sum.inl d.n) = some v
  | [], _, _, _, _, _, h, _ => by simp at h
  | _ :: _, [], _, _, _, _, _, h => by simp at h
  | d0 :: ds, v0 :: vs, 0, d, v, _, h1, h2 => by
    cases h1; cases h2
    exact valV_pos rfl
  | d0 :: ds, v0 :: vs, j + 1, d, v, hu, h1, h2 => by
    rw [List.map_cons, List.nodup_cons] at hu
    have h1' : ds[j]? = some d := h1
    have hne : ¬ ((Sum.inl d0.n : Key) = Sum.inl d.n) := fun e => hu.1 (by
      have e' : d0.n = d.n := Sum.inl.inj e
      rw [e']
      exact List.mem_map.mpr ⟨d, List.mem_of_getElem? h1', rfl⟩)
    show valV ((Sum.inl d0.n, v0) :: kz ds vs) _ = _
    rw [valV_neg hne]
    exact kz_val hu.2 h1' h2
theorem kz_map : ∀ {ds : List LotD} {vs : List V} {j : Nat} {d : LotD} {v' : V}, (ds.map LotD.n).Nodup → ds[j]? = some d → (kz ds vs).map (fun kv => if kv.1 = (Sum.inl d.n : Key) then (kv.1, v') else kv) = kz ds (vs.set j v')
  | [], _, _, _, _, _, h => by simp at h
  | d0 :: ds, [], j, d, v', _, _ => by simp [kz]
  | d0 :: ds, v0 :: vs, 0, d, v', hu, h1 => by
    cases h1
    rw [List.map_cons, List.nodup_cons] at hu
    show (if (Sum.inl d0.n : Key) = Sum.inl d0.n then ((Sum.inl d0.n : Key), v') else _) :: (kz ds vs).map _ = (Sum.inl d0.n, v') :: kz ds vs
    rw [if_pos rfl]
    congr 1
    refine (List.map_congr_left fun kv hkv => ?_).trans (List.map_id _)
    rw [if_neg]
    · rfl
    · intro e
      obtain ⟨i, hi, e2⟩ := List.getElem_of_mem hkv
      have hd : i < ds.length := by simp [kz] at hi; omega
      have : kv.1 = Sum.inl ds[i].n := by rw [← e2]; simp [kz]
      rw [this] at e
      exact hu.1 (by rw [← Sum.inl.inj e]; exact List.mem_map.mpr ⟨ds[i], List.getElem_mem hd, rfl⟩)
  | d0 :: ds, v0 :: vs, j + 1, d, v', hu, h1 => by
    rw [List.map_cons, List.nodup_cons] at hu
    have h1' : ds[j]? = some d := h1
    have hne : ¬ ((Sum.inl d0.n : Key) = Sum.inl d.n) := fun e => hu.1 (by
      have e' : d0.n = d.n := Sum.inl.inj e
      rw [e']
      exact List.mem_map.mpr ⟨d, List.mem_of_getElem? h1', rfl⟩)
    show (if (Sum.inl d0.n : Key) = Sum.inl d.n then _ else ((Sum.inl d0.n : Key), v0)) :: (kz ds vs).map _ = (Sum.inl d0.n, v0) :: kz ds (vs.set j v')
    rw [if_neg hne, kz_map hu.2 h1']
theorem kz_put {ds : List LotD} {vs : List V} {j : Nat} {d : LotD} {v v' : V} (hu : (ds.map LotD.n).Nodup) (h1 : ds[j]? = some d) (h2 : vs[j]? = some v) : putK (kz ds vs) (Sum.inl d.n) v' = kz ds (vs.set j v') := by
  unfold putK
  rw [if_pos (by rw [valV_any, kz_val hu h1 h2]; rfl)]
  exact kz_map hu h1
theorem kz_none : ∀ {ds : List LotD} {vs : List V} {n : Int}, n ∉ ds.map LotD.n → valV (kz ds vs) (Sum.inl n) = Option.none
  | [], _, _, _ => rfl
  | _ :: _, [], _, _ => rfl
  | d :: ds, v :: vs, n, h => by
    rw [List.map_cons, List.mem_cons, not_or] at h
    show valV ((Sum.inl d.n, v) :: kz ds vs) _ = _
    rw [valV_neg (fun e => h.1 (Sum.inl.inj e).symm)]
    exact kz_none h.2
theorem kz_new {ds : List LotD} {vs : List V} {d : LotD} {v : V} (hl : vs.length = ds.length) (h : d.n ∉ ds.map LotD.n) : putK (kz ds vs) (Sum.inl d.n) v = kz (ds ++ [d]) (vs ++ [v]) := by
  unfold putK
  rw [if_neg (by rw [valV_any, kz_none h]; simp)]
  unfold kz
  rw [List.zipWith_append hl.symm]
  rfl
theorem kz_vals : ∀ {ds : List LotD} {vs : List V}, vs.length = ds.length → (kz ds vs).map (·.2) = vs
  | [], [], _ => rfl
  | [], _ :: _, h => by simp at h
  | _ :: _, [], h => by simp at h
  | d :: ds, v :: vs, h => by
    show v :: (kz ds vs).map (·.2) = _
    rw [kz_vals (by simpa using h)]
theorem kz_len {ds : List LotD} {vs : List V} (h : vs.length = ds.length) : (kz ds vs).length = ds.length := by simp [kz, h]
theorem look_none {ks : Pk} {n : Int} (h : n ∉ ks.map (·.1)) : ks.lookup n = Option.none := by
  induction ks with
  | nil => rfl
  | cons k ks ih =>
    rw [List.map_cons, List.mem_cons, not_or] at h
    have e : (n == k.1) = false := by simpa using h.1
    obtain ⟨a, b⟩ := k
    show (match n == a with | true => some b | false => ks.lookup n) = _
    rw [show (n == a) = false from e]
    exact ih h.2
theorem look_snoc {ks : Pk} {n w : Int} (m : Int) : (ks ++ [(n, w)]).lookup m = match ks.lookup m with | some x => some x | Option.none => if m = n then some w else Option.none := by
  induction ks with
  | nil =>
    show (match m == n with | true => some w | false => Option.none) = _
    by_cases e : m = n
    · simp [e]
    · have e' : (m == n) = false := by simpa using e
      rw [e']
      simp [e]
  | cons k ks ih =>
    obtain ⟨a, b⟩ := k
    show (match m == a with | true => some b | false => (ks ++ [(n, w)]).lookup m) = match (match m == a with | true => some b | false => ks.lookup m) with | some x => some x | Option.none => _
    cases m == a with
    | true => rfl
    | false => exact ih
theorem left_same {ks : Pk} {n w : Int} {d : LotD} (h : d.n ≠ n) : leftD (ks ++ [(n, w)]) d = leftD ks d := by
  unfold leftD
  rw [look_snoc]
  cases ks.lookup d.n with
  | none => simp [h]
  | some x => rfl
theorem left_new {ks : Pk} {w : Int} {d : LotD} (h : d.n ∉ ks.map (·.1)) : leftD (ks ++ [(d.n, w)]) d = ⟨d.n, d.s, d.p - w, d.c - d.c * w / d.p⟩ := by
  unfold leftD
  rw [look_snoc, look_none h]
  simp
theorem left_old {ks : Pk} {d : LotD} (h : d.n ∉ ks.map (·.1)) : leftD ks d = d := by
  unfold leftD
  rw [look_none h]
theorem some_at {ds : List LotD} {d : LotD} {w : Int} (hu : (ds.map LotD.n).Nodup) (h : d ∈ ds) : someD ds (d.n, w) = ⟨d.n, d.s, w, d.c * w / d.p⟩ := by
  have : ds.find? (fun e => e.n == d.n) = some d := by
    induction ds with
    | nil => cases h
    | cons e ds ih =>
      rw [List.map_cons, List.nodup_cons] at hu
      rcases List.mem_cons.mp h with rfl | h
      · simp
      · have : e.n ≠ d.n := fun z => hu.1 (by rw [z]; exact List.mem_map.mpr ⟨d, h, rfl⟩)
        rw [List.find?_cons_of_neg (by simpa using this)]
        exact ih hu.2 h
  unfold someD
  rw [this]
theorem nodup_at {ks : Pk} {i : Nat} {k : Int × Int} (h : (ks.map (·.1)).Nodup) (e : ks[i]? = some k) : k.1 ∉ (ks.take i).map (·.1) := by
  intro hm
  have h2 : ks.map (·.1) = (ks.take i).map (·.1) ++ (ks.drop i).map (·.1) := by rw [← List.map_append, List.take_append_drop]
  rw [h2] at h
  exact (List.nodup_append.mp h).2.2 _ hm k.1 (List.mem_map.mpr ⟨k, by rw [List.mem_iff_getElem?]; exact ⟨0, by rw [List.getElem?_drop]; exact e⟩, rfl⟩) rfl
theorem nodup_le2 : ∀ {l k : List Int}, l.Nodup → (∀ x ∈ l, x ∈ k) → l.length ≤ k.length
  | [], _, _, _ => Nat.zero_le _
  | x :: l, k, h, s => by
    have h' := List.nodup_cons.mp h
    have hx : x ∈ k := s x (.head _)
    have := nodup_le2 (l := l) (k := k.erase x) h'.2 fun y hy => (List.mem_erase_of_ne (fun e => by subst e; exact h'.1 hy)).mpr (s y (.tail _ hy))
    rw [List.length_erase_of_mem hx] at this
    have hp : 0 < k.length := List.length_pos_of_mem hx
    rw [List.length_cons]
    omega
end
end My
namespace My
open PySem L2 PyProof.Rows
section
variable {P : Program} {w : World} {K : PySem.W.Frag} {mg : Str → Option Value} {base : Heap} {A : Adr} {D : Fds}
local macro_rules | `(tactic| walk_at "nx") => `(tactic| ((try dsimp only); rw [ap_seq]; walk_at "rdi"))
theorem ok_NoLot___init__ (T : Txt K mg A D) : FnOk P w K mg base CX0 1 A.NoLot___init__ D.NoLot___init__ ["self", "number"] (sp_xini A.C_NoLot "number") := by
  refine T.F_NoLot___init__.ok sc_NoLot___init__ (fun vs H Q E h => ?_) (fun cdv A' outer s0 H vs Q E hr h => ?_)
  · obtain ⟨e, n, rfl, _⟩ := h; rfl
  · obtain ⟨e, n, rfl, hn, hH, k⟩ := h
    refine ⟨_, (pss_cons (ps_expr (pe_xiniK (K := K) T.ini_LotError (by rfl) T.m_LotError (pa_cons (pv 0) (pa_cons (pe_fstrI3 (pv 1)) pa_nil))))
      (pss_one (ps_xfldK (K := K) (pv 0) (pv 1) rfl))), ?_⟩
    simp only [start_eq]
    walk_at "nx"
    exact ⟨hn, fun z _ => ⟨_, hH, _, T.xi_NoLot, _, hH, _, T.xi_NoLot, T.n_NoLot_number, fun d hd hde => k d hd hde⟩⟩
end
end My
namespace My
open PySem L2 PyProof.Rows
section
variable {P : Program} {w : World} {K : PySem.W.Frag} {mg : Str → Option Value} {base : Heap} {A : Adr} {D : Fds}
local macro_rules | `(tactic| walk_at "nx") => `(tactic| ((try dsimp only); rw [ap_seq]; walk_at "rdi"))
abbrev PL := List (Addr × Int × Int)
def refsP (ps : PL) : List V := ps.map fun r => V.ref r.1
def PkAt (H : Hp) (ps : PL) : Prop := ∀ r ∈ ps, H r.1 = some (.tup [.int r.2.1, .int r.2.2])
theorem PkAt.same {H H' : Hp} {ps : PL} (h : PkAt H ps) (s : Same H H') : PkAt H' ps := fun r hr => s _ _ (h r hr)
theorem refsP_get {ps : PL} {i : Nat} {y : V} (h : (refsP ps)[i]? = some y) : ∃ r, ps[i]? = some r ∧ y = .ref r.1 := by
  unfold refsP at h
  rw [List.getElem?_map] at h
  cases e : ps[i]? with
  | none => rw [e] at h; cases h
  | some r => rw [e] at h; exact ⟨r, rfl, (Option.some.inj h).symm⟩
theorem refsP_len (ps : PL) : (refsP ps).length = ps.length := by unfold refsP; rw [List.length_map]
theorem IsLot.put {H : Hp} {x l : Addr} {d : LotD} {o : HO} (h : IsLot A H x d) (hl : ∀ C dx fs, H l ≠ some (.ins C dx fs)) : IsLot A (upd H l o) x d := by
  obtain ⟨dx, e⟩ := h
  exact ⟨dx, (upd_ne fun z => hl _ _ _ (z ▸ e)).trans e⟩
def OkV (A : Adr) (H : Hp) (d : LotD) (v : V) : Prop := (0 < d.p ∧ ∃ x, v = .ref x ∧ IsLot A H x d) ∨ (d.p = 0 ∧ v = .non)
theorem OkV.same {H H' : Hp} {d : LotD} {v : V} (h : OkV A H d v) (s : Same H H') : OkV A H' d v := h.imp (fun ⟨a, x, e, l⟩ => ⟨a, x, e, l.same s⟩) id
theorem OkV.put {H : Hp} {d : LotD} {v : V} {l : Addr} {o : HO} (h : OkV A H d v) (hl : ∀ C dx fs, H l ≠ some (.ins C dx fs)) : OkV A (upd H l o) d v := h.imp (fun ⟨a, x, e, i⟩ => ⟨a, x, e, i.put hl⟩) id
theorem okv_fil {H : Hp} : ∀ {ds : List LotD} {vs : List V}, vs.length = ds.length → (∀ (j : Nat) d v, ds[j]? = some d → vs[j]? = some v → OkV A H d v) → ∃ l2 : RL, (vs.filter fun v => decide (v ≠ .non)) = refsR l2 ∧ l2.map (·.2) = (ds.filter fun d => decide (0 < d.p)) ∧ LotAt A H l2
  | [], [], _, _ => ⟨[], rfl, rfl, fun r h => (List.not_mem_nil h).elim⟩
  | [], _ :: _, h, _ => by simp at h
  | _ :: _, [], h, _ => by simp at h
  | d :: ds, v :: vs, hl, h => by
    obtain ⟨l2, e1, e2, e3⟩ := okv_fil (ds := ds) (vs := vs) (by simpa using hl) fun j d v h1 h2 => h (j + 1) d v h1 h2
    rcases h 0 d v rfl rfl with ⟨hp, x, rfl, hx⟩ | ⟨hp, rfl⟩
    · refine ⟨(x, d) :: l2, ?_, ?_, fun r hr => ?_⟩
      · rw [List.filter_cons_of_pos (by simp), e1]; rfl
      · rw [List.filter_cons_of_pos (by simpa using hp), List.map_cons, e2]
      · rcases List.mem_cons.mp hr with rfl | hr
        · exact hx
        · exact e3 r hr
    · refine ⟨l2, ?_, ?_, e3⟩
      · rw [List.filter_cons_of_neg (by simp), e1]
      · rw [List.filter_cons_of_neg (by simp [hp]), e2]
def kfH (H : Hp) : V → Key
  | .ref b => match H b with
    | some (.tup [.int n, _]) => Sum.inl n
    | _ => Sum.inl 0
  | _ => Sum.inl 0
def vfH (H : Hp) : V → V
  | .ref b => match H b with
    | some (.tup [_, v]) => v
    | _ => .non
  | _ => .non
theorem kfH_at {H : Hp} {b : Addr} {n : Int} {v : V} (h : H b = some (.tup [.int n, v])) : kfH H (.ref b) = Sum.inl n := by
  show (match H b with | some (.tup [.int n, _]) => Sum.inl n | _ => Sum.inl 0) = _
  rw [h]
theorem vfH_at {H : Hp} {b : Addr} {n : Int} {v : V} (h : H b = some (.tup [.int n, v])) : vfH H (.ref b) = v := by
  show (match H b with | some (.tup [_, v]) => v | _ => .non) = _
  rw [h]
theorem fold_kz {H : Hp} : ∀ {ls : RL} {ys : List V} {pre : RL}, ys.length = ls.length → (∀ (i : Nat) y, ys[i]? = some y → ∃ b l, ls[i]? = some l ∧ y = .ref b ∧ H b = some (.tup [.int l.2.n, .ref l.1])) → ((pre ++ ls).map fun r => r.2.n).Nodup →
    ys.foldl (fun a y => putK a (kfH H y) (vfH H y)) (kz (pre.map (·.2)) (refsR pre)) = kz ((pre ++ ls).map (·.2)) (refsR (pre ++ ls))
  | [], [], pre, _, _, _ => by rw [List.append_nil]; rfl
  | [], _ :: _, _, h, _, _ => by simp at h
  | _ :: _, [], _, h, _, _ => by simp at h
  | l :: ls, y :: ys, pre, hl, h, hu => by
    obtain ⟨b, l', e1, rfl, hb⟩ := h 0 y rfl
    cases e1
    rw [List.foldl_cons, kfH_at hb, vfH_at hb]
    have hn : l.2.n ∉ (pre.map (·.2)).map LotD.n := by
      rw [List.map_append, List.map_cons] at hu
      intro hm
      rw [List.map_map] at hm
      exact (List.nodup_append.mp hu).2.2 _ hm _ List.mem_cons_self rfl
    rw [kz_new (by rw [refsR_len, List.length_map]) hn]
    have e2 : pre.map (·.2) ++ [l.2] = (pre ++ [l]).map (·.2) := by rw [List.map_append]; rfl
    have e3 : refsR pre ++ [V.ref l.1] = refsR (pre ++ [l]) := by unfold refsR; rw [List.map_append]; rfl
    have e4 : pre ++ l :: ls = (pre ++ [l]) ++ ls := by simp
    rw [e2, e3, e4]
    exact fold_kz (by simpa using hl) (fun i y hy => h (i + 1) y hy) (e4 ▸ hu)
def badPk (ds : List LotD) (k : Int × Int) : Prop := ∀ d ∈ ds, d.n = k.1 → d.p < k.2
def sp_row_without (A : Adr) : Sp := fun vs H Q E => ∃ (q pk : Addr) (ls : RL) (ps : PL) (m : Nat), vs = [.ref q, .ref pk] ∧ H q = some (.lst (refsR ls)) ∧ LotAt A H ls ∧ H pk = some (.lst (refsP ps)) ∧ PkAt H ps ∧ RowOk (ls.map (·.2)) ∧ PkOk (ls.map (·.2)) ((ps.map (·.2)).take m) ∧
  ((m = ps.length ∧ ∀ t la lb l1 l2 H', Same H H' → H' t = some (.tup [.ref la, .ref lb]) → H' la = some (.lst (refsR l1)) → H' lb = some (.lst (refsR l2)) → LotAt A H' l1 → LotAt A H' l2 → l1.map (·.2) = (ps.map (·.2)).map (someD (ls.map (·.2))) → l2.map (·.2) = leftR (ps.map (·.2)) (ls.map (·.2)) →
    H la = Option.none → H lb = Option.none → la ≠ lb → Q (.ref t) H') ∨
  (∃ k, (ps.map (·.2))[m]? = some k ∧ k.1.natAbs < 2 ^ 300 ∧ k.1 ∉ ((ps.map (·.2)).take m).map (·.1) ∧ badPk (ls.map (·.2)) k ∧ ∀ d H', Same H H' → H' d = some (.xd [("number", .int k.1)]) → E (.ref A.C_NoLot) (some d) H'))
theorem ok_row_without (T : Txt K mg A D) : FnOk P w K mg base (CX1 P w) 4 A.row_without D.row_without ["lots", "picks"] (sp_row_without A) := by
  refine T.F_row_without.okX sc_row_without (fun vs H Q E h => ?_) (fun cdv A' outer s0 H vs Q E hr h => ?_)
  · obtain ⟨q, pk, ls, ps, m, rfl, _⟩ := h; rfl
  · obtain ⟨q, pk, ls, ps, m, rfl, hq, hL, hpk, hP, hR, hK, kk0⟩ := h
    refine ⟨_, (pss_cons (ps_set (i := 2) sc_row_without.nd rfl (Or.inl rfl) (pe_callTy (call_dictPairsK (K := K) rfl) (by rfl) T.b_dict (by decide +kernel) (pa_cons (pe_comp (cap := [Option.none]) (N' := ["lot"]) rfl (by walk_at "compok") (pi_listK (K := K) (pv 0)) (fun _ _ _ _ => (pg_name (i := 0) (show (["lot"] : List Str).Nodup from by decide +kernel) rfl (Or.inl rfl) (Or.inr rfl))) (fun _ _ _ _ => pts_nil) (fun _ _ _ _ => (pe_tup (pa_cons (pe_fldK (K := K) (pv 0) rfl) (pa_cons (pv 0) pa_nil))))) pa_nil)))
      (pss_cons (ps_set (i := 3) sc_row_without.nd rfl (Or.inl rfl) (pe_lst pa_nil))
      (pss_cons (ps_for PassesOwn.leaving rfl (pi_listK (K := K) (pv 1)) (pg_tupK (K := K) (n := 2) rfl (pgs_cons (pg_name (i := 4) sc_row_without.nd rfl (Or.inl rfl)) (pgs_cons (pg_name (i := 5) sc_row_without.nd rfl (Or.inl rfl)) pgs_nil)))
        (pss_cons (ps_set (i := 6) sc_row_without.nd rfl (Or.inl rfl) (pe_dget1 (hu_of hr) (pv 2) (pv 4) ⟨rfl, rfl, rfl, rfl⟩))
        (pss_cons (ps_if (PW.pt (pw_or (pt_cmpR (op_isN) (pv 6) pe_non (nomark _)) (pw_or1 (pt_cmpR (op_lt) (pe_fldK (K := K) (pv 6) rfl) (pv 5) (nomark _))))) (pss_one (ps_raiseF raisesF_cx rfl T.xi_NoLot (ok_NoLot___init__ (K := K) T) (hr.mono (by decide)) (by rfl) T.m_NoLot (b_NoLot___init__ T) (pa_cons (pv 4) pa_nil))) pss_nil)
        (pss_cons (ps_set (i := 7) sc_row_without.nd rfl (Or.inl rfl) (pe_methD (pv 6) (.cons T.cl_Lot T.me_Lot_taken (ok_Lot_taken (K := K) T) (hr.mono (by decide)) (b_Lot_taken T) .nil) pass0 (pa_cons (pv 5) pa_nil)))
        (pss_cons (ps_expr (pe_bmK (K := K) PySem.F.plainAttrs_list PySem.F.slot_list_append PySem.F.type_list_append mt_append (pv 3) (pa_cons (pe_ix (ix_tupK (K := K)) (pv 7) pe_int (fun _ _ => rfl)) pa_nil)))
        (pss_one (ps_dput (hu_of hr) (pv 2) (pv 4) (pe_ix (ix_tupK (K := K)) (pv 7) pe_int (fun _ _ => rfl)) rfl)))))))
      (pss_one (ps_ret (pe_tup (pa_cons (pv 3) (pa_cons (pe_comp (cap := [Option.none]) (N' := ["lot"]) rfl (by walk_at "compok") (pi_vals (pe_bm0K (K := K) PySem.F.plainAttrs_dict PySem.F.slot_dict_values PySem.F.type_dict_values mt_values (pv 2))) (fun _ _ _ _ => (pg_name (i := 0) (show (["lot"] : List Str).Nodup from by decide +kernel) rfl (Or.inl rfl) (Or.inr rfl))) (fun _ _ _ _ => (pts_one (pt_cmpR (op_notN) (pv 0) pe_non (nomark _)))) (fun _ _ _ _ => (pv 0))) pa_nil)))))))), ?_⟩
    simp only [start_eq]
    walk_at "nx"
    have hl40 : ls.length ≤ 40 := by have := hR.l; rwa [List.length_map] at this
    refine ⟨⟨_, SqL.of hq⟩, ?_⟩
    refine CompP.listE (K := K) (fun σ => ∃ a, σ = [a]) (fun i v H' => ∃ b l, ls[i]? = some l ∧ v = .ref b ∧ H' b = some (.tup [.int l.2.n, .ref l.1])) (SqL.of hq) ⟨_, rfl⟩ (by rw [refsR_len, sizeLine_eq]; omega) ?_ ?_
    · rintro Da i x hx σ H5 R ⟨_, rfl⟩ sm hD ⟨acc, hA⟩ kk
      obtain ⟨l, hl', rfl⟩ := refsR_get hx
      obtain ⟨dx, hdx⟩ := (hL l (get_mem hl')).same sm
      walk_at "rdi"
      exact ⟨_, dx, _, hdx, T.cl_Lot, T.n_Lot_number, _, by rfl, by rw [sizeLine_eq]; decide, fun t ht => kk (.ref t) _ _ ⟨_, rfl⟩ (Same.new ht) fun H' hb => ⟨t, l, hl', rfl, hb _ _ (fun e => by rw [e, hA] at ht; cases ht) upd_same⟩⟩
    · intro Da H1 acc hD s1 hA hlen hF
      rw [refsR_len] at hlen
      walk_at "rdi"
      obtain ⟨ds, hds⟩ : ∃ ds, ls.map (·.2) = ds := ⟨_, rfl⟩
      obtain ⟨k0, hk0⟩ : ∃ k0, ps.map (·.2) = k0 := ⟨_, rfl⟩
      rw [hds, hk0] at hK
      rw [hds] at hR
      rw [hds, hk0] at kk0
      have hk0l : k0.length = ps.length := by rw [← hk0, List.length_map]
      obtain ⟨ks, hks⟩ : ∃ ks, k0.take m = ks := ⟨_, rfl⟩
      rw [hks] at hK kk0
      have hdl : ds.length = ls.length := by rw [← hds, List.length_map]
      refine ⟨_, SqL.of hA, by omega, kfH H1, vfH H1, fun y hy => ?_, fun pd hpd => ?_⟩
      · obtain ⟨i, hi, e⟩ := List.getElem_of_mem hy
        obtain ⟨b, l, _, h2, h3⟩ := hF i y (by rw [List.getElem?_eq_getElem hi, e])
        subst h2
        exact ⟨b, rfl, by rw [kfH_at h3, vfH_at h3]; exact SqT.of h3⟩
      have ez : pairK (kfH H1) (vfH H1) acc = kz ds (refsR ls) := by
        rw [← hds]
        refine fold_kz (pre := []) hlen hF ?_
        have := hR.u
        rw [← hds, List.map_map] at this
        exact this
      rw [ez]
      have S2 := s1.trans (Same.new (o := .dK (kz ds (refsR ls))) hpd)
      have hd2 : (upd H1 pd (.dK (kz ds (refsR ls)))) pd = some (.dK (kz ds (refsR ls))) := upd_same
      have hBd := s1.free hpd
      generalize upd H1 pd _ = H2 at S2 hd2
      walk_at "nx"
      refine ⟨by rw [sizeLine_eq]; decide, fun pt hpt => ?_⟩
      have S3 := S2.trans (Same.new (o := .lst []) hpt)
      have ht3 : (upd H2 pt (.lst [])) pt = some (.lst []) := upd_same
      have hd3 := Same.new (o := .lst []) hpt _ _ hd2
      have hBt := S2.free hpt
      have hdt : pd ≠ pt := ne_of_none hd2 hpt
      generalize upd H2 pt _ = H3 at S3 ht3 hd3
      rw [ap_seq, ap_for]
      walk_at "rdi"
      refine ⟨⟨_, SqL.of (S3 _ _ hpk)⟩, ?_⟩
      refine ForP.list (K := K) (a := pk) (xs := refsP ps) (fun i σ Hx => ∃ (vs : List V) (l1 : RL) (w4 w5 w6 w7 : Option V), σ = [some (.ref q), some (.ref pk), some (.ref pd), some (.ref pt), w4, w5, w6, w7] ∧ i ≤ m ∧ Same H Hx ∧ vs.length = ds.length ∧ Hx pd = some (.dK (kz ds vs)) ∧ Hx pt = some (.lst (refsR l1)) ∧ LotAt A Hx l1 ∧
        l1.map (·.2) = (ks.take i).map (someD ds) ∧ ∀ (j : Nat) d v, ds[j]? = some d → vs[j]? = some v → OkV A Hx (leftD (ks.take i) d) v) ⟨refsR ls, [], _, _, _, _, rfl, Nat.zero_le _, S3, by rw [refsR_len, hdl], hd3, ht3, fun r h => (List.not_mem_nil h).elim, rfl, fun j d v h1 h2 => ?_⟩ (fun i σ Hx _ ⟨_, _, _, _, _, _, _, _, s, _⟩ => s.seq (SqL.of hpk)) ?_ ?_
      · obtain ⟨l, e1, rfl⟩ := refsR_get h2
        have e2 : ds[j]? = some l.2 := by rw [← hds, List.getElem?_map, e1]; rfl
        rw [h1] at e2
        cases e2
        refine .inl ⟨?_, l.1, rfl, (hL l (get_mem e1)).same S3⟩
        have := (hR.g l.2 (List.mem_of_getElem? h1)).1.1
        show 0 < l.2.p
        omega
      · rintro i y σ H4 hy ⟨vs, l1, w4, w5, w6, w7, rfl, him, S4, hvl, hd4, ht4, hL4, hl4, hO4⟩
        obtain ⟨r, hri, rfl⟩ := refsP_get hy
        have hk0i : k0[i]? = some r.2 := by rw [← hk0, List.getElem?_map, hri]; rfl
        have hil : i < k0.length := (List.getElem?_eq_some_iff.mp hk0i).1
        rcases Nat.lt_or_ge i m with hlt | hge
        rotate_left
        · have eim : i = m := by omega
          subst eim
          rcases kk0 with ⟨e, _⟩ | ⟨kb, hkb, hkn, hku, hbad, kE⟩
          · omega
          rw [hk0i] at hkb
          cases hkb
          have hpr := S4 _ _ (hP r (List.mem_of_getElem? hri))
          walk_at "rdi"
          refine ⟨_, SqT.of hpr, rfl, _, _, rfl, _, _, rfl, rfl, ?_⟩
          walk_at "nx"
          refine ⟨.inl ⟨_, .inl hd4⟩, _, DGet.k (k := Sum.inl r.2.1) hd4, ?_⟩
          have fin : ∀ d, H4 d = Option.none → E (.ref A.C_NoLot) (some d) (upd H4 d (.xd [("number", .int r.2.1)])) := fun d hd => kE d _ (S4.trans (Same.new hd)) upd_same
          by_cases hex : ∃ d ∈ ds, d.n = r.2.1
          · obtain ⟨d, hd, hdn⟩ := hex
            obtain ⟨j, hj, ej⟩ := List.getElem_of_mem hd
            have hdj : ds[j]? = some d := by rw [List.getElem?_eq_getElem hj, ej]
            have hvj : vs[j]? = some (vs[j]'(by omega)) := by simp
            have hnin : d.n ∉ (ks.take i).map (·.1) := by
              rw [hdn, ← hks, List.take_take, Nat.min_self]
              rw [← hks] at hku
              exact hku
            have hov := hO4 j d _ hdj hvj
            rw [left_old hnin] at hov
            have hval := kz_val (v := vs[j]'(by omega)) hR.u hdj hvj
            have hg := hR.g d hd
            have hb := hbad d hd hdn
            obtain ⟨x, ex, hx⟩ : ∃ x, vs[j]'(by omega) = .ref x ∧ IsLot A H4 x d := by
              rcases hov with ⟨_, x, e, h⟩ | ⟨e, _⟩
              · exact ⟨x, e, h⟩
              · omega
            rw [ex] at hval
            obtain ⟨dx, hdx⟩ := id hx
            rw [← hdn, hval]
            simp only [Option.getD_some]
            walk_at "nx"
            refine ⟨_, dx, _, hdx, T.cl_Lot, T.n_Lot_pieces, _, by rfl, _, rfl, ?_⟩
            rw [if_pos (by show d.p < r.2.2; omega)]
            rw [hdn]
            exact ⟨hkn, fin⟩
          · rw [kz_none (fun hm => by obtain ⟨d, hd, e⟩ := List.mem_map.mp hm; exact hex ⟨d, hd, e⟩)]
            simp only [Option.getD_none]
            walk_at "nx"
            exact ⟨hkn, fin⟩
        have hki : ks[i]? = some r.2 := by rw [← hks, List.getElem?_take_of_lt hlt]; exact hk0i
        obtain ⟨d, hd, hdn, hw1, hw2⟩ := hK.h r.2 (List.mem_of_getElem? hki)
        obtain ⟨j, hj, ej⟩ := List.getElem_of_mem hd
        have hdj : ds[j]? = some d := by rw [List.getElem?_eq_getElem hj, ej]
        have hvj : vs[j]? = some (vs[j]'(by omega)) := by simp
        have hnin : d.n ∉ (ks.take i).map (·.1) := by rw [hdn]; exact nodup_at hK.u hki
        have hg := hR.g d hd
        have hov := hO4 j d _ hdj hvj
        rw [left_old hnin] at hov
        have hval := kz_val (v := vs[j]'(by omega)) hR.u hdj hvj
        obtain ⟨x, ex, hx⟩ : ∃ x, vs[j]'(by omega) = .ref x ∧ IsLot A H4 x d := by
          rcases hov with ⟨_, x, e, h⟩ | ⟨e, _⟩
          · exact ⟨x, e, h⟩
          · omega
        rw [ex] at hval
        obtain ⟨dx, hdx⟩ := id hx
        have hpr := S4 _ _ (hP r (List.mem_of_getElem? hri))
        rw [← hdn] at hpr
        walk_at "rdi"
        refine ⟨_, SqT.of hpr, rfl, _, _, rfl, _, _, rfl, rfl, ?_⟩
        walk_at "nx"
        refine ⟨.inl ⟨_, .inl hd4⟩, _, DGet.k (k := Sum.inl d.n) hd4, ?_⟩
        rw [hval]
        simp only [Option.getD_some]
        walk_at "nx"
        refine ⟨_, dx, _, hdx, T.cl_Lot, T.n_Lot_pieces, _, by rfl, _, rfl, ?_⟩
        rw [if_neg (by show ¬ (d.p < r.2.2); omega)]
        walk_at "nx"
        refine ⟨_, dx, _, hdx, _, List.mem_cons_self, by rfl, x, d, r.2.2, rfl, hx, CMulU.r (by omega) (by omega), ⟨by omega, ?_⟩, fun t y v' H5 s5 htn ht5 hY f1 f2 => ?_⟩
        · have : d.p.natAbs < 2 ^ 40 := by omega
          exact Nat.lt_of_lt_of_le this (Nat.pow_le_pow_right (by decide) (by decide))
        walk_at "nx"
        have S5 := S4.trans s5
        have h5t := s5 _ _ ht4
        have h5d := s5 _ _ hd4
        have htt : t ≠ pt := fun e => by rw [e, ht4] at htn; cases htn
        have h6d : (upd H5 pt (.lst (refsR l1 ++ [V.ref y]))) pd = some (.dK (kz ds vs)) := (upd_ne hdt).trans h5d
        have ni1 : ∀ C dx fs, H5 pt ≠ some (.ins C dx fs) := fun _ _ _ => by rw [h5t]; simp
        have ni2 : ∀ C dx fs, (upd H5 pt (.lst (refsR l1 ++ [V.ref y]))) pd ≠ some (.ins C dx fs) := fun _ _ _ => by rw [h6d]; simp
        have er : r.2 = (d.n, r.2.2) := by rw [hdn]
        have etk : ks.take (i + 1) = ks.take i ++ [(d.n, r.2.2)] := by rw [List.take_add_one, hki, ← er]; rfl
        have hl1 : l1.length ≤ 40 := by
          have e1 := congrArg List.length hl4
          rw [List.length_map, List.length_map, List.length_take] at e1
          have e2 : ks.length ≤ ds.length := by
            have := nodup_le2 (l := ks.map (·.1)) (k := ds.map LotD.n) hK.u fun z hz => by
              obtain ⟨k0, hk0, rfl⟩ := List.mem_map.mp hz
              obtain ⟨d0, hd0, e0, _⟩ := hK.h k0 hk0
              exact List.mem_map.mpr ⟨d0, hd0, e0⟩
            rwa [List.length_map, List.length_map] at this
          have := hR.l
          omega
        refine ⟨.inl ⟨rfl, _, SqL.of h5t⟩, _, SqT.of ht5, _, rfl, _, h5t, by rw [refsR_len, sizeLine_eq]; omega, _, SqT.of ((upd_ne htt).trans ht5), _, rfl, _, .inl ⟨_, Sum.inl d.n, h6d, rfl, by rw [kz_len hvl, sizeLine_eq]; have := hR.l; omega, by rw [kz_put hR.u hdj hvj]⟩,
          by omega, (S5.upd hBt).upd hBd, vs.set j v', by rw [List.length_set, hvl], upd_same, l1 ++ [(y, someD ds (d.n, r.2.2))], ?_, fun z hz => ?_, ?_, fun j' d' v0 h1 h2 => ?_⟩
        · rw [upd_ne hdt.symm, upd_same]; unfold refsR; rw [List.map_append]; rfl
        · rcases List.mem_append.mp hz with hz | hz
          · exact (((hL4 z hz).same s5).put ni1).put ni2
          · obtain rfl := List.mem_singleton.mp hz
            rw [some_at hR.u hd]
            exact (hY.put ni1).put ni2
        · rw [List.map_append, hl4, etk, List.map_append]; rfl
        · rw [etk]
          by_cases ejj : j' = j
          · subst ejj
            rw [hdj] at h1
            cases h1
            rw [List.getElem?_set_self (by omega)] at h2
            cases h2
            rw [left_new hnin]
            by_cases ew : r.2.2 = d.p
            · exact .inr ⟨by show d.p - r.2.2 = 0; omega, f1 ew⟩
            · obtain ⟨z, ez, hz⟩ := f2 ew
              exact .inl ⟨by show 0 < d.p - r.2.2; omega, z, ez, (hz.put ni1).put ni2⟩
          · rw [List.getElem?_set_ne (fun e => ejj e.symm)] at h2
            have hne : d'.n ≠ d.n := fun e => ejj (by
              have hl1' : j' < (ds.map LotD.n).length := by rw [List.length_map]; exact (List.getElem?_eq_some_iff.mp h1).1
              refine (List.getElem?_inj hl1' hR.u).mp ?_
              rw [List.getElem?_map, List.getElem?_map, h1, hdj]
              show some d'.n = some d.n
              rw [e])
            rw [left_same hne]
            exact (((hO4 j' d' v0 h1 h2).same s5).put ni1).put ni2
      · rintro σ H4 ⟨vs, l1, w4, w5, w6, w7, rfl, him, S4, hvl, hd4, ht4, hL4, hl4, hO4⟩
        rw [refsP_len] at him hl4 hO4
        rcases kk0 with ⟨e, k⟩ | ⟨kb, hkb, _⟩
        rotate_left
        · have := (List.getElem?_eq_some_iff.mp hkb).1
          omega
        have eks : ks = k0 := by rw [← hks, List.take_of_length_le (by omega)]
        rw [← eks] at k
        rw [show ps.length = ks.length by rw [eks, hk0l], List.take_length] at hl4 hO4
        walk_at "rdi"
        refine ⟨.inr (.inr (.inl ⟨rfl, .inl ⟨_, hd4⟩⟩)), _, hd4, fun v hv => ⟨pd, upd_same, _, (upd_ne (ne_of_none hd4 hv)).trans hd4, fun o => ?_⟩⟩
        have sv := Same.new (o := viewO v pd) hv
        have hdv := sv _ _ hd4
        have ni : ∀ C dx fs, (upd H4 v (viewO v pd)) pd ≠ some (.ins C dx fs) := fun _ _ _ => by rw [hdv]; simp
        have S5 : Same H (upd (upd H4 v (viewO v pd)) pd (.frz o (.dK (kz ds vs)))) := (S4.trans sv).upd hBd
        have ht5 : (upd (upd H4 v (viewO v pd)) pd (.frz o (.dK (kz ds vs)))) pt = some (.lst (refsR l1)) := (upd_ne hdt.symm).trans (sv _ _ ht4)
        have hL5 : LotAt A (upd (upd H4 v (viewO v pd)) pd (.frz o (.dK (kz ds vs)))) l1 := fun z hz => ((hL4 z hz).same sv).put ni
        have hf5 : (upd (upd H4 v (viewO v pd)) pd (.frz o (.dK (kz ds vs)))) pd = some (.frz o (.dK (kz ds vs))) := upd_same
        have hO5 : ∀ (j : Nat) d v0, (ds.map (leftD ks))[j]? = some d → vs[j]? = some v0 → OkV A (upd (upd H4 v (viewO v pd)) pd (.frz o (.dK (kz ds vs)))) d v0 := fun j d v0 h1 h2 => by
          rw [List.getElem?_map] at h1
          cases e : ds[j]? with
          | none => rw [e] at h1; cases h1
          | some d0 =>
            rw [e] at h1
            cases h1
            exact ((hO4 j d0 v0 e h2).same sv).put ni
        generalize upd (upd H4 v (viewO v pd)) pd (.frz o (.dK (kz ds vs))) = H5 at S5 ht5 hL5 hf5 hO5
        refine CompP.vals (fun σ => ∃ a, σ = [a]) (fun v => decide (v ≠ .non)) id hf5 ⟨_, rfl⟩ (by rw [kz_len hvl, sizeLine_eq]; have := hR.l; omega) ?_ ?_
        · rintro x hx σ H6 R1 R2 ⟨_, rfl⟩ sm k1 k2
          walk_at "rdi"
          by_cases e : x = .non
          · rw [if_neg (by simp [e])]
            exact k2 (by simp [e]) _ _ ⟨_, rfl⟩ (Same.refl _)
          · rw [if_pos (by simp [e])]
            exact k1 (by simp [e]) _ _ ⟨_, rfl⟩ (Same.refl _)
        · intro Da H6 hDa s6 hA6
          rw [kz_vals hvl, List.map_id] at hA6
          obtain ⟨l2, e1, e2, e3⟩ := okv_fil (A := A) (H := H5) (ds := ds.map (leftD ks)) (vs := vs) (by rw [List.length_map, hvl]) hO5
          rw [e1] at hA6
          refine ⟨by rw [sizeLine_eq]; decide, fun t ht => ?_⟩
          have st := Same.new (o := .tup [V.ref pt, V.ref Da]) ht
          have S6 := S5.trans (s6.trans st)
          exact k t pt Da l1 l2 _ S6 upd_same ((s6.trans st) _ _ ht5) (st _ _ hA6) (hL5.same (s6.trans st)) (e3.same (s6.trans st)) hl4 e2 hBt (S5.free hDa) (fun e => by rw [← e, ht5] at hDa; cases hDa)
end
end My
namespace My
open PySem L2 PyProof.Rows
section
variable {P : Program} {w : World} {K : PySem.W.Frag} {mg : Str → Option Value} {base : Heap} {A : Adr} {D : Fds}
local macro_rules | `(tactic| walk_at "nx") => `(tactic| ((try dsimp only); rw [ap_seq]; walk_at "rdi"))
theorem vs_at {d : LotD} {H : Hp} {t : Addr} (h : H t = some (.tup d.vs)) : SqT K H t [.int d.n, .int d.s, .int d.p, .int d.c] := SqT.of h
def OkT (H : Hp) (d : LotD) (v : V) : Prop := ∃ t, v = .ref t ∧ H t = some (.tup d.vs)
theorem OkT.same {H H' : Hp} {d : LotD} {v : V} (h : OkT H d v) (s : Same H H') : OkT H' d v := let ⟨t, e, q⟩ := h; ⟨t, e, s _ _ q⟩
theorem OkT.put {H : Hp} {d : LotD} {v : V} {l : Addr} {o : HO} (h : OkT H d v) (hl : ∀ xs, H l ≠ some (.tup xs)) : OkT (upd H l o) d v := let ⟨t, e, q⟩ := h; ⟨t, e, (upd_ne fun z => hl _ (z ▸ q)).trans q⟩
theorem RowAt.put2 {H : Hp} {rs : RL} {l : Addr} {o : HO} (h : RowAt H rs) (hl : ∀ xs, H l ≠ some (.tup xs)) : RowAt (upd H l o) rs := fun r hr => (upd_ne fun z => hl _ (z ▸ h r hr)).trans (h r hr)
def nOf (H : Hp) : V → Int
  | .ref b => match H b with
    | some (.tup (.int n :: _)) => n
    | _ => 0
  | _ => 0
def pOf (H : Hp) : V → Int
  | .ref b => match H b with
    | some (.tup [_, _, .int p, _]) => p
    | _ => 0
  | _ => 0
theorem nOf_at {H : Hp} {b : Addr} {d : LotD} (h : H b = some (.tup d.vs)) : nOf H (.ref b) = d.n := by
  show (match H b with | some (.tup (.int n :: _)) => n | _ => 0) = _
  rw [h]; rfl
theorem pOf_at {H : Hp} {b : Addr} {d : LotD} (h : H b = some (.tup d.vs)) : pOf H (.ref b) = d.p := by
  show (match H b with | some (.tup [_, _, .int p, _]) => p | _ => 0) = _
  rw [h]; rfl
theorem okt_fil {H : Hp} {pf : V → Bool} {F : V → V} : ∀ {ys : List V} {dl : List LotD}, ys.length = dl.length → (∀ (j : Nat) y d, ys[j]? = some y → dl[j]? = some d → pf y = decide (0 < d.p) ∧ OkT H d (F y)) → ∃ r2 : RL, (ys.filter pf).map F = refsR r2 ∧ r2.map (·.2) = (dl.filter fun d => decide (0 < d.p)) ∧ RowAt H r2
  | [], [], _, _ => ⟨[], rfl, rfl, fun r h => (List.not_mem_nil h).elim⟩
  | [], _ :: _, h, _ => by simp at h
  | _ :: _, [], h, _ => by simp at h
  | y :: ys, d :: dl, hl, h => by
    obtain ⟨r2, e1, e2, e3⟩ := okt_fil (ys := ys) (dl := dl) (by simpa using hl) fun j y d h1 h2 => h (j + 1) y d h1 h2
    obtain ⟨hp, t, ht, hx⟩ := h 0 y d rfl rfl
    by_cases e : 0 < d.p
    · refine ⟨(t, d) :: r2, ?_, ?_, fun r hr => ?_⟩
      · rw [List.filter_cons_of_pos (by rw [hp]; simpa using e), List.map_cons, e1, ht]; rfl
      · rw [List.filter_cons_of_pos (by simpa using e), List.map_cons, e2]
      · rcases List.mem_cons.mp hr with rfl | hr
        · exact hx
        · exact e3 r hr
    · refine ⟨r2, ?_, ?_, e3⟩
      · rw [List.filter_cons_of_neg (by rw [hp]; simpa using e), e1]
      · rw [List.filter_cons_of_neg (by simpa using e), e2]
theorem num_ne {ds : List LotD} (hu : (ds.map LotD.n).Nodup) {i j : Nat} {d e : LotD} (h1 : ds[i]? = some d) (h2 : ds[j]? = some e) (hne : i ≠ j) : d.n ≠ e.n := fun z => hne (by
  have hl : i < (ds.map LotD.n).length := by rw [List.length_map]; exact (List.getElem?_eq_some_iff.mp h1).1
  refine (List.getElem?_inj hl hu).mp ?_
  rw [List.getElem?_map, List.getElem?_map, h1, h2]
  show some d.n = some e.n
  rw [z])
def sp__law_taken : Sp := fun vs H Q _ => ∃ (p pk : Addr) (rs : RL) (ps : PL), vs = [.ref p, .ref pk] ∧ H p = some (.lst (refsR rs)) ∧ RowAt H rs ∧ H pk = some (.lst (refsP ps)) ∧ PkAt H ps ∧ RowOk (rs.map (·.2)) ∧ PkOk (rs.map (·.2)) (ps.map (·.2)) ∧
  ∀ t la lb r1 r2 H', Same H H' → H' t = some (.tup [.ref la, .ref lb]) → H' la = some (.lst (refsR r1)) → H' lb = some (.lst (refsR r2)) → RowAt H' r1 → RowAt H' r2 → r1.map (·.2) = (ps.map (·.2)).map (someD (rs.map (·.2))) → r2.map (·.2) = leftR (ps.map (·.2)) (rs.map (·.2)) → Q (.ref t) H'
theorem ok__law_taken (T : Txt K mg A D) : FnOk P w K mg base CX0 1 A._law_taken D._law_taken ["_law_row_here", "_law_picks_here"] (sp__law_taken) := by
  refine T.F__law_taken.ok sc__law_taken (fun vs H Q E h => ?_) (fun cdv A' outer s0 H vs Q E hr h => ?_)
  · obtain ⟨p, pk, rs, ps, rfl, _⟩ := h; rfl
  · obtain ⟨p, pk, rs, ps, rfl, hp, hRA, hpk, hP, hR, hK, k⟩ := h
    refine ⟨_, (pss_cons (ps_set (i := 2) sc__law_taken.nd rfl (Or.inr rfl) pe_dnewK)
      (pss_cons (ps_for PassesOwn.never rfl (pi_listK (K := K) (pv 0)) (pg_name (i := 3) sc__law_taken.nd rfl (Or.inl rfl))
        (pss_one (ps_dput (hu_of hr) (pv 2) (pe_ix (ix_tupK (K := K)) (pv 3) pe_int (fun _ _ => rfl)) (pv 3) rfl)))
      (pss_cons (ps_set (i := 4) sc__law_taken.nd rfl (Or.inl rfl) (pe_lst pa_nil))
      (pss_cons (ps_for PassesOwn.never rfl (pi_listK (K := K) (pv 1)) (pg_tupK (K := K) (n := 2) rfl (pgs_cons (pg_name (i := 5) sc__law_taken.nd rfl (Or.inl rfl)) (pgs_cons (pg_name (i := 6) sc__law_taken.nd rfl (Or.inl rfl)) pgs_nil)))
        (pss_cons (ps_asg (pe_dget (hu_of hr) (pv 2) (pv 5) (fun _ _ => rfl)) (pg_tupK (K := K) (n := 4) rfl (pgs_cons (pg_name (i := 7) sc__law_taken.nd rfl (Or.inl rfl)) (pgs_cons (pg_name (i := 8) sc__law_taken.nd rfl (Or.inl rfl)) (pgs_cons (pg_name (i := 9) sc__law_taken.nd rfl (Or.inl rfl)) (pgs_cons (pg_name (i := 10) sc__law_taken.nd rfl (Or.inl rfl)) pgs_nil))))))
        (pss_cons (ps_set (i := 11) sc__law_taken.nd rfl (Or.inl rfl) (pe_op op_fdivB (pe_op op_mulU (pv 10) (pv 6)) (pv 9)))
        (pss_cons (ps_expr (pe_bmK (K := K) PySem.F.plainAttrs_list PySem.F.slot_list_append PySem.F.type_list_append mt_append (pv 4) (pa_cons (pe_tup (pa_cons (pv 5) (pa_cons (pv 8) (pa_cons (pv 6) (pa_cons (pv 11) pa_nil))))) pa_nil)))
        (pss_one (ps_dput (hu_of hr) (pv 2) (pv 5) (pe_tup (pa_cons (pv 5) (pa_cons (pv 8) (pa_cons (pe_op op_sub (pv 9) (pv 6)) (pa_cons (pe_op op_sub (pv 10) (pv 11)) pa_nil))))) rfl))))))
      (pss_one (ps_ret (pe_tup (pa_cons (pv 4) (pa_cons (pe_comp (cap := [Option.none, some 2]) (N' := ["_law_lot", "_law_known"]) rfl (by walk_at "compok") (pi_listK (K := K) (pv 0)) (fun _ _ _ _ => (pg_name (i := 0) (show (["_law_lot", "_law_known"] : List Str).Nodup from by decide +kernel) rfl (Or.inl rfl) (Or.inr rfl))) (fun _ _ _ _ => (pts_one (pt_cmpR (op_gt) (pe_ix (ix_tupK (K := K)) (pe_dget (hu_of hr) (pv 1) (pe_ix (ix_tupK (K := K)) (pv 0) pe_int (fun _ _ => rfl)) (fun _ _ => rfl)) pe_int (fun _ _ => rfl)) pe_int (nomark _)))) (fun _ _ _ _ => (pe_dget (hu_of hr) (pv 1) (pe_ix (ix_tupK (K := K)) (pv 0) pe_int (fun _ _ => rfl)) (fun _ _ => rfl)))) pa_nil))))))))), ?_⟩
    obtain ⟨ds, hds⟩ : ∃ ds, rs.map (·.2) = ds := ⟨_, rfl⟩
    obtain ⟨ks, hks⟩ : ∃ ks, ps.map (·.2) = ks := ⟨_, rfl⟩
    rw [hds, hks] at hK
    rw [hds] at hR
    rw [hds, hks] at k
    have hdl : ds.length = rs.length := by rw [← hds, List.length_map]
    have hl40 := hR.l
    have hrsd : ∀ {i : Nat} {r : Addr × LotD}, rs[i]? = some r → ds[i]? = some r.2 := fun h => by rw [← hds, List.getElem?_map, h]; rfl
    simp only [start_eq]
    walk_at "nx"
    intro pd hpd
    have S2 := Same.new (o := .dK []) hpd
    have hd2 : (upd H pd (.dK [])) pd = some (.dK []) := upd_same
    generalize upd H pd (.dK []) = H2 at S2 hd2
    rw [ap_seq, ap_for]
    walk_at "rdi"
    refine ⟨⟨_, SqL.of (S2 _ _ hp)⟩, ?_⟩
    refine ForP.list (K := K) (a := p) (xs := refsR rs) (fun i σ Hx => ∃ v3, σ = [some (.ref p), some (.ref pk), some (.ref pd), v3, Option.none, Option.none, Option.none, Option.none, Option.none, Option.none, Option.none, Option.none] ∧ Same H Hx ∧ Hx pd = some (.dK (kz (ds.take i) ((refsR rs).take i))))
      ⟨_, rfl, S2, hd2⟩ (fun i σ Hx _ ⟨_, _, s, _⟩ => s.seq (SqL.of hp)) ?_ ?_
    · rintro i y σ H3 hy ⟨v3, rfl, S3, hd3⟩
      obtain ⟨r, hri, rfl⟩ := refsR_get hy
      have hr3 := S3 _ _ (hRA r (get_mem hri))
      have hdi := hrsd hri
      have hil : i < ds.length := (List.getElem?_eq_some_iff.mp hdi).1
      walk_at "rdi"
      have e1 : ds.take (i + 1) = ds.take i ++ [r.2] := by rw [List.take_add_one, hdi]; rfl
      have e2 : (refsR rs).take (i + 1) = (refsR rs).take i ++ [V.ref r.1] := by rw [List.take_add_one, hy]; rfl
      have hnin : r.2.n ∉ (ds.take i).map LotD.n := by
        intro hm
        have h2 : ds.map LotD.n = (ds.take i).map LotD.n ++ (ds.drop i).map LotD.n := by rw [← List.map_append, List.take_append_drop]
        have hu := hR.u
        rw [h2] at hu
        exact (List.nodup_append.mp hu).2.2 _ hm r.2.n (List.mem_map.mpr ⟨r.2, by rw [List.mem_iff_getElem?]; exact ⟨0, by rw [List.getElem?_drop]; exact hdi⟩, rfl⟩) rfl
      have el : ((refsR rs).take i).length = (ds.take i).length := by rw [List.length_take, List.length_take, refsR_len, hdl]
      refine ⟨_, vs_at hr3, _, rfl, _, .inl ⟨_, Sum.inl r.2.n, hd3, rfl, ?_, rfl⟩, S3.upd hpd, ?_⟩
      · rw [kz_len el, List.length_take, sizeLine_eq]; omega
      · rw [upd_same, kz_new el hnin, ← e1, ← e2]
    · rintro σ H3 ⟨v3, rfl, S3, hd3⟩
      rw [refsR_len, ← hdl, List.take_length, hdl, ← refsR_len rs, List.take_length] at hd3
      walk_at "nx"
      refine ⟨by rw [sizeLine_eq]; decide, fun pt hpt => ?_⟩
      have S4 := S3.trans (Same.new (o := .lst []) hpt)
      have ht4 : (upd H3 pt (.lst [])) pt = some (.lst []) := upd_same
      have hd4 := Same.new (o := .lst []) hpt _ _ hd3
      have hBt := S3.free hpt
      have hdt : pd ≠ pt := ne_of_none hd3 hpt
      generalize upd H3 pt _ = H4 at S4 ht4 hd4
      try dsimp only
      rw [ap_seq, ap_for]
      walk_at "rdi"
      refine ⟨⟨_, SqL.of (S4 _ _ hpk)⟩, ?_⟩
      refine ForP.list (K := K) (a := pk) (xs := refsP ps) (fun i σ Hx => ∃ (vs : List V) (l1 : RL) (w3 w5 w6 w7 w8 w9 w10 w11 : Option V), σ = [some (.ref p), some (.ref pk), some (.ref pd), w3, some (.ref pt), w5, w6, w7, w8, w9, w10, w11] ∧ Same H Hx ∧ vs.length = ds.length ∧ Hx pd = some (.dK (kz ds vs)) ∧ Hx pt = some (.lst (refsR l1)) ∧ RowAt Hx l1 ∧
        l1.map (·.2) = (ks.take i).map (someD ds) ∧ ∀ (j : Nat) d v, ds[j]? = some d → vs[j]? = some v → OkT Hx (leftD (ks.take i) d) v) ⟨refsR rs, [], _, _, _, _, _, _, _, _, rfl, S4, by rw [refsR_len, hdl], hd4, ht4, fun r h => (List.not_mem_nil h).elim, rfl, fun j d v h1 h2 => ?_⟩ (fun i σ Hx _ ⟨_, _, _, _, _, _, _, _, _, _, _, s, _⟩ => s.seq (SqL.of hpk)) ?_ ?_
      · obtain ⟨l, e1, rfl⟩ := refsR_get h2
        have e2 := hrsd e1
        rw [h1] at e2
        cases e2
        exact ⟨l.1, rfl, S4 _ _ (hRA l (get_mem e1))⟩
      · rintro i y σ H5 hy ⟨vs, l1, w3, w5, w6, w7, w8, w9, w10, w11, rfl, S5, hvl, hd5, ht5, hL5, hl5, hO5⟩
        obtain ⟨r, hri, rfl⟩ := refsP_get hy
        have hki : ks[i]? = some r.2 := by rw [← hks, List.getElem?_map, hri]; rfl
        obtain ⟨d, hd, hdn, hw1, hw2⟩ := hK.h r.2 (List.mem_of_getElem? hki)
        obtain ⟨j, hj, ej⟩ := List.getElem_of_mem hd
        have hdj : ds[j]? = some d := by rw [List.getElem?_eq_getElem hj, ej]
        have hvj : vs[j]? = some (vs[j]'(by omega)) := by simp
        have hnin : d.n ∉ (ks.take i).map (·.1) := by rw [hdn]; exact nodup_at hK.u hki
        have hg := hR.g d hd
        have hov := hO5 j d _ hdj hvj
        rw [left_old hnin] at hov
        have hval := kz_val (v := vs[j]'(by omega)) hR.u hdj hvj
        obtain ⟨x, ex, hx⟩ := hov
        rw [ex] at hval
        have hpr := S5 _ _ (hP r (List.mem_of_getElem? hri))
        rw [← hdn] at hpr
        walk_at "rdi"
        refine ⟨_, SqT.of hpr, rfl, _, _, rfl, _, _, rfl, rfl, ?_⟩
        walk_at "nx"
        refine ⟨_, hval ▸ DGet.k (k := Sum.inl d.n) hd5, ?_⟩
        refine ⟨x, rfl, _, vs_at hx, rfl, _, _, rfl, _, _, rfl, _, _, rfl, _, _, rfl, rfl, ?_⟩
        have hcd : ∀ z, CDivB z d.p := fun z => ⟨by omega, by
          have : d.p.natAbs < 2 ^ 40 := by omega
          exact Nat.lt_of_lt_of_le this (Nat.pow_le_pow_right (by decide) (by decide))⟩
        walk_at "nx"
        refine ⟨CMulU.r (by omega) (by omega), hcd _, ?_⟩
        walk_at "nx"
        have z4 : 4 ≤ sizeLine := by rw [sizeLine_eq]; decide
        have er : r.2 = (d.n, r.2.2) := by rw [hdn]
        have etk : ks.take (i + 1) = ks.take i ++ [(d.n, r.2.2)] := by rw [List.take_add_one, hki, ← er]; rfl
        have hl1 : l1.length ≤ 40 := by
          have e1 := congrArg List.length hl5
          rw [List.length_map, List.length_map, List.length_take] at e1
          have e2 : ks.length ≤ ds.length := by
            have := nodup_le2 (l := ks.map (·.1)) (k := ds.map LotD.n) hK.u fun z hz => by
              obtain ⟨k0, hk0, rfl⟩ := List.mem_map.mp hz
              obtain ⟨d0, hd0, e0, _⟩ := hK.h k0 hk0
              exact List.mem_map.mpr ⟨d0, hd0, e0⟩
            rwa [List.length_map, List.length_map] at this
          omega
        refine ⟨.inl ⟨rfl, _, SqL.of ht5⟩, z4, fun t1 h1 => ⟨_, Same.new h1 _ _ ht5, by rw [refsR_len, sizeLine_eq]; omega, z4, fun t2 h2 => ?_⟩⟩
        have sa := Same.new (o := .tup [V.int d.n, V.int d.s, V.int r.2.2, V.int (d.c * r.2.2 / d.p)]) h1
        have o1 : OkT (upd H5 t1 (.tup [V.int d.n, V.int d.s, V.int r.2.2, V.int (d.c * r.2.2 / d.p)])) ⟨d.n, d.s, r.2.2, d.c * r.2.2 / d.p⟩ (.ref t1) := ⟨t1, rfl, upd_same⟩
        have hat := sa _ _ ht5
        have had := sa _ _ hd5
        generalize upd H5 t1 _ = Ha at sa o1 hat had h2
        have ni1 : ∀ xs, Ha pt ≠ some (.tup xs) := fun _ => by rw [hat]; simp
        have hbd : (upd Ha pt (.lst (refsR l1 ++ [V.ref t1]))) pd = some (.dK (kz ds vs)) := (upd_ne hdt).trans had
        have hbt : (upd Ha pt (.lst (refsR l1 ++ [V.ref t1]))) pt = some (.lst (refsR l1 ++ [V.ref t1])) := upd_same
        have Sb := ((S5.trans sa).upd hBt (a := pt) (o := .lst (refsR l1 ++ [V.ref t1])))
        have tr1 : ∀ {d : LotD} {v : V}, OkT Ha d v → OkT (upd Ha pt (.lst (refsR l1 ++ [V.ref t1]))) d v := fun h => h.put ni1
        have hLb : RowAt (upd Ha pt (.lst (refsR l1 ++ [V.ref t1]))) l1 := (hL5.same sa).put2 ni1
        generalize upd Ha pt (.lst (refsR l1 ++ [V.ref t1])) = Hb at hbd hbt Sb tr1 hLb h2
        have sc := Same.new (o := .tup [V.int d.n, V.int d.s, V.int (d.p - r.2.2), V.int (d.c - d.c * r.2.2 / d.p)]) h2
        have o2 : OkT (upd Hb t2 (.tup [V.int d.n, V.int d.s, V.int (d.p - r.2.2), V.int (d.c - d.c * r.2.2 / d.p)])) ⟨d.n, d.s, d.p - r.2.2, d.c - d.c * r.2.2 / d.p⟩ (.ref t2) := ⟨t2, rfl, upd_same⟩
        have hcdk := sc _ _ hbd
        generalize upd Hb t2 _ = Hc at sc o2 hcdk
        have ni2 : ∀ xs, Hc pd ≠ some (.tup xs) := fun _ => by rw [hcdk]; simp
        refine ⟨_, .inl ⟨_, Sum.inl d.n, hcdk, rfl, by rw [kz_len hvl, sizeLine_eq]; omega, by rw [kz_put hR.u hdj hvj]⟩, (Sb.trans sc).upd hpd, vs.set j (.ref t2), by rw [List.length_set, hvl], upd_same, l1 ++ [(t1, someD ds (d.n, r.2.2))], ?_, fun z hz => ?_, ?_, fun j' d' v0 g1 g2 => ?_⟩
        · rw [upd_ne hdt.symm, sc _ _ hbt]; unfold refsR; rw [List.map_append]; rfl
        · rcases List.mem_append.mp hz with hz | hz
          · exact ((hLb.same sc).put2 ni2) z hz
          · obtain rfl := List.mem_singleton.mp hz
            rw [some_at hR.u hd]
            obtain ⟨t0, e0, h0⟩ := ((tr1 o1).same sc).put (o := .dK (kz ds (vs.set j (.ref t2)))) ni2
            cases e0
            exact h0
        · rw [List.map_append, hl5, etk, List.map_append]; rfl
        · rw [etk]
          by_cases ejj : j' = j
          · subst ejj
            rw [hdj] at g1
            cases g1
            rw [List.getElem?_set_self (by omega)] at g2
            cases g2
            rw [left_new hnin]
            exact o2.put ni2
          · rw [List.getElem?_set_ne (fun e => ejj e.symm)] at g2
            rw [left_same (num_ne hR.u g1 hdj ejj)]
            exact ((tr1 ((hO5 j' d' v0 g1 g2).same sa)).same sc).put ni2
      · rintro σ H5 ⟨vs, l1, w3, w5, w6, w7, w8, w9, w10, w11, rfl, S5, hvl, hd5, ht5, hL5, hl5, hO5⟩
        rw [refsP_len, show ps.length = ks.length by rw [← hks, List.length_map], List.take_length] at hl5 hO5
        walk_at "rdi"
        have hFv : ∀ {j : Nat} {r : Addr × LotD}, rs[j]? = some r → ∃ v, vs[j]? = some v ∧ OkT H5 (leftD ks r.2) v ∧ (valV (kz ds vs) (Sum.inl (nOf H5 (.ref r.1)))).getD .non = v ∧ valV (kz ds vs) (Sum.inl r.2.n) = some v := fun {j r} hr => by
          have e1 := hrsd hr
          have hj : j < vs.length := by have := (List.getElem?_eq_some_iff.mp e1).1; omega
          have e2 : vs[j]? = some vs[j] := by simp [hj]
          have e3 := kz_val hR.u e1 e2
          refine ⟨vs[j], e2, hO5 j r.2 _ e1 e2, ?_, e3⟩
          rw [nOf_at (S5 _ _ (hRA r (get_mem hr))), e3]
          rfl
        refine ⟨⟨_, SqL.of (S5 _ _ hp)⟩, ?_⟩
        refine CompP.list (K := K) (fun σ => ∃ a, σ = [a, some (.ref pd)]) (fun y => decide (0 < pOf H5 ((valV (kz ds vs) (Sum.inl (nOf H5 y))).getD .non))) (fun y => (valV (kz ds vs) (Sum.inl (nOf H5 y))).getD .non) (SqL.of (S5 _ _ hp)) ⟨_, rfl⟩ (by rw [refsR_len, sizeLine_eq]; omega) ?_ ?_
        · rintro x hx σ H6 R1 R2 ⟨_, rfl⟩ sm k1 k2
          obtain ⟨r, hr, rfl⟩ := List.mem_map.mp hx
          obtain ⟨j, hj, ej⟩ := List.getElem_of_mem hr
          obtain ⟨v, e1, ⟨t, e2, e3⟩, e4, e5⟩ := hFv (j := j) (r := r) (by rw [List.getElem?_eq_getElem hj, ej])
          rw [e4] at k1 k2
          subst e2
          rw [pOf_at e3] at k1 k2
          have hr6 := sm _ _ (S5 _ _ (hRA r hr))
          have hd6 := sm _ _ hd5
          have hg6 : DGet H6 pd (.int r.2.n) (some (.ref t)) := e5 ▸ DGet.k (k := Sum.inl r.2.n) hd6
          walk_at "rdi"
          refine ⟨_, vs_at hr6, _, rfl, _, hg6, t, rfl, _, vs_at (sm _ _ e3), _, rfl, _, rfl, ?_⟩
          by_cases hp0 : 0 < (leftD ks r.2).p
          · rw [if_pos hp0]
            exact ⟨_, vs_at hr6, _, rfl, _, hg6, k1 (by simpa using hp0) _ _ ⟨_, rfl⟩ (Same.refl _)⟩
          · rw [if_neg hp0]
            exact k2 (by simpa using hp0) _ _ ⟨_, rfl⟩ (Same.refl _)
        · intro Da H6 hDa s6 hA6
          obtain ⟨r2, f1, f2, f3⟩ := okt_fil (H := H5) (pf := fun y => decide (0 < pOf H5 ((valV (kz ds vs) (Sum.inl (nOf H5 y))).getD .non))) (F := fun y => (valV (kz ds vs) (Sum.inl (nOf H5 y))).getD .non) (ys := refsR rs) (dl := ds.map (leftD ks)) (by rw [refsR_len, List.length_map, hdl]) fun j y d h1 h2 => by
            obtain ⟨r, hr, rfl⟩ := refsR_get h1
            rw [List.getElem?_map, hrsd hr] at h2
            cases h2
            obtain ⟨v, e1, ⟨t, e2, e3⟩, e4, e5⟩ := hFv hr
            rw [e4, e2, pOf_at e3]
            exact ⟨rfl, t, rfl, e3⟩
          rw [f1] at hA6
          refine ⟨by rw [sizeLine_eq]; decide, fun t ht => ?_⟩
          have st := Same.new (o := .tup [V.ref pt, V.ref Da]) ht
          exact k t pt Da l1 r2 _ (S5.trans (s6.trans st)) upd_same ((s6.trans st) _ _ ht5) (st _ _ hA6) (hL5.same (s6.trans st)) (f3.same (s6.trans st)) hl5 f2
end
end My
namespace My
open PySem L2 PyProof.Rows
section
variable {P : Program} {w : World} {K : PySem.W.Frag} {mg : Str → Option Value} {base : Heap} {A : Adr} {D : Fds}
local macro_rules | `(tactic| walk_at "nx") => `(tactic| ((try dsimp only); rw [ap_seq]; walk_at "rdi"))
theorem seq_ix {i : Int} {n : Nat} (h0 : 0 ≤ i) (h1 : i < n) : seqIndex? i n = some i.toNat := by
  unfold seqIndex?
  have h : ¬ i < 0 := by omega
  simp [h, h0, h1]
theorem refs_erase : ∀ (rl : RL) (k : Nat), (refsR rl).eraseIdx k = refsR (rl.eraseIdx k)
  | [], _ => rfl
  | r :: rl, 0 => rfl
  | r :: rl, k + 1 => by
    show V.ref r.1 :: (refsR rl).eraseIdx k = V.ref r.1 :: refsR (rl.eraseIdx k)
    rw [refs_erase rl k]
theorem erase_perm : ∀ (rl : RL) (k : Nat) (h : k < rl.length), (rl[k] :: rl.eraseIdx k).Perm rl
  | r :: rl, 0, _ => .refl _
  | r :: rl, k + 1, h => (List.Perm.swap _ _ _).trans ((erase_perm rl k (by simpa using h)).cons r)
def Pr2 (q : Addr × Int × Int) (r : Addr × LotD) : Prop := q.2.1 = r.2.n ∧ 1 ≤ q.2.2 ∧ q.2.2 ≤ r.2.p
theorem paired_snoc {ps : PL} {pk : RL} {q : Addr × Int × Int} {r : Addr × LotD} (h : Paired Pr2 ps pk) (hq : Pr2 q r) : Paired Pr2 (ps ++ [q]) (pk ++ [r]) := Paired.snoc h hq
theorem pr2_ok {ps : PL} {pk : RL} (h : Paired Pr2 ps pk) : (ps.map (·.2)).map (·.1) = pk.map (fun r => r.2.n) ∧ ∀ k ∈ ps.map (·.2), ∃ r ∈ pk, r.2.n = k.1 ∧ 1 ≤ k.2 ∧ k.2 ≤ r.2.p := by
  induction h with
  | nil => exact ⟨rfl, fun k h => (List.not_mem_nil h).elim⟩
  | @cons q r ps pk h t ih =>
    refine ⟨?_, fun k hk => ?_⟩
    · rw [List.map_cons, List.map_cons, List.map_cons, ih.1, h.1]
    · rw [List.map_cons] at hk
      rcases List.mem_cons.mp hk with rfl | hk
      · exact ⟨r, List.mem_cons_self, h.1.symm, h.2.1, h.2.2⟩
      · obtain ⟨r', h1, h2⟩ := ih.2 k hk
        exact ⟨r', List.mem_cons_of_mem _ h1, h2⟩
def sp__law_picks (K : PySem.W.Frag) : Sp := fun vs H Q _ => ∃ (a : Addr) (ns : List Int) (st : Nat) (p : Addr) (rs : RL), vs = [.ref a, .int st, .ref p] ∧ SqL K H a (ns.map V.int) ∧ ns.length ≤ 63 ∧ H p = some (.lst (refsR rs)) ∧ RowAt H rs ∧ RowOk (rs.map (·.2)) ∧
  ∀ pk ps H', Same H H' → H pk = Option.none → H' pk = some (.lst (refsP ps)) → PkAt H' ps → PkOk (rs.map (·.2)) (ps.map (·.2)) → Q (.ref pk) H'
theorem ok__law_picks (T : Txt K mg A D) : FnOk P w K mg base CX0 2 A._law_picks D._law_picks ["_law_script", "_law_start", "_law_row_here"] (sp__law_picks K) := by
  refine T.F__law_picks.ok sc__law_picks (fun vs H Q E h => ?_) (fun cdv A' outer s0 H vs Q E hr h => ?_)
  · obtain ⟨a, ns, st, p, rs, rfl, _⟩ := h; rfl
  · obtain ⟨a, ns, st, p, rs, rfl, hS, hl, hp, hRA, hR, k⟩ := h
    refine ⟨_, (pss_cons (ps_set (i := 3) sc__law_picks.nd rfl (Or.inl rfl) (pe_callTy (call_listK (K := K)) (by rfl) T.b_list (by decide +kernel) (pa_cons (pv 2) pa_nil)))
      (pss_cons (ps_set (i := 4) sc__law_picks.nd rfl (Or.inl rfl) (pe_lst pa_nil))
      (pss_cons (ps_for PassesOwn.never rfl (pi_range1 (by rfl) T.b_range (pa_cons (pe_op op_mod (pe_call (ok__law_cell (K := K) T) (hr.mono (by decide)) (by rfl) T.m__law_cell T.k__law_cell (b__law_cell T) .nil pass0 (pa_cons (pv 0) (pa_cons (pv 1) pa_nil))) (pe_op op_add (pe_callB (call_lenK (K := K)) (by rfl) T.b_len (by decide +kernel) (pa_cons (pv 2) pa_nil)) pe_int)) pa_nil)) (pg_name (i := 5) sc__law_picks.nd rfl (Or.inl rfl))
        (pss_cons (ps_set (i := 6) sc__law_picks.nd rfl (Or.inl rfl) (pe_call (ok__law_cell (K := K) T) (hr.mono (by decide)) (by rfl) T.m__law_cell T.k__law_cell (b__law_cell T) .nil pass0 (pa_cons (pv 0) (pa_cons (pe_op op_add (pe_op op_add (pv 1) pe_int) (pv 5)) pa_nil))))
        (pss_cons (ps_set (i := 7) sc__law_picks.nd rfl (Or.inl rfl) (pe_bmK (K := K) PySem.F.plainAttrs_list PySem.F.slot_list_pop PySem.F.type_list_pop mt_popAt (pv 3) (pa_cons (pe_op op_mod (pv 6) (pe_callB (call_lenK (K := K)) (by rfl) T.b_len (by decide +kernel) (pa_cons (pv 3) pa_nil))) pa_nil)))
        (pss_cons (ps_set (i := 8) sc__law_picks.nd rfl (Or.inl rfl) (pe_op op_add pe_int (pe_op op_mod (pe_op op_fdivB (pv 6) pe_int) (pe_ix (ix_tupK (K := K)) (pv 7) pe_int (fun _ _ => rfl)))))
        (pss_cons (ps_if (pt_cmpR (op_eq) (pe_op op_mod (pe_op op_fdivB (pv 6) pe_int) pe_int) pe_int (nomark _)) (pss_one (ps_set (i := 8) sc__law_picks.nd rfl (Or.inl rfl) (pe_ix (ix_tupK (K := K)) (pv 7) pe_int (fun _ _ => rfl)))) pss_nil)
        (pss_one (ps_expr (pe_bmK (K := K) PySem.F.plainAttrs_list PySem.F.slot_list_append PySem.F.type_list_append mt_append (pv 4) (pa_cons (pe_tup (pa_cons (pe_ix (ix_tupK (K := K)) (pv 7) pe_int (fun _ _ => rfl)) (pa_cons (pv 8) pa_nil))) pa_nil)))))))))
      (pss_one (ps_ret (pv 4)))))), ?_⟩
    have hl40 : rs.length ≤ 40 := by have := hR.l; rwa [List.length_map] at this
    simp only [start_eq]
    walk_at "nx"
    refine ⟨_, .inl (SqL.of hp), fun pl hpl => ?_⟩
    have S1 := Same.new (o := .lst (refsR rs)) hpl
    have h1 : (upd H pl (.lst (refsR rs))) pl = some (.lst (refsR rs)) := upd_same
    generalize upd H pl (.lst (refsR rs)) = H1 at S1 h1
    walk_at "nx"
    refine ⟨by rw [sizeLine_eq]; decide, fun pq hpq => ?_⟩
    have S2 := S1.trans (Same.new (o := .lst []) hpq)
    have h2 : (upd H1 pq (.lst [])) pq = some (.lst []) := upd_same
    have h2l := Same.new (o := .lst []) hpq _ _ h1
    have hBq := S1.free hpq
    have hlq : pl ≠ pq := ne_of_none h1 hpq
    generalize upd H1 pq (.lst []) = H2 at S2 h2 h2l
    rw [ap_seq, ap_for]
    walk_at "rdi"
    refine ⟨a, ns, st, rfl, S2.seq hS, hl, fun H3 s3 => ?_⟩
    have S3 := S2.trans s3
    refine ⟨_, .inl (SqL.of (S3 _ _ hp)), _, rfl, ?_⟩
    rw [refsR_len]
    have hb1 : 0 ≤ cellV ns st % ((rs.length : Int) + 1) := Int.emod_nonneg _ (by omega)
    have hb2 : cellV ns st % ((rs.length : Int) + 1) < (rs.length : Int) + 1 := Int.emod_lt_of_pos _ (by omega)
    refine ⟨by omega, by omega, by omega, ?_⟩
    obtain ⟨n, hn, hnm⟩ : ∃ n : Nat, (cellV ns st % ((rs.length : Int) + 1)).toNat = n ∧ n ≤ rs.length := ⟨_, rfl, by omega⟩
    rw [hn]
    refine ForP.range (lo := 0) (n := n) (fun i σ Hx => ∃ (rl pk : RL) (ps : PL) (w5 w6 w7 w8 : Option V), σ = [some (.ref a), some (.int st), some (.ref p), some (.ref pl), some (.ref pq), w5, w6, w7, w8] ∧ Same H Hx ∧ Hx pl = some (.lst (refsR rl)) ∧ Hx pq = some (.lst (refsP ps)) ∧ PkAt Hx ps ∧ (pk ++ rl).Perm rs ∧ pk.length = i ∧ Paired Pr2 ps pk)
      ⟨rs, [], [], _, _, _, _, rfl, S3, s3 _ _ h2l, s3 _ _ h2, fun r h => (List.not_mem_nil h).elim, List.Perm.refl _, rfl, .nil⟩ ?_ ?_
    · rintro i σ H4 hi ⟨rl, pk, ps, w5, w6, w7, w8, rfl, S4, h4l, h4q, hP4, hpm, hpl4, hpr⟩
      have hrl : rl.length = rs.length - i := by
        have := hpm.length_eq
        rw [List.length_append] at this
        omega
      walk_at "rdi"
      walk_at "nx"
      refine ⟨a, ns, st + 1 + i, congrArg (fun z => [V.ref a, V.int z]) (by omega), S4.seq hS, hl, fun H5 s5 => ?_⟩
      have S5 := S4.trans s5
      have h5l := s5 _ _ h4l
      have h5q := s5 _ _ h4q
      generalize cellV ns (st + 1 + i) = c
      walk_at "nx"
      refine ⟨.inl ⟨rfl, _, SqL.of h5l⟩, _, .inl (SqL.of h5l), ?_⟩
      rw [refsR_len]
      have hc1 : 0 ≤ c % (rl.length : Int) := Int.emod_nonneg _ (by omega)
      have hc2 : c % (rl.length : Int) < rl.length := Int.emod_lt_of_pos _ (by omega)
      obtain ⟨kx, hkx⟩ : ∃ kx, (c % (rl.length : Int)).toNat = kx := ⟨_, rfl⟩
      have hkl : kx < rl.length := by omega
      obtain ⟨x, hx⟩ : ∃ x, rl[kx]'hkl = x := ⟨_, rfl⟩
      have hgx : rl[kx]? = some x := by rw [List.getElem?_eq_getElem hkl, hx]
      have hpx : (x :: rl.eraseIdx kx).Perm rl := by rw [← hx]; exact erase_perm rl kx hkl
      have hxr : x ∈ rs := hpm.mem_iff.mp (List.mem_append_right _ (List.mem_of_getElem? hgx))
      have hgood := hR.g x.2 (List.mem_map.mpr ⟨x, hxr, rfl⟩)
      refine ⟨by omega, pl, _, _, kx, .ref x.1, rfl, rfl, h5l, by omega, by omega, by rw [refsR_len, seq_ix hc1 hc2, hkx], by unfold refsR; rw [List.getElem?_map, hgx]; rfl, ?_⟩
      rw [refs_erase]
      have S6 : Same H (upd H5 pl (.lst (refsR (rl.eraseIdx kx)))) := S5.upd hpl
      have h6l : (upd H5 pl (.lst (refsR (rl.eraseIdx kx)))) pl = some (.lst (refsR (rl.eraseIdx kx))) := upd_same
      have h6q : (upd H5 pl (.lst (refsR (rl.eraseIdx kx)))) pq = some (.lst (refsP ps)) := (upd_ne hlq.symm).trans h5q
      have hP6 : PkAt (upd H5 pl (.lst (refsR (rl.eraseIdx kx)))) ps := fun r hr => (upd_ne fun e => by have := s5 _ _ (hP4 r hr); rw [e, h5l] at this; cases this).trans (s5 _ _ (hP4 r hr))
      generalize upd H5 pl (.lst (refsR (rl.eraseIdx kx))) = H6 at S6 h6l h6q hP6
      have hx6 := S6 _ _ (hRA x hxr)
      walk_at "nx"
      refine ⟨⟨by decide, by decide⟩, _, vs_at hx6, _, rfl, _, rfl, by omega, ?_⟩
      have hw : 1 ≤ 1 + c / 16 % x.2.p ∧ 1 + c / 16 % x.2.p ≤ x.2.p := by
        have a1 := Int.emod_nonneg (c / 16) (show x.2.p ≠ 0 by omega)
        have a2 := Int.emod_lt_of_pos (c / 16) (show 0 < x.2.p by omega)
        omega
      generalize 1 + c / 16 % x.2.p = w0 at hw
      try dsimp only
      refine seq_join (fun σ H' => ∃ w : Int, (1 ≤ w ∧ w ≤ x.2.p) ∧ σ = [some (.ref a), some (.int st), some (.ref p), some (.ref pl), some (.ref pq), some (.int (0 + i)), some (.int c), some (.ref x.1), some (.int w)] ∧ H' = H6) (by walk_at "mono") ?_ ?_
      · walk_at "rdi"
        refine ⟨⟨by decide, by decide⟩, by decide, ?_⟩
        split
        · exact ⟨_, vs_at hx6, _, rfl, x.2.p, by omega, Int.le_refl _, rfl⟩
        · exact ⟨w0, hw.1, hw.2, rfl⟩
      rintro σ H' ⟨w, hwb, rfl, rfl⟩
      walk_at "rdi"
      have hpsl : ps.length = i := (Paired.length hpr).trans hpl4
      refine ⟨.inl ⟨rfl, _, SqL.of h6q⟩, _, vs_at hx6, _, rfl, by rw [sizeLine_eq]; decide, fun t ht => ⟨_, Same.new ht _ _ h6q, by rw [refsP_len, sizeLine_eq]; omega, (S6.trans (Same.new ht)).upd hBq, rl.eraseIdx kx, (upd_ne hlq).trans (Same.new ht _ _ h6l), pk ++ [x], ps ++ [(t, x.2.n, w)], ?_, fun r hr => ?_, ?_, by rw [List.length_append, hpl4]; rfl, paired_snoc hpr ⟨rfl, hwb.1, hwb.2⟩⟩⟩
      · rw [upd_same]; unfold refsP; rw [List.map_append]; rfl
      · have hq7 := Same.new (o := .tup [V.int x.2.n, V.int w]) ht _ _ h6q
        rcases List.mem_append.mp hr with hr | hr
        · have h7 := Same.new (o := .tup [V.int x.2.n, V.int w]) ht _ _ (hP6 r hr)
          exact (upd_ne fun e => by rw [e, hq7] at h7; cases h7).trans h7
        · obtain rfl := List.mem_singleton.mp hr
          have htq : t ≠ pq := fun e => by rw [e, h6q] at ht; cases ht
          exact (upd_ne htq).trans upd_same
      · rw [List.append_assoc]
        exact (List.Perm.append_left pk hpx).trans hpm
    · rintro σ H4 ⟨rl, pk, ps, w5, w6, w7, w8, rfl, S4, h4l, h4q, hP4, hpm, hpl4, hpr⟩
      walk_at "rda"
      obtain ⟨e1, e2⟩ := pr2_ok hpr
      refine k pq ps H4 S4 hBq h4q hP4 ⟨?_, fun k' hk' => ?_⟩
      · rw [e1]
        have hu := hR.u
        rw [List.map_map] at hu
        have hu2 := (hpm.map fun r => r.2.n).nodup_iff.mpr hu
        rw [List.map_append] at hu2
        exact (List.nodup_append.mp hu2).1
      · obtain ⟨r, g1, g2, g3⟩ := e2 k' hk'
        exact ⟨r.2, List.mem_map.mpr ⟨r, hpm.mem_iff.mp (List.mem_append_left _ g1), rfl⟩, g2, g3⟩
end
end My
namespace My
open PySem L2 PyProof.Rows
section
variable {P : Program} {w : World} {K : PySem.W.Frag} {mg : Str → Option Value} {base : Heap} {A : Adr} {D : Fds}
theorem look_mem {ks : Pk} {n w : Int} (h : ks.lookup n = some w) : (n, w) ∈ ks := by
  induction ks with
  | nil => cases h
  | cons k ks ih =>
    obtain ⟨a, b⟩ := k
    have h' : (match n == a with | true => some b | false => ks.lookup n) = some w := h
    by_cases e : n = a
    · have e' : (n == a) = true := by simpa using e
      rw [e'] at h'
      cases h'
      rw [e]
      exact List.mem_cons_self
    · have e' : (n == a) = false := by simpa using e
      rw [e'] at h'
      exact List.mem_cons_of_mem _ (ih h')
theorem num_eq {ds : List LotD} (hu : (ds.map LotD.n).Nodup) {d e : LotD} (h1 : d ∈ ds) (h2 : e ∈ ds) (h : d.n = e.n) : d = e := by
  obtain ⟨i, hi, ei⟩ := List.getElem_of_mem h1
  obtain ⟨j, hj, ej⟩ := List.getElem_of_mem h2
  have : i = j := by
    by_cases z : i = j
    · exact z
    · exact (num_ne hu (by rw [List.getElem?_eq_getElem hi, ei]) (by rw [List.getElem?_eq_getElem hj, ej]) z h).elim
  subst this
  rw [← ei, ← ej]
theorem leftD_spec {ds : List LotD} {ks : Pk} (hR : RowOk ds) (hK : PkOk ds ks) {d : LotD} (hd : d ∈ ds) : (leftD ks d).n = d.n ∧ (0 ≤ (leftD ks d).p ∧ (leftD ks d).p ≤ 100000000000) ∧ (0 ≤ (leftD ks d).c ∧ (leftD ks d).c ≤ 100000000000000000000) ∧ (¬ 0 < (leftD ks d).p → (leftD ks d).p = 0 ∧ (leftD ks d).c = 0) := by
  have hg := hR.g d hd
  unfold leftD
  cases e : ks.lookup d.n with
  | none => exact ⟨rfl, ⟨by show 0 ≤ d.p; omega, hg.1.2⟩, hg.2, fun h => absurd (show 0 < d.p by omega) h⟩
  | some w =>
    obtain ⟨d', h1, h2, h3, h4⟩ := hK.h _ (look_mem e)
    obtain rfl := num_eq hR.u h1 hd h2
    have h4 : w ≤ d'.p := h4
    have h3 : 1 ≤ w := h3
    have q1 : 0 ≤ d'.c * w / d'.p := Int.ediv_nonneg (Int.mul_nonneg hg.2.1 (by omega)) (by omega)
    have q2 : d'.c * w / d'.p ≤ d'.c := Int.ediv_le_of_le_mul (by omega) (Int.mul_le_mul_of_nonneg_left h4 hg.2.1)
    refine ⟨rfl, ⟨by show 0 ≤ d'.p - w; omega, by show d'.p - w ≤ _; omega⟩, ⟨by show 0 ≤ d'.c - d'.c * w / d'.p; omega, by show d'.c - d'.c * w / d'.p ≤ _; omega⟩, fun h => ?_⟩
    have h : ¬ 0 < d'.p - w := h
    have ew : w = d'.p := by omega
    refine ⟨by show d'.p - w = 0; omega, ?_⟩
    show d'.c - d'.c * w / d'.p = 0
    rw [ew, Int.mul_ediv_cancel _ (by omega)]
    omega
theorem sum_change {f g : LotD → Int} : ∀ {ds : List LotD} {d0 : LotD}, (ds.map LotD.n).Nodup → d0 ∈ ds → (∀ d ∈ ds, d.n ≠ d0.n → f d = g d) → (ds.map f).sum = (ds.map g).sum - g d0 + f d0
  | [], _, _, h, _ => by cases h
  | d :: ds, d0, hu, h, hf => by
    rw [List.map_cons, List.nodup_cons] at hu
    rw [List.map_cons, List.map_cons, List.sum_cons, List.sum_cons]
    rcases List.mem_cons.mp h with rfl | h
    · have : ds.map f = ds.map g := List.map_congr_left fun e he => hf e (List.mem_cons_of_mem _ he) fun z => hu.1 (by rw [← z]; exact List.mem_map.mpr ⟨e, he, rfl⟩)
      rw [this]
      omega
    · have h1 := sum_change hu.2 h fun e he => hf e (List.mem_cons_of_mem _ he)
      have h2 := hf d List.mem_cons_self fun z => hu.1 (by rw [z]; exact List.mem_map.mpr ⟨d0, h, rfl⟩)
      rw [h1, h2]
      omega
theorem sums_take {ds : List LotD} {ks : Pk} (hR : RowOk ds) (hK : PkOk ds ks) : ∀ i : Nat, i ≤ ks.length →
    (((ks.take i).map (someD ds)).map LotD.p).sum + ((ds.map (leftD (ks.take i))).map LotD.p).sum = (ds.map LotD.p).sum ∧ (((ks.take i).map (someD ds)).map LotD.c).sum + ((ds.map (leftD (ks.take i))).map LotD.c).sum = (ds.map LotD.c).sum
  | 0, _ => by
    have e : ds.map (leftD []) = ds := (List.map_congr_left fun d _ => rfl).trans (List.map_id _)
    rw [List.take_zero, e]
    exact ⟨by simp, by simp⟩
  | i + 1, hi => by
    obtain ⟨h1, h2⟩ := sums_take hR hK i (by omega)
    have hki : ks[i]? = some ks[i] := by simp
    obtain ⟨d, hd, hdn, hw⟩ := hK.h ks[i] (List.getElem_mem _)
    have hnin : d.n ∉ (ks.take i).map (·.1) := by rw [hdn]; exact nodup_at hK.u hki
    have er : ks[i] = (d.n, ks[i].2) := by rw [hdn]
    generalize ks[i].2 = w at er hw
    have etk : ks.take (i + 1) = ks.take i ++ [(d.n, w)] := by rw [List.take_add_one, hki, er]; rfl
    have c1 := sum_change (f := fun e => (leftD (ks.take i ++ [(d.n, w)]) e).p) (g := fun e => (leftD (ks.take i) e).p) hR.u hd fun e _ he => by rw [left_same he]
    have c2 := sum_change (f := fun e => (leftD (ks.take i ++ [(d.n, w)]) e).c) (g := fun e => (leftD (ks.take i) e).c) hR.u hd fun e _ he => by rw [left_same he]
    simp only [left_new hnin, left_old hnin] at c1 c2
    have es := some_at (w := w) hR.u hd
    rw [etk]
    simp only [List.map_map, List.map_append, List.sum_append, List.map_cons, List.map_nil, List.sum_cons, List.sum_nil, Function.comp_def, es] at h1 h2 c1 c2 ⊢
    rw [c1, c2]
    omega
theorem sum_fil {f : LotD → Int} : ∀ {l : List LotD}, (∀ d ∈ l, ¬ 0 < d.p → f d = 0) → ((l.filter fun d => decide (0 < d.p)).map f).sum = (l.map f).sum
  | [], _ => rfl
  | d :: l, h => by
    have ih := sum_fil (l := l) fun e he => h e (List.mem_cons_of_mem _ he)
    by_cases e : 0 < d.p
    · rw [List.filter_cons_of_pos (by simpa using e), List.map_cons, List.map_cons, List.sum_cons, List.sum_cons, ih]
    · rw [List.filter_cons_of_neg (by simpa using e), List.map_cons, List.sum_cons, ih, h d List.mem_cons_self e]
      omega
theorem sums_all {ds : List LotD} {ks : Pk} (hR : RowOk ds) (hK : PkOk ds ks) : ((ks.map (someD ds)).map LotD.p).sum + ((leftR ks ds).map LotD.p).sum = (ds.map LotD.p).sum ∧ ((ks.map (someD ds)).map LotD.c).sum + ((leftR ks ds).map LotD.c).sum = (ds.map LotD.c).sum := by
  have h := sums_take hR hK ks.length (Nat.le_refl _)
  rw [List.take_length] at h
  have hz : ∀ e ∈ ds.map (leftD ks), ¬ 0 < e.p → e.p = 0 ∧ e.c = 0 := fun e he => by
    obtain ⟨d, hd, rfl⟩ := List.mem_map.mp he
    exact (leftD_spec hR hK hd).2.2.2
  unfold leftR
  rw [sum_fil (f := LotD.p) fun e he h0 => (hz e he h0).1, sum_fil (f := LotD.c) fun e he h0 => (hz e he h0).2]
  exact h
theorem left_ok {ds : List LotD} {ks : Pk} (hR : RowOk ds) (hK : PkOk ds ks) : RowOk (leftR ks ds) := by
  have e : (ds.map (leftD ks)).map LotD.n = ds.map LotD.n := by
    rw [List.map_map]
    exact List.map_congr_left fun d hd => (leftD_spec hR hK hd).1
  refine ⟨?_, fun z hz => ?_, ?_⟩
  · refine List.Nodup.sublist ?_ hR.u
    rw [← e]
    exact List.Sublist.map _ List.filter_sublist
  · obtain ⟨h1, h2⟩ := List.mem_filter.mp hz
    obtain ⟨d, hd, rfl⟩ := List.mem_map.mp h1
    have hs := leftD_spec hR hK hd
    have h2 : 0 < (leftD ks d).p := by simpa using h2
    exact ⟨⟨by omega, hs.2.1.2⟩, hs.2.2.1⟩
  · have := List.length_filter_le (fun d : LotD => decide (0 < d.p)) (ds.map (leftD ks))
    rw [List.length_map] at this
    have := hR.l
    unfold leftR
    omega
end
end My
namespace My
open PySem L2 PyProof.Rows
section
variable {P : Program} {w : World} {K : PySem.W.Frag} {mg : Str → Option Value} {base : Heap} {A : Adr} {D : Fds}
def shares (a W : Int) : Int → List Int → List Int
  | _, [] => []
  | t, w :: r => (a * (t + w) / W - a * t / W) :: shares a W (t + w) r
theorem shares_snoc (a W : Int) : ∀ (t : Int) (l : List Int) (x : Int), shares a W t (l ++ [x]) = shares a W t l ++ [a * (t + l.sum + x) / W - a * (t + l.sum) / W]
  | t, [], x => by simp [shares]
  | t, y :: r, x => by
    show _ :: shares a W (t + y) (r ++ [x]) = _ :: shares a W (t + y) r ++ _
    rw [shares_snoc a W (t + y) r x, List.sum_cons, Int.add_assoc t y r.sum]
    rfl
theorem shares_len (a W : Int) : ∀ (t : Int) (l : List Int), (shares a W t l).length = l.length
  | _, [] => rfl
  | t, y :: r => congrArg (· + 1) (shares_len a W (t + y) r)
theorem shares_sum (a W : Int) : ∀ (t : Int) (l : List Int), (shares a W t l).sum = a * (t + l.sum) / W - a * t / W
  | t, [] => by simp [shares]
  | t, y :: r => by
    show ((a * (t + y) / W - a * t / W) :: shares a W (t + y) r).sum = _
    rw [List.sum_cons, shares_sum a W (t + y) r, List.sum_cons, Int.add_assoc t y r.sum]
    omega
theorem shares_take (a W : Int) : ∀ (t : Int) (l : List Int) (i : Nat), (shares a W t l).take i = shares a W t (l.take i)
  | _, _, 0 => by simp [shares]
  | _, [], _ + 1 => by simp [shares]
  | t, y :: r, i + 1 => by
    show _ :: (shares a W (t + y) r).take i = _ :: shares a W (t + y) (r.take i)
    rw [shares_take a W (t + y) r i]
theorem sum_nonneg : ∀ {l : List Int}, (∀ x ∈ l, 0 ≤ x) → 0 ≤ l.sum
  | [], _ => by simp
  | x :: r, h => by
    have h1 := h x List.mem_cons_self
    have h2 := sum_nonneg (l := r) fun y hy => h y (List.mem_cons_of_mem _ hy)
    rw [List.sum_cons]
    omega
theorem sum_take_le {l : List Int} (h : ∀ x ∈ l, 0 ≤ x) (i : Nat) : 0 ≤ (l.take i).sum ∧ (l.take i).sum ≤ l.sum := by
  have h1 : 0 ≤ (l.take i).sum := sum_nonneg fun x hx => h x (List.mem_of_mem_take hx)
  have h2 : 0 ≤ (l.drop i).sum := sum_nonneg fun x hx => h x (List.mem_of_mem_drop hx)
  have h3 : l.sum = (l.take i).sum + (l.drop i).sum := by rw [← List.sum_append, List.take_append_drop]
  omega
theorem shares_get (a W : Int) : ∀ (t : Int) (l : List Int) (i : Nat) (x : Int), l[i]? = some x → (shares a W t l)[i]? = some (a * (t + (l.take i).sum + x) / W - a * (t + (l.take i).sum) / W)
  | t, [], i, x, h => by simp at h
  | t, y :: r, 0, x, h => by
    have e : y = x := by simpa using h
    subst e
    simp [shares]
  | t, y :: r, i + 1, x, h => by
    have h' : r[i]? = some x := by simpa using h
    have ih := shares_get a W (t + y) r i x h'
    show (shares a W (t + y) r)[i]? = _
    rw [ih, List.take_succ_cons, List.sum_cons, ← Int.add_assoc t y]
theorem sum_le {B : Int} : ∀ {l : List Int}, (∀ x ∈ l, x ≤ B) → l.sum ≤ (l.length : Int) * B
  | [], _ => by simp
  | x :: r, h => by
    have h1 := h x List.mem_cons_self
    have h2 := sum_le (l := r) fun y hy => h y (List.mem_cons_of_mem _ hy)
    rw [List.sum_cons, List.length_cons, Int.natCast_add, Int.add_mul]
    omega
end
end My
namespace My
open PySem L2 PyProof.Rows
section
variable {P : Program} {w : World} {K : PySem.W.Frag} {mg : Str → Option Value} {base : Heap} {A : Adr} {D : Fds}
def sp_sum_of_weights (K : PySem.W.Frag) : Sp := fun vs H Q _ => ∃ (l : Addr) (ws : List Int), vs = [.ref l] ∧ SqL K H l (ws.map V.int) ∧ (∀ x ∈ ws, 0 ≤ x) ∧ 0 < ws.sum ∧ ws.length ≤ 1000 ∧ ∀ H', Same H H' → Q (.int ws.sum) H'
theorem ok_sum_of_weights (T : Txt K mg A D) : FnOk P w K mg base CX0 1 A.sum_of_weights D.sum_of_weights ["weights"] (sp_sum_of_weights K) := by
  refine T.F_sum_of_weights.ok sc_sum_of_weights (fun vs H Q E h => ?_) (fun cdv A outer s H vs Q E hr h => ?_)
  · obtain ⟨l, ws, rfl, _⟩ := h; rfl
  · obtain ⟨l, ws, rfl, hS, h0, hp, hl, k⟩ := h
    refine ⟨_, (pss_cons (ps_if (pt_val (pe_callB (call_anyK (K := K) rfl) (by rfl) T.b_any (by decide +kernel) (pa_cons (pe_comp (cap := [Option.none]) (N' := ["weight"]) rfl (by walk_at "compok") (pi_listK (K := K) (pv 0)) (fun _ _ _ _ => (pg_name (i := 0) (show (["weight"] : List Str).Nodup from by decide +kernel) rfl (Or.inl rfl) (Or.inr rfl))) (fun _ _ _ _ => pts_nil) (fun _ _ _ _ => (pe_cmpR (op_lt) (pv 0) pe_int (nomark _)))) pa_nil))) (pss_one (ps_never)) pss_nil)
      (pss_cons (ps_set (i := 1) sc_sum_of_weights.nd rfl (Or.inl rfl) (pe_callB (call_sumK (K := K) rfl) (by rfl) T.b_sum (by decide +kernel) (pa_cons (pv 0) pa_nil)))
      (pss_cons (ps_if (pt_cmpR (op_eq) (pv 1) pe_int (nomark _)) (pss_one (ps_never)) pss_nil)
      (pss_one (ps_ret (pv 1)))))), ?_⟩
    walk_at "rd"
    walk_at "rdi"
    refine ⟨⟨_, hS⟩, ?_⟩
    refine CompP.list (xs := ws.map V.int) (fun σ => ∃ v, σ = [v]) (fun _ => true) (fun v => match v with | .int z => .bl (decide (z < 0)) | _ => .non) hS ⟨Option.none, rfl⟩ (by rw [List.length_map, sizeLine_eq]; omega) ?_ ?_
    · rintro x hx σ H5 R1 R2 ⟨v, rfl⟩ sm k1 k2
      obtain ⟨c, _, rfl⟩ := List.mem_map.mp hx
      walk_at "rd"
      exact k1 rfl _ _ ⟨_, rfl⟩ (Same.refl _)
    · intro Da H' hD sm e
      rw [filt_true, List.map_map] at e
      walk_at "rdi"
      refine ⟨ws.map fun z => decide (z < 0), SqL.of (by rw [e, List.map_map]; rfl), ?_⟩
      have hany : (ws.map fun z => decide (z < 0)).any id = false := by
        rw [List.any_eq_false]
        intro b hb
        obtain ⟨z, hz, rfl⟩ := List.mem_map.mp hb
        have := h0 z hz
        simp only [id, decide_eq_true_eq]
        omega
      rw [hany]
      walk_at "rda"
      refine ⟨ws, sm.seq hS, ?_⟩
      rw [if_neg (by omega)]
      exact k H' sm
def sp_dealt (K : PySem.W.Frag) : Sp := fun vs H Q _ => ∃ (a : Int) (l : Addr) (ws : List Int), vs = [.int a, .ref l] ∧ SqL K H l (ws.map V.int) ∧ (∀ x ∈ ws, 0 ≤ x) ∧ 0 < ws.sum ∧ ws.length ≤ 1000 ∧ a.natAbs < 2 ^ 300 ∧ ws.sum.natAbs < 2 ^ 300 ∧ FreshInts H Q (shares a ws.sum 0 ws)
theorem ok_dealt (T : Txt K mg A D) : FnOk P w K mg base CX0 2 A.dealt D.dealt ["amount", "weights"] (sp_dealt K) := by
  refine T.F_dealt.ok sc_dealt (fun vs H Q E h => ?_) (fun cdv A outer s H vs Q E hr h => ?_)
  · obtain ⟨a, l, ws, rfl, _⟩ := h; rfl
  · obtain ⟨a, l, ws, rfl, hS, h0, hp, hl, ha, hw, k⟩ := h
    refine ⟨_, (pss_cons (ps_set (i := 2) sc_dealt.nd rfl (Or.inl rfl) (pe_call (ok_sum_of_weights (K := K) T) (hr.mono (by decide)) (by rfl) T.m_sum_of_weights T.k_sum_of_weights (b_sum_of_weights T) .nil pass0 (pa_cons (pv 1) pa_nil)))
      (pss_cons (ps_set (i := 3) sc_dealt.nd rfl (Or.inl rfl) (pe_lst pa_nil))
      (pss_cons (ps_set (i := 4) sc_dealt.nd rfl (Or.inl rfl) pe_int)
      (pss_cons (ps_set (i := 5) sc_dealt.nd rfl (Or.inl rfl) pe_int)
      (pss_cons (ps_for PassesOwn.never rfl (pi_listK (K := K) (pv 1)) (pg_name (i := 6) sc_dealt.nd rfl (Or.inl rfl))
        (pss_cons (ps_set (i := 4) sc_dealt.nd rfl (Or.inl rfl) (pe_op op_add (pv 4) (pv 6)))
        (pss_cons (ps_set (i := 7) sc_dealt.nd rfl (Or.inl rfl) (pe_call (ok_part_of (K := K) T) (hr.mono (by decide)) (by rfl) T.m_part_of T.k_part_of (b_part_of T) .nil pass0 (pa_cons (pv 0) (pa_cons (pv 4) (pa_cons (pv 2) pa_nil)))))
        (pss_cons (ps_expr (pe_bmK (K := K) PySem.F.plainAttrs_list PySem.F.slot_list_append PySem.F.type_list_append mt_append (pv 3) (pa_cons (pe_op op_sub (pv 7) (pv 5)) pa_nil)))
        (pss_one (ps_set (i := 5) sc_dealt.nd rfl (Or.inl rfl) (pv 7)))))))
      (pss_one (ps_ret (pv 3)))))))), ?_⟩
    walk_at "rd"
    refine ⟨l, ws, rfl, hS, h0, hp, hl, fun H1 s1 => ?_⟩
    walk_at "rd"
    refine ⟨Nat.zero_le _, fun p hp1 => ⟨⟨_, (s1.trans (Same.new hp1)).seq hS⟩, ?_⟩⟩
    have hpn : H p = Option.none := s1.free hp1
    have hd : CDivB 0 ws.sum := ⟨hp, abs_mono hw (by decide)⟩
    refine ForP.list (xs := ws.map V.int) (fun i σ H2 => (∃ v6 v7, σ = [some (.int a), some (.ref l), some (.int ws.sum), some (.ref p), some (.int (ws.take i).sum), some (.int (a * (ws.take i).sum / ws.sum)), v6, v7]) ∧ Same H H2 ∧ H2 p = some (.lst ((shares a ws.sum 0 (ws.take i)).map V.int)))
      ⟨⟨Option.none, Option.none, by simp⟩, s1.upd hpn, by rw [upd_same]; simp [shares]⟩ (fun i σ H2 _ ⟨_, s2, _⟩ => s2.seq hS) ?_ ?_
    · rintro i y σ H2 hi ⟨⟨v6, v7, rfl⟩, s2, h2⟩
      obtain ⟨x, rfl, hxi⟩ := map_get hi
      have hil : i < ws.length := (List.getElem?_eq_some_iff.mp hxi).1
      have ht : ws.take (i + 1) = ws.take i ++ [x] := by rw [List.take_add_one, hxi]; rfl
      have hs1 : (ws.take (i + 1)).sum = (ws.take i).sum + x := by rw [ht, List.sum_append]; simp
      have hb := sum_take_le h0 (i + 1)
      rw [hs1] at hb
      walk_at "rd"
      refine ⟨a, (ws.take i).sum + x, ws.sum, rfl, CMulU.big (abs_mono ha (by decide)) (Nat.lt_of_le_of_lt (show _ ≤ ws.sum.natAbs by omega) (abs_mono hw (by decide))), hd, ?_⟩
      walk_at "rd"
      refine ⟨tyL (SqL.of h2), _, h2, ?_, by rw [hs1], by rw [hs1], s2.upd hpn, ?_⟩
      · rw [List.length_map, shares_len, List.length_take]
        exact small1000 (by omega)
      · rw [upd_same, ht, shares_snoc, List.map_append, Int.zero_add]
        rfl
    · rintro σ H2 ⟨⟨v6, v7, rfl⟩, s2, h2⟩
      rw [List.length_map, List.take_length] at h2
      walk_at "rd"
      exact k p H2 s2 hpn h2
end
end My
namespace My
open PySem L2 PyProof.Rows
section
variable {P : Program} {w : World} {K : PySem.W.Frag} {mg : Str → Option Value} {base : Heap} {A : Adr} {D : Fds}
local macro_rules | `(tactic| walk_at "nx") => `(tactic| ((try dsimp only); rw [ap_seq]; walk_at "rdi"))
def spW (z : Str) : Sp := fun vs H Q _ => ∃ x : Addr, vs = [.ref x] ∧ Q (.str z) H
theorem ok_Eldest_word (T : Txt K mg A D) : FnOk P w K mg base CX0 1 A.Eldest_word D.Eldest_word ["self"] (spW "eldest") := by
  refine T.F_Eldest_word.ok sc_Eldest_word (fun vs H Q E h => ?_) (fun cdv A' outer s0 H vs Q E hr h => ?_)
  · obtain ⟨x, rfl, _⟩ := h; rfl
  · obtain ⟨x, rfl, k⟩ := h
    refine ⟨_, (pss_one (ps_ret pe_str)), ?_⟩
    walk_at "rda"
    exact k
theorem ok_Newest_word (T : Txt K mg A D) : FnOk P w K mg base CX0 1 A.Newest_word D.Newest_word ["self"] (spW "newest") := by
  refine T.F_Newest_word.ok sc_Newest_word (fun vs H Q E h => ?_) (fun cdv A' outer s0 H vs Q E hr h => ?_)
  · obtain ⟨x, rfl, _⟩ := h; rfl
  · obtain ⟨x, rfl, k⟩ := h
    refine ⟨_, (pss_one (ps_ret pe_str)), ?_⟩
    walk_at "rda"
    exact k
theorem ok_Dearest_word (T : Txt K mg A D) : FnOk P w K mg base CX0 1 A.Dearest_word D.Dearest_word ["self"] (spW "dearest") := by
  refine T.F_Dearest_word.ok sc_Dearest_word (fun vs H Q E h => ?_) (fun cdv A' outer s0 H vs Q E hr h => ?_)
  · obtain ⟨x, rfl, _⟩ := h; rfl
  · obtain ⟨x, rfl, k⟩ := h
    refine ⟨_, (pss_one (ps_ret pe_str)), ?_⟩
    walk_at "rda"
    exact k
theorem ok_Mean_word (T : Txt K mg A D) : FnOk P w K mg base CX0 1 A.Mean_word D.Mean_word ["self"] (spW "mean") := by
  refine T.F_Mean_word.ok sc_Mean_word (fun vs H Q E h => ?_) (fun cdv A' outer s0 H vs Q E hr h => ?_)
  · obtain ⟨x, rfl, _⟩ := h; rfl
  · obtain ⟨x, rfl, k⟩ := h
    refine ⟨_, (pss_one (ps_ret pe_str)), ?_⟩
    walk_at "rda"
    exact k
def sp_Way_levelled : Sp := fun vs H Q _ => ∃ (x q : Addr) (xs : List V), vs = [.ref x, .ref q] ∧ H q = some (.lst xs) ∧ ∀ l, H l = Option.none → Q (.ref l) (upd H l (.lst xs))
theorem ok_Way_levelled (T : Txt K mg A D) : FnOk P w K mg base CX0 1 A.Way_levelled D.Way_levelled ["self", "lots"] sp_Way_levelled := by
  refine T.F_Way_levelled.ok sc_Way_levelled (fun vs H Q E h => ?_) (fun cdv A' outer s0 H vs Q E hr h => ?_)
  · obtain ⟨x, q, xs, rfl, _⟩ := h; rfl
  · obtain ⟨x, q, xs, rfl, hq, k⟩ := h
    refine ⟨_, (pss_one (ps_ret (pe_callTy (call_listK (K := K)) (by rfl) T.b_list (by decide +kernel) (pa_cons (pv 1) pa_nil)))), ?_⟩
    walk_at "rda"
    exact ⟨_, .inl (SqL.of hq), fun l hl => k l hl⟩
inductive WayC (A : Adr) : Str → Addr → Prop
  | e : WayC A "eldest" A.C_Eldest
  | n : WayC A "newest" A.C_Newest
  | d : WayC A "dearest" A.C_Dearest
  | m : WayC A "mean" A.C_Mean
theorem WayC.is {z : Str} {C : Addr} (h : WayC A z C) {z' : Str} {C' : Addr} (h' : WayC A z' C') (e : z' = z) : C' = C := by
  cases h <;> cases h' <;> first | rfl | exact absurd e (by decide +kernel)
theorem ne_next {l : List Str} {i : Nat} {z x : Str} (hx : l[i]? = some x) (hn : ∀ u ∈ l.take i, u ≠ z) (h : x ≠ z) : ∀ u ∈ l.take (i + 1), u ≠ z := by
  rw [List.take_add_one, hx]
  intro u hu
  rcases List.mem_append.mp hu with hu | hu
  · exact hn u hu
  · obtain rfl := List.mem_singleton.mp hu
    exact h
def sp_way_by (A : Adr) : Sp := fun vs H Q _ => ∃ (z : Str) (C : Addr), vs = [.str z] ∧ WayC A z C ∧ ∀ x dx H', Same H H' → H x = Option.none → H' x = some (.ins C dx []) → Q (.ref x) H'
theorem ok_way_by (T : Txt K mg A D) : FnOk P w K mg base CX0 2 A.way_by D.way_by ["word"] (sp_way_by A) := by
  refine T.F_way_by.ok sc_way_by (fun vs H Q E h => ?_) (fun cdv A' outer s0 H vs Q E hr h => ?_)
  · obtain ⟨z, C, rfl, _⟩ := h; rfl
  · obtain ⟨z, C, rfl, hC, k⟩ := h
    refine ⟨_, (pss_cons (ps_for PassesOwn.never rfl (pi_listK (K := K) (pe_lst (pa_cons (pe_new0 T.mk0_Eldest (by rfl) T.m_Eldest) (pa_cons (pe_new0 T.mk0_Newest (by rfl) T.m_Newest) (pa_cons (pe_new0 T.mk0_Dearest (by rfl) T.m_Dearest) (pa_cons (pe_new0 T.mk0_Mean (by rfl) T.m_Mean) pa_nil)))))) (pg_name (i := 1) sc_way_by.nd rfl (Or.inl rfl))
        (pss_one (ps_if (pt_cmpR (op_eq) (pe_methD0 (pv 1) (.cons T.cl_Eldest T.me_Eldest_word (ok_Eldest_word (K := K) T) (hr.mono (by decide)) (b_Eldest_word T) (.cons T.cl_Newest T.me_Newest_word (ok_Newest_word (K := K) T) (hr.mono (by decide)) (b_Newest_word T) (.cons T.cl_Dearest T.me_Dearest_word (ok_Dearest_word (K := K) T) (hr.mono (by decide)) (b_Dearest_word T) (.cons T.cl_Mean T.me_Mean_word (ok_Mean_word (K := K) T) (hr.mono (by decide)) (b_Mean_word T) .nil)))) pass0) (pv 0) (nomark _)) (pss_one (ps_ret (pv 1))) pss_nil)))
      (pss_one (ps_never))), ?_⟩
    simp only [start_eq]
    rw [ap_seq, ap_for]
    walk_at "rdi"
    intro x0 d0 hx0 hd0 n0 x1 d1 hx1 hd1 n1 x2 d2 hx2 hd2 n2 x3 d3 hx3 hd3 n3
    refine ⟨by rw [sizeLine_eq]; decide, fun p hp => ⟨⟨_, SqL.of upd_same⟩, ?_⟩⟩
    have a0 := new_mk (C := A.C_Eldest) hx0 hd0
    have a1 := new_mk (C := A.C_Newest) hx1 hd1
    have a2 := new_mk (C := A.C_Dearest) hx2 hd2
    have a3 := new_mk (C := A.C_Mean) hx3 hd3
    have ap := Same.new (o := .lst [V.ref x0, V.ref x1, V.ref x2, V.ref x3]) hp
    have t3 := a3.s.trans ap
    have t2 := a2.s.trans t3
    have t1 := a1.s.trans t2
    have S := a0.s.trans t1
    have f0 := t1 _ _ a0.h
    have f1 := t2 _ _ a1.h
    have f2 := t3 _ _ a2.h
    have f3 := ap _ _ a3.h
    have e1 := a0.s.free hx1
    have e2 := (a0.s.trans a1.s).free hx2
    have e3 := (a0.s.trans (a1.s.trans a2.s)).free hx3
    have hl : (upd (upd (upd (upd (upd (upd (upd (upd (upd H d0 (HO.own x0)) x0 (HO.ins A.C_Eldest d0 [])) d1 (HO.own x1)) x1 (HO.ins A.C_Newest d1 [])) d2 (HO.own x2)) x2 (HO.ins A.C_Dearest d2 [])) d3 (HO.own x3)) x3 (HO.ins A.C_Mean d3 [])) p (HO.lst [V.ref x0, V.ref x1, V.ref x2, V.ref x3])) p = some (.lst [V.ref x0, V.ref x1, V.ref x2, V.ref x3]) := upd_same
    clear a0 a1 a2 a3 ap t1 t2 t3
    generalize upd _ p (HO.lst [V.ref x0, V.ref x1, V.ref x2, V.ref x3]) = Hf at S f0 f1 f2 f3 hl
    refine ForP.list (K := K) (a := p) (xs := [V.ref x0, V.ref x1, V.ref x2, V.ref x3]) (fun i σ H' => (∃ v, σ = [some (.str z), v]) ∧ H' = Hf ∧ ∀ u ∈ (["eldest", "newest", "dearest", "mean"] : List Str).take i, u ≠ z)
      ⟨⟨_, rfl⟩, rfl, fun u h => (List.not_mem_nil h).elim⟩ (fun i σ H' _ ⟨_, e, _⟩ => e ▸ SqL.of hl) ?_ ?_
    · rintro i y σ H' hy ⟨⟨v, rfl⟩, rfl, hn⟩
      rcases i with _ | _ | _ | _ | i
      · cases hy
        walk_at "rdi"
        refine ⟨_, d0, _, f0, _, List.mem_cons_self, by rfl, x0, rfl, rfl, ?_⟩
        by_cases hz : Str.ofString "eldest" = z
        · rw [if_pos (by rw [hz])]
          exact k x0 d0 _ S hx0 (hC.is (WayC.e (A := A)) hz ▸ f0)
        · rw [if_neg (by simpa using hz)]
          exact ⟨rfl, ne_next (i := 0) rfl hn hz⟩
      · cases hy
        walk_at "rdi"
        refine ⟨_, d1, _, f1, _, (List.mem_cons_of_mem _ List.mem_cons_self), by rfl, x1, rfl, rfl, ?_⟩
        by_cases hz : Str.ofString "newest" = z
        · rw [if_pos (by rw [hz])]
          exact k x1 d1 _ S e1 (hC.is (WayC.n (A := A)) hz ▸ f1)
        · rw [if_neg (by simpa using hz)]
          exact ⟨rfl, ne_next (i := 1) rfl hn hz⟩
      · cases hy
        walk_at "rdi"
        refine ⟨_, d2, _, f2, _, (List.mem_cons_of_mem _ (List.mem_cons_of_mem _ List.mem_cons_self)), by rfl, x2, rfl, rfl, ?_⟩
        by_cases hz : Str.ofString "dearest" = z
        · rw [if_pos (by rw [hz])]
          exact k x2 d2 _ S e2 (hC.is (WayC.d (A := A)) hz ▸ f2)
        · rw [if_neg (by simpa using hz)]
          exact ⟨rfl, ne_next (i := 2) rfl hn hz⟩
      · cases hy
        walk_at "rdi"
        refine ⟨_, d3, _, f3, _, (List.mem_cons_of_mem _ (List.mem_cons_of_mem _ (List.mem_cons_of_mem _ List.mem_cons_self))), by rfl, x3, rfl, rfl, ?_⟩
        by_cases hz : Str.ofString "mean" = z
        · rw [if_pos (by rw [hz])]
          exact k x3 d3 _ S e3 (hC.is (WayC.m (A := A)) hz ▸ f3)
        · rw [if_neg (by simpa using hz)]
          exact ⟨rfl, ne_next (i := 3) rfl hn hz⟩
      · cases hy
    · rintro σ H' ⟨⟨v, rfl⟩, rfl, hn⟩
      have hn : ∀ u ∈ (["eldest", "newest", "dearest", "mean"] : List Str), u ≠ z := hn
      cases hC with
      | e => exact (hn _ List.mem_cons_self rfl).elim
      | n => exact (hn _ (List.mem_cons_of_mem _ List.mem_cons_self) rfl).elim
      | d => exact (hn _ (List.mem_cons_of_mem _ (List.mem_cons_of_mem _ List.mem_cons_self)) rfl).elim
      | m => exact (hn _ (List.mem_cons_of_mem _ (List.mem_cons_of_mem _ (List.mem_cons_of_mem _ List.mem_cons_self))) rfl).elim
end
end My
namespace My
open PySem L2 PyProof.Rows
section
variable {P : Program} {w : World} {K : PySem.W.Frag} {mg : Str → Option Value} {base : Heap} {A : Adr} {D : Fds}
local macro_rules | `(tactic| walk_at "nx") => `(tactic| ((try dsimp only); rw [ap_seq]; walk_at "rdi"))
theorem acc_ints {ls : RL} {f : Addr × LotD → Int} {acc : List V} (hl : acc.length = ls.length) (h : ∀ (i : Nat) v, acc[i]? = some v → ∃ l, ls[i]? = some l ∧ v = .int (f l)) : acc = (ls.map f).map V.int := by
  refine List.ext_getElem (by simp [hl]) fun i h1 h2 => ?_
  obtain ⟨l, e1, e2⟩ := h i acc[i] (by simp)
  rw [e2]
  have h3 : i < ls.length := by omega
  have : ls[i] = l := by
    rw [List.getElem?_eq_getElem h3] at e1
    exact Option.some.inj e1
  simp [this]
def sp_cost_in (A : Adr) : Sp := fun vs H Q _ => ∃ (q : Addr) (ls : RL), vs = [.ref q] ∧ H q = some (.lst (refsR ls)) ∧ LotAt A H ls ∧ ls.length ≤ 100 ∧ ∀ H', Same H H' → Q (.int (ls.map (·.2.c)).sum) H'
theorem ok_cost_in (T : Txt K mg A D) : FnOk P w K mg base CX0 1 A.cost_in D.cost_in ["lots"] (sp_cost_in A) := by
  refine T.F_cost_in.ok sc_cost_in (fun vs H Q E h => ?_) (fun cdv A' outer s0 H vs Q E hr h => ?_)
  · obtain ⟨q, ls, rfl, _⟩ := h; rfl
  · obtain ⟨q, ls, rfl, hq, hL, hl, k⟩ := h
    refine ⟨_, (pss_one (ps_ret (pe_callB (call_sumK (K := K) rfl) (by rfl) T.b_sum (by decide +kernel) (pa_cons (pe_comp (cap := [Option.none]) (N' := ["lot"]) rfl (by walk_at "compok") (pi_listK (K := K) (pv 0)) (fun _ _ _ _ => (pg_name (i := 0) (show (["lot"] : List Str).Nodup from by decide +kernel) rfl (Or.inl rfl) (Or.inr rfl))) (fun _ _ _ _ => pts_nil) (fun _ _ _ _ => (pe_fldK (K := K) (pv 0) rfl))) pa_nil)))), ?_⟩
    walk_at "rda"
    refine ⟨⟨_, SqL.of hq⟩, ?_⟩
    refine CompP.listE (K := K) (fun σ => ∃ a, σ = [a]) (fun i v _ => ∃ l, ls[i]? = some l ∧ v = .int l.2.c) (SqL.of hq) ⟨_, rfl⟩ (by rw [refsR_len, sizeLine_eq]; omega) ?_ ?_
    · rintro Da i x hx σ H5 R ⟨_, rfl⟩ sm hD _ kk
      obtain ⟨l, hl', rfl⟩ := refsR_get hx
      obtain ⟨dx, hdx⟩ := (hL l (get_mem hl')).same sm
      walk_at "rdi"
      exact ⟨_, dx, _, hdx, T.cl_Lot, T.n_Lot_cost, _, by rfl, kk _ _ H5 ⟨_, rfl⟩ (Same.refl _) fun H' _ => ⟨l, hl', rfl⟩⟩
    · intro Da H' acc hD sm hA hlen hF
      rw [acc_ints (f := fun l => l.2.c) (by rw [hlen, refsR_len]) hF] at hA
      walk_at "rda"
      exact ⟨_, SqL.of hA, k H' sm⟩
def lev (ds : List LotD) : List LotD := List.zipWith (fun d c => ⟨d.n, d.s, d.p, c⟩) ds (shares (ds.map LotD.c).sum (ds.map LotD.p).sum 0 (ds.map LotD.p))
structure Fit (ds : List LotD) : Prop where
  l : ds.length ≤ 100
  p : ∀ d ∈ ds, 1 ≤ d.p ∧ d.p ≤ 1000000000
  c : (ds.map LotD.c).sum.natAbs < 2 ^ 300
theorem Fit.ps {ds : List LotD} (h : Fit ds) : ∀ x ∈ ds.map LotD.p, 0 ≤ x := fun x hx => by
  obtain ⟨d, hd, rfl⟩ := List.mem_map.mp hx
  have := h.p d hd
  omega
theorem Fit.pos {ds : List LotD} (h : Fit ds) (hne : ds ≠ []) : 0 < (ds.map LotD.p).sum := by
  cases ds with
  | nil => exact (hne rfl).elim
  | cons d ds =>
    have h1 := h.p d List.mem_cons_self
    have h2 : 0 ≤ (ds.map LotD.p).sum := sum_nonneg fun x hx => h.ps x (List.mem_cons_of_mem _ hx)
    rw [List.map_cons, List.sum_cons]
    omega
theorem Fit.small {ds : List LotD} (h : Fit ds) : (ds.map LotD.p).sum.natAbs < 2 ^ 300 := by
  have h1 := sum_nonneg h.ps
  have h2 : (ds.map LotD.p).sum ≤ ((ds.map LotD.p).length : Int) * 1000000000 := sum_le fun x hx => by
    obtain ⟨d, hd, rfl⟩ := List.mem_map.mp hx
    exact (h.p d hd).2
  rw [List.length_map] at h2
  have h3 := h.l
  omega
def sp_Mean_levelled (A : Adr) : Sp := fun vs H Q _ => ∃ (x q : Addr) (ls : RL), vs = [.ref x, .ref q] ∧ H q = some (.lst (refsR ls)) ∧ LotAt A H ls ∧ Fit (ls.map (·.2)) ∧
  ∀ l ls' H', Same H H' → H l = Option.none → H' l = some (.lst (refsR ls')) → LotAt A H' ls' → ls'.map (·.2) = lev (ls.map (·.2)) → Q (.ref l) H'
theorem ok_Mean_levelled (T : Txt K mg A D) : FnOk P w K mg base CX0 3 A.Mean_levelled D.Mean_levelled ["self", "lots"] (sp_Mean_levelled A) := by
  refine T.F_Mean_levelled.ok sc_Mean_levelled (fun vs H Q E h => ?_) (fun cdv A' outer s0 H vs Q E hr h => ?_)
  · obtain ⟨x, q, ls, rfl, _⟩ := h; rfl
  · obtain ⟨x, q, ls, rfl, hq, hL, hF, k⟩ := h
    have hl : ls.length ≤ 100 := by have := hF.l; rwa [List.length_map] at this
    refine ⟨_, (pss_cons (ps_if (pt_cmpR (op_eq) (pe_callB (call_lenK (K := K)) (by rfl) T.b_len (by decide +kernel) (pa_cons (pv 1) pa_nil)) pe_int (nomark _)) (pss_one (ps_ret (pe_lst pa_nil))) pss_nil)
      (pss_cons (ps_set (i := 2) sc_Mean_levelled.nd rfl (Or.inl rfl) (pe_call (ok_dealt (K := K) T) (hr.mono (by decide)) (by rfl) T.m_dealt T.k_dealt (b_dealt T) .nil pass0 (pa_cons (pe_call (ok_cost_in (K := K) T) (hr.mono (by decide)) (by rfl) T.m_cost_in T.k_cost_in (b_cost_in T) .nil pass0 (pa_cons (pv 1) pa_nil)) (pa_cons (pe_comp (cap := [Option.none]) (N' := ["lot"]) rfl (by walk_at "compok") (pi_listK (K := K) (pv 1)) (fun _ _ _ _ => (pg_name (i := 0) (show (["lot"] : List Str).Nodup from by decide +kernel) rfl (Or.inl rfl) (Or.inr rfl))) (fun _ _ _ _ => pts_nil) (fun _ _ _ _ => (pe_fldK (K := K) (pv 0) rfl))) pa_nil))))
      (pss_one (ps_ret (pe_comp (cap := [Option.none, Option.none]) (N' := ["lot", "cost"]) rfl (by walk_at "compok") (pi_zip (K := K) (by rfl) T.b_zip (pa_cons (pv 1) (pa_cons (pv 2) pa_nil))) (fun _ _ _ _ => (pg_tupK (K := K) (n := 2) rfl (pgs_cons (pg_name (i := 0) (show (["lot", "cost"] : List Str).Nodup from by decide +kernel) rfl (Or.inl rfl) (Or.inr rfl)) (pgs_cons (pg_name (i := 1) (show (["lot", "cost"] : List Str).Nodup from by decide +kernel) rfl (Or.inl rfl) (Or.inr rfl)) pgs_nil)))) (fun _ _ _ _ => pts_nil) (fun _ _ _ _ => (pe_make T.mk_Lot (ok_Lot___init__ (K := K) T) (hr.mono (by decide)) (by rfl) T.m_Lot (b_Lot___init__ T) .nil pass0 (pa_cons (pe_fldK (K := K) (pv 0) rfl) (pa_cons (pe_fldK (K := K) (pv 0) rfl) (pa_cons (pe_fldK (K := K) (pv 0) rfl) (pa_cons (pv 1) pa_nil))))))))))), ?_⟩
    simp only [start_eq]
    walk_at "nx"
    refine ⟨_, .inl (SqL.of hq), ?_⟩
    rw [refsR_len]
    by_cases h0 : ls = []
    · subst h0
      rw [if_pos (by simp)]
      exact ⟨by rw [sizeLine_eq]; decide, fun p hp => k p [] _ (Same.new hp) hp upd_same (fun r h => (List.not_mem_nil h).elim) rfl⟩
    · have hpos : 0 < ls.length := List.length_pos_iff.mpr h0
      rw [if_neg (by omega)]
      walk_at "nx"
      refine ⟨q, ls, rfl, hq, hL, hl, fun H1 s1 => ⟨⟨_, SqL.of (s1 _ _ hq)⟩, ?_⟩⟩
      refine CompP.listE (K := K) (fun σ => ∃ a, σ = [a]) (fun i v _ => ∃ l, ls[i]? = some l ∧ v = .int l.2.p) (SqL.of (s1 _ _ hq)) ⟨_, rfl⟩ (by rw [refsR_len, sizeLine_eq]; omega) ?_ ?_
      · rintro Da i x hx σ H5 R ⟨_, rfl⟩ sm hD _ kk
        obtain ⟨l, hl', rfl⟩ := refsR_get hx
        obtain ⟨dx, hdx⟩ := (hL l (get_mem hl')).same (s1.trans sm)
        walk_at "rdi"
        exact ⟨_, dx, _, hdx, T.cl_Lot, T.n_Lot_pieces, _, by rfl, kk _ _ H5 ⟨_, rfl⟩ (Same.refl _) fun H' _ => ⟨l, hl', rfl⟩⟩
      · intro Da H2 acc hD sm hA hlen hFF
        rw [acc_ints (f := fun l => l.2.p) (by rw [hlen, refsR_len]) hFF] at hA
        have ep : (ls.map (·.2)).map LotD.p = ls.map (fun l => l.2.p) := by rw [List.map_map]; rfl
        have ec : (ls.map (·.2)).map LotD.c = ls.map (fun l => l.2.c) := by rw [List.map_map]; rfl
        have g1 := hF.ps
        have g2 := hF.pos (by simpa using h0)
        have g3 := hF.small
        have g4 := hF.c
        rw [ep] at g1 g2 g3
        rw [ec] at g4
        have S2 := s1.trans sm
        refine ⟨_, Da, _, rfl, SqL.of hA, g1, g2, by rw [List.length_map]; omega, g4, g3, fun pc H3 s3 hpn hpc => ?_⟩
        have S3 := S2.trans s3
        walk_at "rdi"
        refine ⟨⟨_, SqL.of (S3 _ _ hq)⟩, ⟨_, SqL.of hpc⟩, ?_⟩
        refine CompP.zipE (K := K) (fun σ => ∃ a b, σ = [a, b]) (fun i v H' => ∃ b l c, ls[i]? = some l ∧ (shares (ls.map (fun l => l.2.c)).sum (ls.map (fun l => l.2.p)).sum 0 (ls.map (fun l => l.2.p)))[i]? = some c ∧ v = .ref b ∧ IsLot A H' b ⟨l.2.n, l.2.s, l.2.p, c⟩) (SqL.of (S3 _ _ hq)) (SqL.of hpc) (by rw [refsR_len, List.length_map, shares_len, List.length_map]) ⟨_, _, rfl⟩ (by rw [refsR_len, sizeLine_eq]; omega) ?_ ?_
        · rintro Db i x y hx hy σ H5 p R ⟨_, _, rfl⟩ sm5 hDb ⟨acc5, hA5⟩ hp kk
          obtain ⟨l, hl', rfl⟩ := refsR_get hx
          obtain ⟨c, rfl, hc⟩ := map_get hy
          obtain ⟨dx, hdx⟩ := (hL l (get_mem hl')).same (S3.trans sm5)
          have hdx := Same.new (o := .tup [V.ref l.1, V.int c]) hp _ _ hdx
          have hpp : (upd H5 p (.tup [V.ref l.1, V.int c])) p = some (.tup [V.ref l.1, V.int c]) := upd_same
          have hA6 := Same.new (o := .tup [V.ref l.1, V.int c]) hp _ _ hA5
          generalize upd H5 p (.tup [V.ref l.1, V.int c]) = H6 at hdx hpp hA6 kk
          walk_at "rdi"
          refine ⟨_, SqT.of hpp, rfl, _, _, rfl, _, _, rfl, rfl, ?_⟩
          refine ⟨_, rfl, _, dx, _, hdx, T.cl_Lot, T.n_Lot_number, _, by rfl, _, rfl, _, dx, _, hdx, T.cl_Lot, T.n_Lot_since, _, by rfl, _, rfl, _, dx, _, hdx, T.cl_Lot, T.n_Lot_pieces, _, by rfl, fun z dz hz hdz _ => ?_⟩
          refine spLot_of (A := A) ⟨l.2.n, l.2.s, l.2.p, c⟩ hz hdz fun H7 s7 hZ => kk (.ref z) _ H7 ⟨_, _, rfl⟩ s7 fun H' hb => ⟨z, l, c, hl', hc, rfl, hZ.but (fun e => by rw [e, hA6] at hz; cases hz) hb⟩
        · intro Db H4 acc4 hDb sm4 hA4 hlen4 hF4
          rw [refsR_len] at hlen4
          obtain ⟨ls', q1, q2, q3⟩ := refs_of (fun _ H r => IsLot A H r.1 r.2) (H := H4) (acc := acc4) (ds := lev (ls.map (·.2))) (by
            unfold lev
            simp [List.length_zipWith, shares_len, hlen4]) fun i v hv => by
            obtain ⟨b, l, c, h1, h2, h3, h4⟩ := hF4 i v hv
            refine ⟨b, _, ?_, h3, h4⟩
            unfold lev
            rw [List.getElem?_zipWith, ep, ec, List.getElem?_map, h1, h2]
            rfl
          exact k Db ls' H4 (S3.trans sm4) (S3.free hDb) (q1 ▸ hA4) q3 q2
end
end My
namespace My
open PySem L2 PyProof.Rows
section
variable {P : Program} {w : World} {K : PySem.W.Frag} {mg : Str → Option Value} {base : Heap} {A : Adr} {D : Fds}
local macro_rules | `(tactic| walk_at "nx") => `(tactic| ((try dsimp only); rw [ap_seq]; walk_at "rdi"))
theorem lev_get {ds : List LotD} {i : Nat} {d : LotD} (h : ds[i]? = some d) : (lev ds)[i]? = some ⟨d.n, d.s, d.p, (ds.map LotD.c).sum * (((ds.take i).map LotD.p).sum + d.p) / (ds.map LotD.p).sum - (ds.map LotD.c).sum * ((ds.take i).map LotD.p).sum / (ds.map LotD.p).sum⟩ := by
  unfold lev
  have h1 : (ds.map LotD.p)[i]? = some d.p := by rw [List.getElem?_map, h]; rfl
  rw [List.getElem?_zipWith, h, shares_get _ _ _ _ _ _ h1, ← List.map_take, Int.zero_add]
theorem lev_len (ds : List LotD) : (lev ds).length = ds.length := by unfold lev; simp [List.length_zipWith, shares_len]
def sp__law_even (K : PySem.W.Frag) : Sp := fun vs H Q _ => ∃ (p : Addr) (rs : RL), vs = [.ref p] ∧ H p = some (.lst (refsR rs)) ∧ RowAt H rs ∧ Fit (rs.map (·.2)) ∧ rs ≠ [] ∧
  ∀ q rs' H', Same H H' → H q = Option.none → H' q = some (.lst (refsR rs')) → RowAt H' rs' → rs'.map (·.2) = lev (rs.map (·.2)) → Q (.ref q) H'
theorem row_comp {H : Hp} {p : Addr} {rs : RL} {Q : VK} {σ : L2.St} (j : Int) (f : Addr × LotD → Int) (hj : ∀ r : Addr × LotD, atI r.2.vs j = some (.int (f r))) (hp : H p = some (.lst (refsR rs))) (hR : RowAt H rs) (hl : rs.length ≤ 100)
    (k : ∀ D H', H D = Option.none → Same H H' → H' D = some (.lst ((rs.map f).map V.int)) → Q (.ref D) H') : CompP [Option.none] (Itl K p) (gName 0) tNoIf (tOp (rIxT K) (tVar 0) (tC (.int j))) σ H Q := by
  refine CompP.listE (K := K) (fun σ => ∃ a, σ = [a]) (fun i v _ => ∃ l, rs[i]? = some l ∧ v = .int (f l)) (SqL.of hp) ⟨_, rfl⟩ (by rw [refsR_len, sizeLine_eq]; omega) ?_ ?_
  · rintro Da i x hx σ H5 R ⟨_, rfl⟩ sm hD _ kk
    obtain ⟨r, hr', rfl⟩ := refsR_get hx
    walk_at "rdi"
    exact ⟨_, SqT.of (sm _ _ (hR r (get_mem hr'))), _, hj r, kk _ _ H5 ⟨_, rfl⟩ (Same.refl _) fun H' _ => ⟨r, hr', rfl⟩⟩
  · intro Da H' acc hD sm hA hlen hF
    rw [acc_ints (f := f) (by rw [hlen, refsR_len]) hF] at hA
    exact k Da H' hD sm hA
theorem ok__law_even (T : Txt K mg A D) : FnOk P w K mg base CX0 1 A._law_even D._law_even ["_law_row_here"] (sp__law_even K) := by
  refine T.F__law_even.ok sc__law_even (fun vs H Q E h => ?_) (fun cdv A' outer s0 H vs Q E hr h => ?_)
  · obtain ⟨p, rs, rfl, _⟩ := h; rfl
  · obtain ⟨p, rs, rfl, hp, hR, hF, hne, k⟩ := h
    have hl : rs.length ≤ 100 := by have := hF.l; rwa [List.length_map] at this
    obtain ⟨ds, hds⟩ : ∃ ds, rs.map (·.2) = ds := ⟨_, rfl⟩
    rw [hds] at hF k
    have hC : rs.map (fun r => r.2.c) = ds.map LotD.c := by rw [← hds, List.map_map]; rfl
    have hP : rs.map (fun r => r.2.p) = ds.map LotD.p := by rw [← hds, List.map_map]; rfl
    have hdl : ds.length = rs.length := by rw [← hds, List.length_map]
    have hpos := hF.pos (by intro e; rw [e] at hdl; exact hne (List.length_eq_zero_iff.mp hdl.symm))
    refine ⟨_, (pss_cons (ps_set (i := 1) sc__law_even.nd rfl (Or.inl rfl) (pe_callB (call_sumK (K := K) rfl) (by rfl) T.b_sum (by decide +kernel) (pa_cons (pe_comp (cap := [Option.none]) (N' := ["_law_lot"]) rfl (by walk_at "compok") (pi_listK (K := K) (pv 0)) (fun _ _ _ _ => (pg_name (i := 0) (show (["_law_lot"] : List Str).Nodup from by decide +kernel) rfl (Or.inl rfl) (Or.inr rfl))) (fun _ _ _ _ => pts_nil) (fun _ _ _ _ => (pe_ix (ix_tupK (K := K)) (pv 0) pe_int (fun _ _ => rfl)))) pa_nil)))
      (pss_cons (ps_set (i := 2) sc__law_even.nd rfl (Or.inl rfl) (pe_callB (call_sumK (K := K) rfl) (by rfl) T.b_sum (by decide +kernel) (pa_cons (pe_comp (cap := [Option.none]) (N' := ["_law_lot"]) rfl (by walk_at "compok") (pi_listK (K := K) (pv 0)) (fun _ _ _ _ => (pg_name (i := 0) (show (["_law_lot"] : List Str).Nodup from by decide +kernel) rfl (Or.inl rfl) (Or.inr rfl))) (fun _ _ _ _ => pts_nil) (fun _ _ _ _ => (pe_ix (ix_tupK (K := K)) (pv 0) pe_int (fun _ _ => rfl)))) pa_nil)))
      (pss_cons (ps_set (i := 3) sc__law_even.nd rfl (Or.inl rfl) (pe_lst pa_nil))
      (pss_cons (ps_set (i := 4) sc__law_even.nd rfl (Or.inl rfl) pe_int)
      (pss_cons (ps_set (i := 5) sc__law_even.nd rfl (Or.inl rfl) pe_int)
      (pss_cons (ps_for PassesOwn.never rfl (pi_listK (K := K) (pv 0)) (pg_name (i := 6) sc__law_even.nd rfl (Or.inl rfl))
        (pss_cons (ps_set (i := 4) sc__law_even.nd rfl (Or.inl rfl) (pe_op op_add (pv 4) (pe_ix (ix_tupK (K := K)) (pv 6) pe_int (fun _ _ => rfl))))
        (pss_cons (ps_expr (pe_bmK (K := K) PySem.F.plainAttrs_list PySem.F.slot_list_append PySem.F.type_list_append mt_append (pv 3) (pa_cons (pe_tup (pa_cons (pe_ix (ix_tupK (K := K)) (pv 6) pe_int (fun _ _ => rfl)) (pa_cons (pe_ix (ix_tupK (K := K)) (pv 6) pe_int (fun _ _ => rfl)) (pa_cons (pe_ix (ix_tupK (K := K)) (pv 6) pe_int (fun _ _ => rfl)) (pa_cons (pe_op op_sub (pe_op op_fdivB (pe_op op_mulU (pv 1) (pv 4)) (pv 2)) (pv 5)) pa_nil))))) pa_nil)))
        (pss_one (ps_set (i := 5) sc__law_even.nd rfl (Or.inl rfl) (pe_op op_fdivB (pe_op op_mulU (pv 1) (pv 4)) (pv 2)))))))
      (pss_one (ps_ret (pv 3))))))))), ?_⟩
    simp only [start_eq]
    walk_at "nx"
    refine ⟨⟨_, SqL.of hp⟩, row_comp 3 (fun r => r.2.c) (fun _ => rfl) hp hR hl fun D1 H1 hD1 s1 h1 => ?_⟩
    walk_at "rdi"
    refine ⟨_, SqL.of h1, ?_⟩
    rw [hC]
    walk_at "nx"
    refine ⟨⟨_, SqL.of (s1 _ _ hp)⟩, row_comp 2 (fun r => r.2.p) (fun _ => rfl) (s1 _ _ hp) (hR.same s1) hl fun D2 H2 hD2 s2 h2 => ?_⟩
    walk_at "rdi"
    refine ⟨_, SqL.of h2, ?_⟩
    rw [hP]
    walk_at "nx"
    refine ⟨by rw [sizeLine_eq]; decide, fun q hq => ?_⟩
    have S2 := s1.trans s2
    have hqn := S2.free hq
    have S3 := S2.trans (Same.new (o := .lst []) hq)
    have h3 : (upd H2 q (.lst [])) q = some (.lst []) := upd_same
    generalize upd H2 q (.lst []) = H3 at S3 h3
    walk_at "nx"
    walk_at "nx"
    rw [ap_seq, ap_for]
    walk_at "rdi"
    refine ⟨⟨_, SqL.of (S3 _ _ hp)⟩, ?_⟩
    have hcd : CDivB 0 (ds.map LotD.p).sum := ⟨hpos, abs_mono hF.small (by decide)⟩
    have hmu : ∀ i, CMulU (ds.map LotD.c).sum ((ds.take i).map LotD.p).sum := fun i => by
      have := sum_take_le hF.ps i
      rw [← List.map_take] at this
      exact CMulU.big (abs_mono hF.c (by decide)) (Nat.lt_of_le_of_lt (show _ ≤ (ds.map LotD.p).sum.natAbs by omega) (abs_mono hF.small (by decide)))
    refine ForP.list (K := K) (a := p) (xs := refsR rs) (fun i σ H' => ∃ (rs' : RL) (v6 : Option V), rs'.map (·.2) = (lev ds).take i ∧ σ = [some (.ref p), some (.int (ds.map LotD.c).sum), some (.int (ds.map LotD.p).sum), some (.ref q), some (.int ((ds.take i).map LotD.p).sum), some (.int ((ds.map LotD.c).sum * ((ds.take i).map LotD.p).sum / (ds.map LotD.p).sum)), v6] ∧
      Same H H' ∧ H' q = some (.lst (refsR rs')) ∧ RowAt H' rs') ⟨[], Option.none, rfl, by simp, S3, h3, fun r h => (List.not_mem_nil h).elim⟩ (fun i σ H' _ ⟨_, _, _, _, s', _⟩ => s'.seq (SqL.of hp)) ?_ ?_
    · rintro i y σ H4 hy ⟨rs', v6, he, rfl, S4, h4, hR4⟩
      obtain ⟨r, hri, rfl⟩ := refsR_get hy
      have hdi : ds[i]? = some r.2 := by rw [← hds, List.getElem?_map, hri]; rfl
      have hil : i < rs.length := (List.getElem?_eq_some_iff.mp hri).1
      have hr4 := S4 _ _ (hR r (get_mem hri))
      have hsum : ((ds.take (i + 1)).map LotD.p).sum = ((ds.take i).map LotD.p).sum + r.2.p := by rw [List.take_add_one, hdi]; simp
      walk_at "rdi"
      walk_at "nx"
      refine ⟨_, vs_at hr4, _, rfl, _, rfl, ?_⟩
      rw [← hsum]
      walk_at "nx"
      refine ⟨.inl ⟨rfl, _, SqL.of h4⟩, _, vs_at hr4, _, rfl, _, vs_at hr4, _, rfl, _, vs_at hr4, _, rfl, hmu (i + 1), hcd, by rw [sizeLine_eq]; decide, fun t ht => ⟨_, Same.new ht _ _ h4, ?_, ?_⟩⟩
      · rw [refsR_len]
        have := congrArg List.length he
        rw [List.length_map, List.length_take, lev_len] at this
        rw [sizeLine_eq]; omega
      obtain ⟨c, hc⟩ : ∃ c, (ds.map LotD.c).sum * ((ds.take (i + 1)).map LotD.p).sum / (ds.map LotD.p).sum - (ds.map LotD.c).sum * ((ds.take i).map LotD.p).sum / (ds.map LotD.p).sum = c := ⟨_, rfl⟩
      have hlv : (lev ds)[i]? = some ⟨r.2.n, r.2.s, r.2.p, c⟩ := by rw [lev_get hdi, ← hsum, hc]
      rw [hc]
      have htq : t ≠ q := fun e => by rw [e, h4] at ht; cases ht
      refine ⟨hmu (i + 1), hcd, rs' ++ [(t, ⟨r.2.n, r.2.s, r.2.p, c⟩)], ?_, (S4.trans (Same.new ht)).upd hqn, ?_, fun z hz => ?_⟩
      · rw [List.map_append, he, List.take_add_one, hlv]; rfl
      · rw [upd_same]; unfold refsR; rw [List.map_append]; rfl
      · rcases List.mem_append.mp hz with hz | hz
        · have h5 := hR4 z hz
          rw [upd_ne fun e => by rw [e, h4] at h5; cases h5]
          exact Same.new ht _ _ h5
        · obtain rfl := List.mem_singleton.mp hz
          exact (upd_ne htq).trans upd_same
    · rintro σ H4 ⟨rs', v6, he, rfl, S4, h4, hR4⟩
      rw [refsR_len, ← hdl, ← lev_len, List.take_length] at he
      walk_at "rda"
      exact k q rs' H4 S4 hqn h4 hR4 he
end
end My
namespace My
open PySem L2 PyProof.Rows
section
variable {P : Program} {w : World} {K : PySem.W.Frag} {mg : Str → Option Value} {base : Heap} {A : Adr} {D : Fds}
local macro_rules | `(tactic| walk_at "nx") => `(tactic| ((try dsimp only); rw [ap_seq]; walk_at "rdi"))
theorem dep_tup (xs : List Int) : depD (.tup (xs.map DV.int)) = 1 := by
  show depDs (xs.map DV.int) + 1 = 1
  rw [depDs_ints]
theorem rNeD_lot {H : Hp} {Q : VK} {p q : Addr} {d : LotD} (h1 : H p = some (.tup d.vs)) (h2 : H q = some (.tup d.vs)) (hQ : Q (.bl false) H) : rNeD K (.ref p) (.ref q) H Q :=
  ⟨.tup (d.is.map DV.int), .tup (d.is.map DV.int), .tup (SqT.of h1) (repsD_ints K H d.is), .tup (SqT.of h2) (repsD_ints K H d.is), by rw [dep_tup]; decide, by rw [dep_tup]; decide, by rw [deqD_tup, deqDs_ints]; simpa using hQ⟩
def sp__law_are (A : Adr) : Sp := fun vs H Q _ => ∃ (q p : Addr) (ls rs : RL), vs = [.ref q, .ref p] ∧ H q = some (.lst (refsR ls)) ∧ H p = some (.lst (refsR rs)) ∧ LotAt A H ls ∧ RowAt H rs ∧ ls.map (·.2) = rs.map (·.2) ∧ ls.length ≤ 100 ∧
  ∀ H', Same H H' → Q (.bl true) H'
theorem ok__law_are (T : Txt K mg A D) : FnOk P w K mg base CX0 2 A._law_are D._law_are ["_law_lots_here", "_law_row_here"] (sp__law_are A) := by
  refine T.F__law_are.ok sc__law_are (fun vs H Q E h => ?_) (fun cdv A' outer s0 H vs Q E hr h => ?_)
  · obtain ⟨q, p, ls, rs, rfl, _⟩ := h; rfl
  · obtain ⟨q, p, ls, rs, rfl, hq, hp, hL, hR, he, hl, k⟩ := h
    refine ⟨_, (pss_cons (ps_if (PW.pt (pw_or (pt_not (pt_val (pe_callB (call_isTK (K := K)) (by rfl) T.b_isinstance (by decide +kernel) (pa_cons (pv 0) (pa_cons (pe_ty "list" (by rfl) T.b_list (by decide +kernel)) pa_nil))))) (pw_or1 (pt_cmpR (op_ne) (pe_callB (call_lenK (K := K)) (by rfl) T.b_len (by decide +kernel) (pa_cons (pv 0) pa_nil)) (pe_callB (call_lenK (K := K)) (by rfl) T.b_len (by decide +kernel) (pa_cons (pv 1) pa_nil)) (nomark _))))) (pss_one (ps_ret pe_bl)) pss_nil)
      (pss_cons (ps_for PassesOwn.never rfl (pi_zip (K := K) (by rfl) T.b_zip (pa_cons (pv 0) (pa_cons (pv 1) pa_nil))) (pg_tupK (K := K) (n := 2) rfl (pgs_cons (pg_name (i := 2) sc__law_are.nd rfl (Or.inl rfl)) (pgs_cons (pg_name (i := 3) sc__law_are.nd rfl (Or.inl rfl)) pgs_nil)))
        (pss_cons (ps_set (i := 4) sc__law_are.nd rfl (Or.inl rfl) (pe_methD0 (pv 2) (.cons T.cl_Lot T.me_Lot_told (ok_Lot_told (K := K) T) (hr.mono (by decide)) (b_Lot_told T) .nil) pass0))
        (pss_cons (ps_if (PW.pt (pw_or (pt_not (pt_val (pe_callB (call_isCK (K := K)) (by rfl) T.b_isinstance (by decide +kernel) (pa_cons (pv 2) (pa_cons (pe_glob (v := V.ref A.C_Lot) (by rfl) T.m_Lot rfl) pa_nil))))) (pw_or (pt_not (pt_val (pe_callB (call_isTK (K := K)) (by rfl) T.b_isinstance (by decide +kernel) (pa_cons (pv 4) (pa_cons (pe_ty "tuple" (by rfl) T.b_tuple (by decide +kernel)) pa_nil))))) (pw_or1 (pt_cmpR (op_neDK (K := K) hr) (pv 4) (pv 3) (nomark _)))))) (pss_one (ps_ret pe_bl)) pss_nil)
        (pss_one (ps_if (PW.pt (pw_or (pt_cmpR (op_neDK (K := K) hr) (pe_tup (pa_cons (pe_fldK (K := K) (pv 2) rfl) (pa_cons (pe_fldK (K := K) (pv 2) rfl) (pa_cons (pe_fldK (K := K) (pv 2) rfl) (pa_cons (pe_fldK (K := K) (pv 2) rfl) pa_nil))))) (pv 3) (nomark _)) (pw_or1 (pt_not (pt_val (pe_callB (call_allK (K := K) rfl) (by rfl) T.b_all (by decide +kernel) (pa_cons (pe_comp (cap := [Option.none]) (N' := ["_law_part"]) rfl (by walk_at "compok") (pi_tupK (K := K) (pv 4)) (fun _ _ _ _ => (pg_name (i := 0) (show (["_law_part"] : List Str).Nodup from by decide +kernel) rfl (Or.inl rfl) (Or.inr rfl))) (fun _ _ _ _ => pts_nil) (fun _ _ _ _ => (pe_call (ok__law_whole (K := K) T) (hr.mono (by decide)) (by rfl) T.m__law_whole T.k__law_whole (b__law_whole T) .nil pass0 (pa_cons (pv 0) pa_nil)))) pa_nil))))))) (pss_one (ps_ret pe_bl)) pss_nil)))))
      (pss_one (ps_ret pe_bl)))), ?_⟩
    have hlen : ls.length = rs.length := by simpa using congrArg List.length he
    simp only [start_eq]
    walk_at "nx"
    refine ⟨_, .lst hq, true, by with_unfolding_all rfl, ?_⟩
    walk_at "rdi"
    refine ⟨_, .inl (SqL.of hq), _, .inl (SqL.of hp), ?_⟩
    rw [refsR_len, refsR_len, hlen]
    rw [if_neg (by simp), ap_seq, ap_for]
    walk_at "rdi"
    refine ⟨⟨_, SqL.of hq⟩, ⟨_, SqL.of hp⟩, ?_⟩
    refine ForP.zip (K := K) (a := q) (b := p) (xs := refsR ls) (ys := refsR rs) (fun i σ H1 => (∃ v2 v3 v4, σ = [some (.ref q), some (.ref p), v2, v3, v4]) ∧ Same H H1) (by rw [refsR_len, refsR_len, hlen])
      ⟨⟨_, _, _, rfl⟩, Same.refl _⟩ (fun i σ H1 _ ⟨_, s1⟩ => ⟨s1.seq (SqL.of hq), s1.seq (SqL.of hp)⟩) ?_ ?_
    · rintro i x y σ H1 pt hx hy ⟨⟨v2, v3, v4, rfl⟩, s1⟩ hpt
      obtain ⟨l, hl1, rfl⟩ := refsR_get hx
      obtain ⟨r, hr1, rfl⟩ := refsR_get hy
      have ed : l.2 = r.2 := by
        have e1 : (ls.map (·.2))[i]? = some l.2 := by rw [List.getElem?_map, hl1]; rfl
        rw [he, List.getElem?_map, hr1] at e1
        exact (Option.some.inj e1).symm
      obtain ⟨dx, hx0⟩ := hL l (get_mem hl1)
      have hy0 := hR r (get_mem hr1)
      rw [← ed] at hy0
      have s2 := s1.trans (Same.new (o := .tup [V.ref l.1, V.ref r.1]) hpt)
      have hz : (upd H1 pt (.tup [V.ref l.1, V.ref r.1])) pt = some (.tup [V.ref l.1, V.ref r.1]) := upd_same
      generalize upd H1 pt _ = H2 at s2 hz
      walk_at "rdi"
      refine ⟨_, SqT.of hz, rfl, _, _, rfl, _, _, rfl, rfl, ?_⟩
      walk_at "nx"
      refine ⟨_, dx, _, s2 _ _ hx0, _, List.mem_cons_self, by rfl, ?_⟩
      refine ⟨l.1, l.2, rfl, ⟨dx, s2 _ _ hx0⟩, fun t ht => ?_⟩
      have s3 := s2.trans (Same.new (o := .tup l.2.vs) ht)
      have ht3 : (upd H2 t (.tup l.2.vs)) t = some (.tup l.2.vs) := upd_same
      generalize upd H2 t _ = H3 at s3 ht3
      have hx3 := s3 _ _ hx0
      have hy3 := s3 _ _ hy0
      walk_at "nx"
      refine ⟨_, T.ty_Lot.of hx3, _, T.ki_Lot, ?_⟩
      walk_at "rdi"
      refine ⟨_, .tup ht3, true, by with_unfolding_all rfl, ?_⟩
      walk_at "rdi"
      refine rNeD_lot ht3 hy3 ?_
      walk_at "rdi"
      refine ⟨_, dx, _, hx3, T.cl_Lot, T.n_Lot_number, _, by rfl, _, dx, _, hx3, T.cl_Lot, T.n_Lot_since, _, by rfl, _, dx, _, hx3, T.cl_Lot, T.n_Lot_pieces, _, by rfl, _, dx, _, hx3, T.cl_Lot, T.n_Lot_cost, _, by rfl, by rw [sizeLine_eq]; decide, fun t2 ht2 => ?_⟩
      have s4 := s3.trans (Same.new (o := .tup l.2.vs) ht2)
      refine rNeD_lot (d := l.2) (upd_same) ((Same.new ht2) _ _ hy3) ?_
      have ht4 := Same.new (o := .tup l.2.vs) ht2 _ _ ht3
      change Same H (upd H3 t2 (.tup [_, _, _, _])) at s4
      change (upd H3 t2 (.tup [_, _, _, _])) t = _ at ht4
      generalize upd H3 t2 _ = H4 at s4 ht4
      walk_at "rdi"
      refine ⟨⟨_, SqT.of ht4⟩, ?_⟩
      refine CompP.tupF (fun σ => ∃ a, σ = [a]) (fun _ => .bl true) (SqT.of ht4) ⟨_, rfl⟩ (by rw [sizeLine_eq]; show 4 ≤ _; decide) ?_ ?_
      · rintro x hx5 σ H5 R ⟨_, rfl⟩ s5 kk
        obtain ⟨i5, _, rfl⟩ := List.mem_map.mp (show x ∈ l.2.is.map V.int from hx5)
        walk_at "rdi"
        exact ⟨i5, rfl, kk _ H5 ⟨_, rfl⟩ (Same.refl _)⟩
      · intro Da H5 hD s5 hA
        walk_at "rdi"
        refine ⟨[true, true, true, true], SqL.of hA, ?_⟩
        rw [if_neg (by decide)]
        exact s4.trans s5
    · rintro σ H1 ⟨⟨v2, v3, v4, rfl⟩, s1⟩
      walk_at "rda"
      exact k H1 s1
end
end My
namespace My
open PySem L2 PyProof.Rows
section
variable {P : Program} {w : World} {K : PySem.W.Frag} {mg : Str → Option Value} {base : Heap} {A : Adr} {D : Fds}
local macro_rules | `(tactic| walk_at "nx") => `(tactic| ((try dsimp only); rw [ap_seq]; walk_at "rdi"))
def LotD.vs2 (d : LotD) : List V := [.int d.s, .int d.n, .int d.p, .int d.c]
def LotD.is2 (d : LotD) : List Int := [d.s, d.n, d.p, d.c]
structure RowsU (B H : Hp) (pr pk : Addr) (rs : RL) : Prop where
  s : Same B H
  r : H pr = some (.lst (refsR rs))
  k : H pk = some (.lst (rs.map fun r => V.int r.2.n))
  t : ∀ r ∈ rs, H r.1 = some (.tup r.2.vs2)
  g : ∀ r ∈ rs, Good r.2
  u : (rs.map (·.2.n)).Nodup
theorem RowsU.same {B H H' : Hp} {pr pk : Addr} {rs : RL} (h : RowsU B H pr pk rs) (s : Same H H') : RowsU B H' pr pk rs := ⟨h.s.trans s, s _ _ h.r, s _ _ h.k, fun r hr => s _ _ (h.t r hr), h.g, h.u⟩
theorem RowsU.put {B H : Hp} {pr pk q : Addr} {rs : RL} {xs ys : List V} (h : RowsU B H pr pk rs) (hb : B q = Option.none) (h1 : q ≠ pr) (h2 : q ≠ pk) (hq : H q = some (.lst xs)) : RowsU B (upd H q (.lst ys)) pr pk rs :=
  ⟨h.s.upd hb, (upd_ne h1.symm).trans h.r, (upd_ne h2.symm).trans h.k, fun r hr => (upd_ne fun e => by have := h.t r hr; rw [e, hq] at this; cases this).trans (h.t r hr), h.g, h.u⟩
theorem inV_ints (x : Int) (ns : List Int) : inV (.int x) (ns.map V.int) = decide (x ∈ ns) := by
  induction ns with
  | nil => rfl
  | cons n ns ih =>
    show (eqV (.int n) (.int x) || inV (.int x) (ns.map V.int)) = _
    rw [ih]
    show ((n == x) || decide (x ∈ ns)) = _
    by_cases e : n = x
    · simp [e]
    · have e' : ¬ x = n := fun z => e z.symm
      simp [e, e']
theorem flat_ints (ns : List Int) : (ns.map V.int).all flatV = true := by
  rw [List.all_eq_true]
  intro x hx
  obtain ⟨i, _, rfl⟩ := List.mem_map.mp hx
  rfl
theorem nodup_le : ∀ {l k : List Int}, l.Nodup → (∀ x ∈ l, x ∈ k) → l.length ≤ k.length
  | [], _, _, _ => Nat.zero_le _
  | x :: l, k, h, s => by
    have h' := List.nodup_cons.mp h
    have hx : x ∈ k := s x (.head _)
    have := nodup_le (l := l) (k := k.erase x) h'.2 fun y hy => (List.mem_erase_of_ne (fun e => by subst e; exact h'.1 hy)).mpr (s y (.tail _ hy))
    rw [List.length_erase_of_mem hx] at this
    have hp : 0 < k.length := List.length_pos_of_mem hx
    rw [List.length_cons]
    omega
theorem steps_le {kn : List Int} {n0 : Int} {k : Nat} (h0 : 0 ≤ n0) (h1 : n0 < 1000001) (hk : kn.length ≤ 100) (h : ∀ j : Nat, j < k → (n0 + j) % 1000001 ∈ kn) : k ≤ 200 → k ≤ kn.length := by
  intro hk2
  have hn : ((List.range k).map fun j : Nat => (n0 + j) % 1000001).Nodup := by
    rw [List.nodup_iff_pairwise_ne, List.pairwise_map]
    refine List.Pairwise.imp_of_mem (R := fun a b => a < b) (fun {a b} ha hb hab e => ?_) List.pairwise_lt_range
    have h2 := List.mem_range.mp ha
    have h3 := List.mem_range.mp hb
    omega
  have := nodup_le hn fun x hx => by
    obtain ⟨j, hj, rfl⟩ := List.mem_map.mp hx
    exact h j (List.mem_range.mp hj)
  simpa using this
theorem perm_pull {f : Addr × LotD → V} : ∀ {zs ys : List V}, zs.Perm ys → ∀ {rs : RL}, ys = rs.map f → ∃ rs' : RL, zs = rs'.map f ∧ rs'.Perm rs := by
  intro zs ys h
  induction h with
  | nil => intro rs e; exact ⟨[], rfl, by cases rs with | nil => exact .nil | cons _ _ => cases e⟩
  | cons x _ ih =>
    intro rs e
    cases rs with
    | nil => cases e
    | cons r rs =>
      rw [List.map_cons] at e
      obtain ⟨e1, e2⟩ := List.cons.inj e
      obtain ⟨rs', a1, a2⟩ := ih e2
      exact ⟨r :: rs', by rw [List.map_cons, ← a1, e1], a2.cons r⟩
  | swap x y l =>
    intro rs e
    cases rs with
    | nil => cases e
    | cons r rs => cases rs with
      | nil => cases e
      | cons r2 rs =>
        rw [List.map_cons, List.map_cons] at e
        obtain ⟨e1, e2⟩ := List.cons.inj e
        obtain ⟨e3, e4⟩ := List.cons.inj e2
        exact ⟨r2 :: r :: rs, by rw [List.map_cons, List.map_cons, e1, e3, e4], .swap _ _ _⟩
  | trans _ _ ih1 ih2 =>
    intro rs e
    obtain ⟨r2, a1, a2⟩ := ih2 e
    obtain ⟨r3, b1, b2⟩ := ih1 a1
    exact ⟨r3, b1, b2.trans a2⟩
def toI : V → Int
  | .int i => i
  | _ => 0
def tsOf (H : Hp) : V → List Int
  | .ref b => match H b with
    | some (.tup xs) => xs.map toI
    | _ => []
  | _ => []
theorem tsOf_at {H : Hp} {b : Addr} {d : LotD} (h : H b = some (.tup d.vs2)) : tsOf H (.ref b) = d.is2 := by
  show (match H b with | some (.tup xs) => xs.map toI | _ => []) = _
  rw [h]
  rfl
end
end My
namespace My
open PySem L2 PyProof.Rows
section
variable {P : Program} {w : World} {K : PySem.W.Frag} {mg : Str → Option Value} {base : Heap} {A : Adr} {D : Fds}
def sp_Lot_is_dearer (A : Adr) : Sp := fun vs H Q _ => ∃ (x y : Addr) (d e : LotD), vs = [.ref x, .ref y] ∧ IsLot A H x d ∧ IsLot A H y e ∧ CMulU d.c e.p ∧ CMulU e.c d.p ∧ Q (.bl (decide (d.c * e.p > e.c * d.p))) H
theorem ok_Lot_is_dearer (T : Txt K mg A D) : FnOk P w K mg base CX0 1 A.Lot_is_dearer D.Lot_is_dearer ["self", "other"] (sp_Lot_is_dearer A) := by
  refine T.F_Lot_is_dearer.ok sc_Lot_is_dearer (fun vs H Q E h => ?_) (fun cdv A' outer s H vs Q E hr h => ?_)
  · obtain ⟨x, y, d, e, rfl, _⟩ := h; rfl
  · obtain ⟨x, y, ⟨n, s, p, c⟩, ⟨n', s', p', c'⟩, rfl, ⟨dx, hx⟩, ⟨dy, hy⟩, m1, m2, k⟩ := h
    refine ⟨_, (pss_one (ps_ret (pe_cmpR (op_gt) (pe_op op_mulU (pe_fldK (K := K) (pv 0) rfl) (pe_fldK (K := K) (pv 1) rfl)) (pe_op op_mulU (pe_fldK (K := K) (pv 1) rfl) (pe_fldK (K := K) (pv 0) rfl)) (nomark _)))), ?_⟩
    walk_at "rda"
    refine ⟨_, dx, _, hx, T.cl_Lot, T.n_Lot_cost, _, by rfl, ?_⟩
    refine ⟨_, dy, _, hy, T.cl_Lot, T.n_Lot_pieces, _, by rfl, ?_⟩
    exact ⟨_, rfl, _, rfl, m1, _, dy, _, hy, T.cl_Lot, T.n_Lot_cost, _, by rfl, _, dx, _, hx, T.cl_Lot, T.n_Lot_pieces, _, by rfl, _, rfl, _, rfl, m2, k⟩
end
end My
namespace My
open PySem L2 PyProof.Rows
section
variable {P : Program} {w : World} {K : PySem.W.Frag} {mg : Str → Option Value} {base : Heap} {A : Adr} {D : Fds}
local macro_rules | `(tactic| walk_at "nx") => `(tactic| ((try dsimp only); rw [ap_seq]; walk_at "rdi"))
def pickD : List LotD → Int → List (Int × Int)
  | [], _ => []
  | d :: ds, w => if w ≤ 0 then [] else (d.n, min d.p w) :: pickD ds (w - min d.p w)
theorem pickD_le {ds : List LotD} {w : Int} (h : w ≤ 0) : pickD ds w = [] := by
  cases ds with
  | nil => rfl
  | cons d ds => rw [pickD, if_pos h]
def sp_picks_in_turn (A : Adr) : Sp := fun vs H Q _ => ∃ (q : Addr) (ls : RL) (w : Int), vs = [.ref q, .int w] ∧ H q = some (.lst (refsR ls)) ∧ LotAt A H ls ∧ ls.length ≤ 100 ∧
  ∀ pk ps H', Same H H' → H pk = Option.none → H' pk = some (.lst (refsP ps)) → PkAt H' ps → ps.map (·.2) = pickD (ls.map (·.2)) w → Q (.ref pk) H'
theorem ok_picks_in_turn (T : Txt K mg A D) : FnOk P w K mg base CX0 1 A.picks_in_turn D.picks_in_turn ["lots", "pieces"] (sp_picks_in_turn A) := by
  refine T.F_picks_in_turn.ok sc_picks_in_turn (fun vs H Q E h => ?_) (fun cdv A' outer s0 H vs Q E hr h => ?_)
  · obtain ⟨q, ls, w, rfl, _⟩ := h; rfl
  · obtain ⟨q, ls, w, rfl, hq, hL, hl, k⟩ := h
    refine ⟨_, (pss_cons (ps_set (i := 2) sc_picks_in_turn.nd rfl (Or.inl rfl) (pe_lst pa_nil))
      (pss_cons (ps_set (i := 3) sc_picks_in_turn.nd rfl (Or.inl rfl) (pv 1))
      (pss_cons (ps_for PassesOwn.never rfl (pi_listK (K := K) (pv 0)) (pg_name (i := 4) sc_picks_in_turn.nd rfl (Or.inl rfl))
        (pss_cons (ps_if (pt_cmpR (op_le) (pv 3) pe_int (nomark _)) (pss_one (ps_break)) pss_nil)
        (pss_cons (ps_set (i := 5) sc_picks_in_turn.nd rfl (Or.inl rfl) (pe_callB (call_minK rfl) (by rfl) T.b_min (by decide +kernel) (pa_cons (pe_fldK (K := K) (pv 4) rfl) (pa_cons (pv 3) pa_nil))))
        (pss_cons (ps_expr (pe_bmK (K := K) PySem.F.plainAttrs_list PySem.F.slot_list_append PySem.F.type_list_append mt_append (pv 2) (pa_cons (pe_tup (pa_cons (pe_fldK (K := K) (pv 4) rfl) (pa_cons (pv 5) pa_nil))) pa_nil)))
        (pss_one (ps_set (i := 3) sc_picks_in_turn.nd rfl (Or.inl rfl) (pe_op op_sub (pv 3) (pv 5))))))))
      (pss_one (ps_ret (pv 2)))))), ?_⟩
    simp only [start_eq]
    walk_at "nx"
    refine ⟨by rw [sizeLine_eq]; decide, fun pk hpk => ?_⟩
    have S1 := Same.new (o := .lst []) hpk
    have h1 : (upd H pk (.lst [])) pk = some (.lst []) := upd_same
    generalize upd H pk (.lst []) = H1 at S1 h1
    walk_at "nx"
    rw [ap_seq, ap_for]
    walk_at "rdi"
    refine ⟨⟨_, SqL.of (S1 _ _ hq)⟩, ?_⟩
    refine ForP.list (K := K) (a := q) (xs := refsR ls) (fun i σ Hx => ∃ (ps : PL) (wx : Int) (v4 v5 : Option V), σ = [some (.ref q), some (.int w), some (.ref pk), some (.int wx), v4, v5] ∧ Same H Hx ∧ Hx pk = some (.lst (refsP ps)) ∧ PkAt Hx ps ∧ ps.length = i ∧ ps.map (·.2) ++ pickD ((ls.map (·.2)).drop i) wx = pickD (ls.map (·.2)) w)
      ⟨[], w, _, _, rfl, S1, h1, fun r h => (List.not_mem_nil h).elim, rfl, rfl⟩ (fun i σ Hx _ ⟨_, _, _, _, _, s, _⟩ => SqL.of (s _ _ hq)) ?_ ?_
    · rintro i y σ Hx hy ⟨ps, wx, v4, v5, rfl, Sx, hxp, hP, hpl, he⟩
      obtain ⟨l, hl', rfl⟩ := refsR_get hy
      obtain ⟨dy, hdy⟩ := (hL l (get_mem hl')).same Sx
      have hil : i < ls.length := (List.getElem?_eq_some_iff.mp hl').1
      have hd : (ls.map (·.2)).drop i = l.2 :: (ls.map (·.2)).drop (i + 1) := by
        rw [List.drop_eq_getElem_cons (by simpa using hil)]
        congr 1
        rw [List.getElem_map, (List.getElem?_eq_some_iff.mp hl').2]
      walk_at "rdi"
      walk_at "nx"
      by_cases hw : wx ≤ 0
      · rw [if_pos hw]
        refine k pk ps Hx Sx hpk hxp hP ?_
        rw [pickD_le hw, List.append_nil] at he
        exact he
      · rw [if_neg hw]
        walk_at "nx"
        refine ⟨_, dy, _, hdy, T.cl_Lot, T.n_Lot_pieces, _, by rfl, ?_⟩
        refine ⟨_, _, rfl, ?_⟩
        walk_at "nx"
        refine ⟨.inl ⟨rfl, _, SqL.of hxp⟩, _, dy, _, hdy, T.cl_Lot, T.n_Lot_number, _, by rfl, by rw [sizeLine_eq]; decide, fun t ht => ⟨_, Same.new ht _ _ hxp, by rw [refsP_len, sizeLine_eq]; omega, ?_⟩⟩
        have em : (if wx < l.2.p then wx else l.2.p) = min l.2.p wx := by split <;> omega
        rw [em]
        have hnew := Same.new (o := .tup [V.int l.2.n, V.int (min l.2.p wx)]) ht
        have hpt : pk ≠ t := ne_of_none hxp ht
        refine ⟨(Sx.trans hnew).upd hpk, ps ++ [(t, l.2.n, min l.2.p wx)], ?_, fun r hr => ?_, by rw [List.length_append, hpl]; rfl, ?_⟩
        · rw [upd_same]; unfold refsP; rw [List.map_append]; rfl
        · rcases List.mem_append.mp hr with hr | hr
          · have e1 := hP r hr
            exact (upd_ne fun e => by rw [e, hxp] at e1; cases e1).trans (hnew _ _ e1)
          · obtain rfl := List.mem_singleton.mp hr
            exact (upd_ne hpt.symm).trans upd_same
        · rw [hd, pickD, if_neg hw] at he
          rw [List.map_append, List.append_assoc, ← he]
          rfl
    · rintro σ Hx ⟨ps, wx, v4, v5, rfl, Sx, hxp, hP, hpl, he⟩
      walk_at "rda"
      refine k pk ps Hx Sx hpk hxp hP ?_
      rw [List.drop_of_length_le (by rw [List.length_map, refsR_len]; exact Nat.le_refl _), pickD, List.append_nil] at he
      exact he
def insD (d : LotD) (ds : List LotD) : List LotD := ds.takeWhile (fun e => !decide (d.c * e.p > e.c * d.p)) ++ d :: ds.dropWhile (fun e => !decide (d.c * e.p > e.c * d.p))
def dearD (ds : List LotD) : List LotD := ds.foldl (fun t d => insD d t) []
theorem headD_map {α β : Type} (f : α → β) (d : α) : ∀ l : List α, (l.map f).headD (f d) = f (l.headD d)
  | [] => rfl
  | _ :: _ => rfl
theorem first_ix {α : Type} (P : α → Bool) : ∀ xs : List α, ((List.range xs.length).filter fun j => (xs[j]?).any P).headD xs.length = (xs.takeWhile fun e => !P e).length
  | [] => rfl
  | x :: xs => by
    rw [List.length_cons, List.range_succ_eq_map]
    cases h : P x with
    | true =>
      rw [List.filter_cons_of_pos (by simpa using h), List.takeWhile_cons_of_neg (by simp [h])]
      rfl
    | false =>
      rw [List.filter_cons_of_neg (by simp [h]), List.takeWhile_cons_of_pos (by simp [h]), List.filter_map, headD_map Nat.succ, List.length_cons, ← first_ix P xs]
      rfl
theorem ins_at (d : LotD) (ds : List LotD) : insD d ds = ds.take (ds.takeWhile fun e => !decide (d.c * e.p > e.c * d.p)).length ++ d :: ds.drop (ds.takeWhile fun e => !decide (d.c * e.p > e.c * d.p)).length := by
  obtain ⟨a, ha⟩ : ∃ a, ds.takeWhile (fun e => !decide (d.c * e.p > e.c * d.p)) = a := ⟨_, rfl⟩
  obtain ⟨b, hb⟩ : ∃ b, ds.dropWhile (fun e => !decide (d.c * e.p > e.c * d.p)) = b := ⟨_, rfl⟩
  have e : ds = a ++ b := by rw [← ha, ← hb, List.takeWhile_append_dropWhile]
  unfold insD
  rw [ha, hb, e, List.take_left, List.drop_left]
theorem dearD_snoc (ds : List LotD) (d : LotD) : dearD (ds ++ [d]) = insD d (dearD ds) := by
  unfold dearD
  rw [List.foldl_append]
  rfl
def sp_dearest_first (A : Adr) : Sp := fun vs H Q _ => ∃ (q : Addr) (ls : RL), vs = [.ref q] ∧ H q = some (.lst (refsR ls)) ∧ LotAt A H ls ∧ ls.length ≤ 100 ∧ (∀ l ∈ ls, ∀ m ∈ ls, CMulU l.2.c m.2.p) ∧
  ∀ t ls' H', Same H H' → H t = Option.none → H' t = some (.lst (refsR ls')) → ls'.Perm ls → ls'.map (·.2) = dearD (ls.map (·.2)) → Q (.ref t) H'
theorem ok_dearest_first (T : Txt K mg A D) : FnOk P w K mg base CX0 2 A.dearest_first D.dearest_first ["lots"] (sp_dearest_first A) := by
  refine T.F_dearest_first.ok sc_dearest_first (fun vs H Q E h => ?_) (fun cdv A' outer s0 H vs Q E hr h => ?_)
  · obtain ⟨q, ls, rfl, _⟩ := h; rfl
  · obtain ⟨q, ls, rfl, hq, hL, hl, hM, k⟩ := h
    refine ⟨_, (pss_cons (ps_set (i := 1) sc_dearest_first.nd rfl (Or.inl rfl) (pe_lst pa_nil))
      (pss_cons (ps_for PassesOwn.never rfl (pi_listK (K := K) (pv 0)) (pg_name (i := 2) sc_dearest_first.nd rfl (Or.inr rfl))
        (pss_cons (ps_setComp (i := 3) sc_dearest_first.nd rfl rfl (cap := [Option.none, Option.none, some 2]) (N' := ["place", "other", "lot"]) rfl (by walk_at "compok") (pi_enum (K := K) (by rfl) T.b_enumerate (pa_cons (pv 1) pa_nil)) (fun _ _ _ _ => (pg_tupK (K := K) (n := 2) rfl (pgs_cons (pg_name (i := 0) (show (["place", "other", "lot"] : List Str).Nodup from by decide +kernel) rfl (Or.inl rfl) (Or.inr rfl)) (pgs_cons (pg_name (i := 1) (show (["place", "other", "lot"] : List Str).Nodup from by decide +kernel) rfl (Or.inl rfl) (Or.inr rfl)) pgs_nil)))) (fun _ _ _ _ => (pts_one (pt_val (pe_methD (pv 2) (.cons T.cl_Lot T.me_Lot_is_dearer (ok_Lot_is_dearer (K := K) T) (hr.mono (by decide)) (b_Lot_is_dearer T) .nil) pass0 (pa_cons (pv 1) pa_nil))))) (fun _ _ _ _ => (pv 0)))
        (pss_one (ps_expr (pe_bmK (K := K) PySem.F.plainAttrs_list PySem.F.slot_list_insert PySem.F.type_list_insert mt_insert (pv 1) (pa_cons (pe_minDK (K := K) (by rfl) (pe_minD rfl (by rfl) T.b_min (pa_cons (pv 3) pa_nil) (pe_callB (call_lenK (K := K)) (by rfl) T.b_len (by decide +kernel) (pa_cons (pv 1) pa_nil)))) (pa_cons (pv 2) pa_nil)))))))
      (pss_one (ps_ret (pv 1))))), ?_⟩
    simp only [start_eq]
    walk_at "nx"
    refine ⟨by rw [sizeLine_eq]; decide, fun pt hpt => ?_⟩
    have S1 := Same.new (o := .lst []) hpt
    have h1 : (upd H pt (.lst [])) pt = some (.lst []) := upd_same
    generalize upd H pt (.lst []) = H1 at S1 h1
    rw [ap_seq, ap_for]
    walk_at "rdi"
    refine ⟨⟨_, SqL.of (S1 _ _ hq)⟩, ?_⟩
    refine ForP.list (K := K) (a := q) (xs := refsR ls) (fun i σ Hx => ∃ (tl : RL) (v2 v3 : Option V), σ = [some (.ref q), some (.ref pt), v2, v3] ∧ Same H Hx ∧ Hx pt = some (.lst (refsR tl)) ∧ tl.Perm (ls.take i) ∧ tl.map (·.2) = dearD ((ls.map (·.2)).take i))
      ⟨[], _, _, rfl, S1, h1, .refl _, rfl⟩ (fun i σ Hx _ ⟨_, _, _, _, s, _⟩ => SqL.of (s _ _ hq)) ?_ ?_
    · rintro i y σ Hx hy ⟨tl, v2, v3, rfl, Sx, hxt, hpm, he⟩
      obtain ⟨l, hl', rfl⟩ := refsR_get hy
      obtain ⟨dy, hdy⟩ := (hL l (get_mem hl')).same Sx
      have hil : i < ls.length := (List.getElem?_eq_some_iff.mp hl').1
      walk_at "rdi"
      walk_at "nx"
      have htl : tl.length ≤ 100 := by rw [hpm.length_eq, List.length_take]; omega
      have htm : ∀ m ∈ tl, m ∈ ls := fun m hm => List.mem_of_mem_take (hpm.mem_iff.mp hm)
      refine ⟨⟨_, SqL.of hxt⟩, ?_⟩
      refine CompP.enumI (K := K) (fun σ => ∃ a b, σ = [a, b, some (.ref l.1)]) (fun j => ((tl.map (·.2))[j]?).any fun e => decide (l.2.c * e.p > e.c * l.2.p)) (SqL.of hxt) ⟨_, _, rfl⟩ (by rw [refsR_len, sizeLine_eq]; omega) ?_ ?_
      · rintro j x hx σ H5 qt R1 R2 ⟨_, _, rfl⟩ s5 hqt k1 k2
        obtain ⟨m, hm, rfl⟩ := refsR_get hx
        have hm2 := htm m (get_mem hm)
        walk_at "rdi"
        refine ⟨_, SqT.of hqt, rfl, _, _, rfl, _, _, rfl, rfl, _, dy, _, s5 _ _ hdy, _, List.mem_cons_self, by rfl, l.1, m.1, l.2, m.2, rfl, ⟨dy, s5 _ _ hdy⟩, (hL m hm2).same (Sx.trans s5), hM l (get_mem hl') m hm2, hM m hm2 l (get_mem hl'), _, rfl, ?_⟩
        have hpj : (((tl.map (·.2))[j]?).any fun e => decide (l.2.c * e.p > e.c * l.2.p)) = decide (l.2.c * m.2.p > m.2.c * l.2.p) := by rw [List.getElem?_map, hm]; rfl
        by_cases c : l.2.c * m.2.p > m.2.c * l.2.p
        · rw [if_pos (decide_eq_true c)]
          exact k1 (hpj.trans (decide_eq_true c)) _ H5 ⟨_, _, rfl⟩ (Same.refl _)
        · rw [if_neg (fun z => c (of_decide_eq_true z))]
          exact k2 (hpj.trans (decide_eq_false c)) _ H5 ⟨_, _, rfl⟩ (Same.refl _)
      · intro Dc H2 hD s2 hD2
        obtain ⟨n0, hn0⟩ : ∃ n0, ((tl.map (·.2)).takeWhile fun e => !decide (l.2.c * e.p > e.c * l.2.p)).length = n0 := ⟨_, rfl⟩
        have hix := first_ix (fun e : LotD => decide (l.2.c * e.p > e.c * l.2.p)) (tl.map (·.2))
        rw [List.length_map, hn0] at hix
        rw [refsR_len] at hD2
        have hn1 : n0 ≤ tl.length := by
          have := (List.takeWhile_sublist (l := tl.map (·.2)) fun e => !decide (l.2.c * e.p > e.c * l.2.p)).length_le
          rw [List.length_map] at this
          omega
        have hxt2 := s2 _ _ hxt
        refine ⟨.inl ⟨rfl, _, SqL.of hxt2⟩, _, .inl (SqL.of hxt2), Dc, rfl, ((List.range tl.length).filter fun j => ((tl.map (·.2))[j]?).any fun e => decide (l.2.c * e.p > e.c * l.2.p)).map fun i : Nat => (i : Int), SqL.of (by rw [hD2, List.map_map]; rfl), ?_, ?_⟩
        · exact List.pairwise_map.mpr ((List.pairwise_lt_range.filter _).imp fun h => by omega)
        · rw [refsR_len, headD_map (fun i : Nat => (i : Int)) tl.length, hix]
          refine ⟨pt, refsR tl, (n0 : Int), .ref l.1, rfl, rfl, hxt2, by omega, by rw [refsR_len]; omega, by omega, by rw [refsR_len, sizeLine_eq]; omega, (Sx.trans s2).upd hpt, tl.take n0 ++ l :: tl.drop n0, ?_, ?_, ?_⟩
          · rw [upd_same, Int.toNat_natCast]
            unfold refsR
            rw [List.map_append, List.map_cons, List.map_take, List.map_drop]
          · rw [List.take_add_one, hl']
            refine List.Perm.trans ?_ (hpm.append_right _)
            refine List.perm_middle.trans ?_
            rw [List.take_append_drop]
            exact (List.perm_append_singleton _ _).symm
          · rw [List.take_add_one, List.getElem?_map, hl']
            show _ = dearD (_ ++ [l.2])
            rw [dearD_snoc, ← he, ins_at, hn0, List.map_append, List.map_cons, List.map_take, List.map_drop]
    · rintro σ Hx ⟨tl, v2, v3, rfl, Sx, hxt, hpm, he⟩
      walk_at "rda"
      rw [refsR_len] at hpm he
      rw [List.take_length] at hpm
      rw [List.take_of_length_le (by rw [List.length_map]; exact Nat.le_refl _)] at he
      exact k pt tl Hx Sx hpt hxt hpm he
def sp_picksE (A : Adr) : Sp := fun vs H Q _ => ∃ (x q : Addr) (ls : RL) (w : Int), vs = [.ref x, .ref q, .int w] ∧ H q = some (.lst (refsR ls)) ∧ LotAt A H ls ∧ ls.length ≤ 100 ∧ (∀ l ∈ ls, ∀ m ∈ ls, CMulU l.2.c m.2.p) ∧
  ∀ pk ps H', Same H H' → H pk = Option.none → H' pk = some (.lst (refsP ps)) → PkAt H' ps → ps.map (·.2) = pickD (ls.map (·.2)) w → Q (.ref pk) H'
theorem ok_Eldest_picks (T : Txt K mg A D) : FnOk P w K mg base CX0 2 A.Eldest_picks D.Eldest_picks ["self", "lots", "pieces"] (sp_picksE A) := by
  refine T.F_Eldest_picks.ok sc_Eldest_picks (fun vs H Q E h => ?_) (fun cdv A' outer s0 H vs Q E hr h => ?_)
  · obtain ⟨x, q, ls, w, rfl, _⟩ := h; rfl
  · obtain ⟨x, q, ls, w, rfl, hq, hL, hl, hM, k⟩ := h
    refine ⟨_, (pss_one (ps_ret (pe_call (ok_picks_in_turn (K := K) T) (hr.mono (by decide)) (by rfl) T.m_picks_in_turn T.k_picks_in_turn (b_picks_in_turn T) .nil pass0 (pa_cons (pv 1) (pa_cons (pv 2) pa_nil))))), ?_⟩
    walk_at "rda"
    exact ⟨q, ls, w, rfl, hq, hL, hl, fun pk ps H' s h1 h2 h3 h4 => k pk ps H' s h1 h2 h3 h4⟩
def sp_picksN (A : Adr) : Sp := fun vs H Q _ => ∃ (x q : Addr) (ls : RL) (w : Int), vs = [.ref x, .ref q, .int w] ∧ H q = some (.lst (refsR ls)) ∧ LotAt A H ls ∧ ls.length ≤ 100 ∧ (∀ l ∈ ls, ∀ m ∈ ls, CMulU l.2.c m.2.p) ∧
  ∀ pk ps H', Same H H' → H pk = Option.none → H' pk = some (.lst (refsP ps)) → PkAt H' ps → ps.map (·.2) = pickD (ls.map (·.2)).reverse w → Q (.ref pk) H'
theorem ok_Newest_picks (T : Txt K mg A D) : FnOk P w K mg base CX0 2 A.Newest_picks D.Newest_picks ["self", "lots", "pieces"] (sp_picksN A) := by
  refine T.F_Newest_picks.ok sc_Newest_picks (fun vs H Q E h => ?_) (fun cdv A' outer s0 H vs Q E hr h => ?_)
  · obtain ⟨x, q, ls, w, rfl, _⟩ := h; rfl
  · obtain ⟨x, q, ls, w, rfl, hq, hL, hl, hM, k⟩ := h
    refine ⟨_, (pss_one (ps_ret (pe_call (ok_picks_in_turn (K := K) T) (hr.mono (by decide)) (by rfl) T.m_picks_in_turn T.k_picks_in_turn (b_picks_in_turn T) .nil pass0 (pa_cons (pe_listRevK (K := K) (by rfl) (pe_listRev rfl (by rfl) T.b_list (by rfl) T.b_reversed (pa_cons (pv 1) pa_nil))) (pa_cons (pv 2) pa_nil))))), ?_⟩
    walk_at "rda"
    have sn : ∀ t, H t = Option.none → Same H (upd H t (.lst (refsR ls).reverse)) := fun t ht => Same.new ht
    refine ⟨_, SqL.of hq, fun t ht => ⟨t, ls.reverse, w, rfl, by rw [upd_same]; unfold refsR; rw [List.map_reverse], fun r hr => (hL r (List.mem_reverse.mp hr)).same (sn t ht), by rw [List.length_reverse]; exact hl, fun pk ps H2 s2 g1 g2 g3 g4 => k pk ps H2 ((sn t ht).trans s2) ((sn t ht).free g1) g2 g3 (by rw [g4, List.map_reverse])⟩⟩
def sp_picksD (A : Adr) : Sp := fun vs H Q _ => ∃ (x q : Addr) (ls : RL) (w : Int), vs = [.ref x, .ref q, .int w] ∧ H q = some (.lst (refsR ls)) ∧ LotAt A H ls ∧ ls.length ≤ 100 ∧ (∀ l ∈ ls, ∀ m ∈ ls, CMulU l.2.c m.2.p) ∧
  ∀ pk ps H', Same H H' → H pk = Option.none → H' pk = some (.lst (refsP ps)) → PkAt H' ps → ps.map (·.2) = pickD (dearD (ls.map (·.2))) w → Q (.ref pk) H'
theorem ok_Dearest_picks (T : Txt K mg A D) : FnOk P w K mg base CX0 3 A.Dearest_picks D.Dearest_picks ["self", "lots", "pieces"] (sp_picksD A) := by
  refine T.F_Dearest_picks.ok sc_Dearest_picks (fun vs H Q E h => ?_) (fun cdv A' outer s0 H vs Q E hr h => ?_)
  · obtain ⟨x, q, ls, w, rfl, _⟩ := h; rfl
  · obtain ⟨x, q, ls, w, rfl, hq, hL, hl, hM, k⟩ := h
    refine ⟨_, (pss_one (ps_ret (pe_call (ok_picks_in_turn (K := K) T) (hr.mono (by decide)) (by rfl) T.m_picks_in_turn T.k_picks_in_turn (b_picks_in_turn T) .nil pass0 (pa_cons (pe_call (ok_dearest_first (K := K) T) (hr.mono (by decide)) (by rfl) T.m_dearest_first T.k_dearest_first (b_dearest_first T) .nil pass0 (pa_cons (pv 1) pa_nil)) (pa_cons (pv 2) pa_nil))))), ?_⟩
    walk_at "rda"
    refine ⟨q, ls, rfl, hq, hL, hl, hM, fun t ls' H' s h1 h2 hpm he => ?_⟩
    refine ⟨t, ls', w, rfl, h2, fun r hr => (hL r (hpm.mem_iff.mp hr)).same s, by rw [hpm.length_eq]; exact hl, fun pk ps H2 s2 g1 g2 g3 g4 => k pk ps H2 (s.trans s2) (s.free g1) g2 g3 (by rw [g4, he])⟩
end
end My
namespace My
open PySem L2 PyProof.Rows
section
variable {P : Program} {w : World} {K : PySem.W.Frag} {mg : Str → Option Value} {base : Heap} {A : Adr} {D : Fds}
def BfT (d e : LotD) : Prop := d.s < e.s ∨ (d.s = e.s ∧ d.n < e.n)
def Rr (d e : LotD) : Prop := e.c * d.p < d.c * e.p ∨ (e.c * d.p = d.c * e.p ∧ BfT d e)
theorem Rr.le {d e : LotD} (h : Rr d e) : e.c * d.p ≤ d.c * e.p := by
  rcases h with h | h
  · exact Int.le_of_lt h
  · exact Int.le_of_eq h.1
theorem dear_tr {a b l : LotD} (ha : 0 < a.p) (hb : 0 < b.p) (hl : 0 < l.p) (h1 : a.c * b.p ≤ b.c * a.p) (h2 : b.c * l.p < l.c * b.p) : a.c * l.p < l.c * a.p := by
  have e1 := Int.mul_le_mul_of_nonneg_right h1 (Int.le_of_lt hl)
  have e2 := Int.mul_lt_mul_of_pos_right h2 ha
  refine Int.lt_of_mul_lt_mul_right (a := b.p) ?_ (Int.le_of_lt hb)
  rw [Int.mul_right_comm a.c l.p b.p, Int.mul_right_comm l.c a.p b.p]
  rw [Int.mul_right_comm b.c l.p a.p] at e2
  exact Int.lt_of_le_of_lt e1 e2
theorem BfT.asym {d e : LotD} (h : BfT d e) (h' : BfT e d) : False := by
  unfold BfT at h h'
  omega
theorem Rr.asym {d e : LotD} (h : Rr d e) (h' : Rr e d) : False := by
  rcases h with h | ⟨h, hb⟩ <;> rcases h' with h' | ⟨h', hb'⟩
  · omega
  · omega
  · omega
  · exact hb.asym hb'
theorem insD_ok {d : LotD} (hd : 0 < d.p) : ∀ {ds : List LotD}, (∀ e ∈ ds, 0 < e.p) → (∀ e ∈ ds, BfT e d) → ds.Pairwise Rr → (insD d ds).Pairwise Rr ∧ (insD d ds).Perm (d :: ds)
  | [], _, _, _ => ⟨List.pairwise_singleton _ _, .refl _⟩
  | e :: ds, hp, hb, h => by
    have he := hp e List.mem_cons_self
    have hbe := hb e List.mem_cons_self
    obtain ⟨h1, h2⟩ := List.pairwise_cons.mp h
    by_cases c : d.c * e.p > e.c * d.p
    · have ei : insD d (e :: ds) = d :: e :: ds := by
        unfold insD
        rw [List.takeWhile_cons_of_neg (by simp [c]), List.dropWhile_cons_of_neg (by simp [c])]
        rfl
      rw [ei]
      refine ⟨List.pairwise_cons.mpr ⟨fun x hx => ?_, h⟩, .refl _⟩
      rcases List.mem_cons.mp hx with rfl | hx
      · exact .inl c
      · exact .inl (dear_tr (hp x (List.mem_cons_of_mem _ hx)) he hd (h1 x hx).le c)
    · have ei : insD d (e :: ds) = e :: insD d ds := by
        unfold insD
        rw [List.takeWhile_cons_of_pos (by simpa using c), List.dropWhile_cons_of_pos (by simpa using c)]
        rfl
      obtain ⟨i1, i2⟩ := insD_ok hd (ds := ds) (fun x hx => hp x (List.mem_cons_of_mem _ hx)) (fun x hx => hb x (List.mem_cons_of_mem _ hx)) h2
      rw [ei]
      refine ⟨List.pairwise_cons.mpr ⟨fun x hx => ?_, i1⟩, (i2.cons e).trans (.swap _ _ _)⟩
      rcases List.mem_cons.mp (i2.mem_iff.mp hx) with rfl | hx
      · by_cases q : x.c * e.p = e.c * x.p
        · exact .inr ⟨q, hbe⟩
        · exact .inl (by omega)
      · exact h1 x hx
theorem dear_fold : ∀ (ds acc : List LotD), (∀ e ∈ acc, 0 < e.p) → (∀ e ∈ ds, 0 < e.p) → acc.Pairwise Rr → (∀ e ∈ acc, ∀ d ∈ ds, BfT e d) → ds.Pairwise BfT →
    (ds.foldl (fun t d => insD d t) acc).Pairwise Rr ∧ (ds.foldl (fun t d => insD d t) acc).Perm (acc ++ ds)
  | [], acc, _, _, h, _, _ => ⟨h, by rw [List.append_nil]; exact .refl _⟩
  | d :: ds, acc, ha, hd, h, hb, hB => by
    obtain ⟨b1, b2⟩ := List.pairwise_cons.mp hB
    obtain ⟨i1, i2⟩ := insD_ok (hd d List.mem_cons_self) ha (fun e he => hb e he d List.mem_cons_self) h
    obtain ⟨f1, f2⟩ := dear_fold ds (insD d acc) (fun e he => by
      rcases List.mem_cons.mp (i2.mem_iff.mp he) with rfl | he
      · exact hd _ List.mem_cons_self
      · exact ha e he) (fun e he => hd e (List.mem_cons_of_mem _ he)) i1 (fun e he x hx => by
      rcases List.mem_cons.mp (i2.mem_iff.mp he) with rfl | he
      · exact b1 x hx
      · exact hb e he x (List.mem_cons_of_mem _ hx)) b2
    exact ⟨f1, f2.trans ((i2.append_right ds).trans List.perm_middle.symm)⟩
theorem dearD_ok {ds : List LotD} (hp : ∀ e ∈ ds, 0 < e.p) (hB : ds.Pairwise BfT) : (dearD ds).Pairwise Rr ∧ (dearD ds).Perm ds :=
  dear_fold ds [] (fun e h => (List.not_mem_nil h).elim) hp .nil (fun e h => (List.not_mem_nil h).elim) hB
theorem dearD_is {ds ts : List LotD} (hp : ∀ e ∈ ds, 0 < e.p) (hB : ds.Pairwise BfT) (h1 : ts.Perm ds) (h2 : ts.Pairwise Rr) : ts = dearD ds := by
  obtain ⟨d1, d2⟩ := dearD_ok hp hB
  exact List.Perm.eq_of_pairwise (fun a b _ _ x y => (x.asym y).elim) h2 d1 (h1.trans d2.symm)
def turnD (z : Str) (ds : List LotD) : List LotD := if z = "newest" then ds.reverse else if z = "dearest" then dearD ds else ds
end
end My
namespace My
open PySem L2 PyProof.Rows
section
variable {P : Program} {w : World} {K : PySem.W.Frag} {mg : Str → Option Value} {base : Heap} {A : Adr} {D : Fds}
theorem zip_c (c : List Int) : ∀ ds : List LotD, ds.length = c.length → (List.zipWith (fun d c => (⟨d.n, d.s, d.p, c⟩ : LotD)) ds c).map LotD.c = c := by
  induction c with
  | nil => intro ds h; cases ds with | nil => rfl | cons _ _ => simp at h
  | cons x c ih => intro ds h; cases ds with | nil => simp at h | cons d ds => rw [List.zipWith_cons_cons, List.map_cons, ih ds (by simpa using h)]
theorem zip_p (c : List Int) : ∀ ds : List LotD, ds.length = c.length → (List.zipWith (fun d c => (⟨d.n, d.s, d.p, c⟩ : LotD)) ds c).map LotD.p = ds.map LotD.p := by
  induction c with
  | nil => intro ds h; cases ds with | nil => rfl | cons _ _ => simp at h
  | cons x c ih => intro ds h; cases ds with | nil => simp at h | cons d ds => rw [List.zipWith_cons_cons, List.map_cons, ih ds (by simpa using h), List.map_cons]
theorem zip_zip (c : List Int) : ∀ (ds : List LotD) (b : List Int), ds.length = c.length → b.length = c.length → List.zipWith (fun d c => (⟨d.n, d.s, d.p, c⟩ : LotD)) (List.zipWith (fun d c => (⟨d.n, d.s, d.p, c⟩ : LotD)) ds b) c = List.zipWith (fun d c => (⟨d.n, d.s, d.p, c⟩ : LotD)) ds c := by
  induction c with
  | nil => intro ds b h h'; cases ds with | nil => simp | cons _ _ => simp at h
  | cons x c ih =>
    intro ds b h h'
    cases ds with
    | nil => simp at h
    | cons d ds => cases b with
      | nil => simp at h'
      | cons y b => rw [List.zipWith_cons_cons, List.zipWith_cons_cons, List.zipWith_cons_cons, ih ds b (by simpa using h) (by simpa using h')]
theorem lev_c (ds : List LotD) : (lev ds).map LotD.c = shares (ds.map LotD.c).sum (ds.map LotD.p).sum 0 (ds.map LotD.p) := zip_c _ _ (by simp [shares_len])
theorem lev_p (ds : List LotD) : (lev ds).map LotD.p = ds.map LotD.p := zip_p _ _ (by simp [shares_len])
theorem lev_sum {ds : List LotD} (h : Fit ds) : ((lev ds).map LotD.c).sum = (ds.map LotD.c).sum := by
  rw [lev_c, shares_sum]
  by_cases e : ds = []
  · subst e; rfl
  · have := h.pos e
    rw [Int.zero_add, Int.mul_zero, Int.zero_ediv, Int.mul_ediv_cancel _ (by omega), Int.sub_zero]
theorem lev_fit {ds : List LotD} (h : Fit ds) : Fit (lev ds) := by
  refine ⟨by rw [lev_len]; exact h.l, fun d hd => ?_, by rw [lev_sum h]; exact h.c⟩
  have h1 : d.p ∈ (lev ds).map LotD.p := List.mem_map.mpr ⟨d, hd, rfl⟩
  rw [lev_p] at h1
  obtain ⟨d', hd', e⟩ := List.mem_map.mp h1
  rw [← e]
  exact h.p d' hd'
theorem pickD_len : ∀ (ds : List LotD) (w : Int), (pickD ds w).length ≤ ds.length
  | [], _ => Nat.le_refl _
  | d :: ds, w => by
    rw [pickD]
    split
    · exact Nat.zero_le _
    · rw [List.length_cons, List.length_cons]
      exact Nat.succ_le_succ (pickD_len ds _)
theorem turnD_len {z : Str} {ds : List LotD} (hp : ∀ e ∈ ds, 0 < e.p) (hB : ds.Pairwise BfT) : (turnD z ds).length = ds.length := by
  unfold turnD
  split
  · exact List.length_reverse
  · split
    · exact (dearD_ok hp hB).2.length_eq
    · rfl
theorem turnD_pm {z : Str} {ds : List LotD} (hp : ∀ e ∈ ds, 0 < e.p) (hB : ds.Pairwise BfT) : (turnD z ds).Perm ds := by
  unfold turnD
  split
  · exact List.reverse_perm ds
  · split
    · exact (dearD_ok hp hB).2
    · exact .refl _
theorem pickD_sub : ∀ (ds : List LotD) (w : Int), ((pickD ds w).map (·.1)).Sublist (ds.map LotD.n)
  | [], _ => .slnil
  | d :: ds, w => by
    rw [pickD]
    split
    · exact List.nil_sublist _
    · exact (pickD_sub ds _).cons_cons _
theorem pickD_mem : ∀ {ds : List LotD} {w : Int} {k : Int × Int}, (∀ d ∈ ds, 1 ≤ d.p) → k ∈ pickD ds w → ∃ d ∈ ds, d.n = k.1 ∧ 1 ≤ k.2 ∧ k.2 ≤ d.p
  | [], _, _, _, h => by cases h
  | d :: ds, w, k, hp, h => by
    rw [pickD] at h
    split at h
    · cases h
    · rcases List.mem_cons.mp h with rfl | h
      · have := hp d List.mem_cons_self
        exact ⟨d, List.mem_cons_self, rfl, by show 1 ≤ min d.p w; omega, by show min d.p w ≤ d.p; omega⟩
      · obtain ⟨e, h1, h2⟩ := pickD_mem (fun e he => hp e (List.mem_cons_of_mem _ he)) h
        exact ⟨e, List.mem_cons_of_mem _ h1, h2⟩
structure R33 (ds : List LotD) : Prop where
  u : (ds.map LotD.n).Nodup
  b : ds.Pairwise BfT
  p : ∀ d ∈ ds, 1 ≤ d.p ∧ d.p ≤ 1000000000
  c : ∀ d ∈ ds, 0 ≤ d.c
  s : (ds.map LotD.c).sum ≤ 10000000000000000000
  l : ds.length ≤ 10
theorem le_sum : ∀ {l : List Int} {x : Int}, (∀ y ∈ l, 0 ≤ y) → x ∈ l → x ≤ l.sum
  | y :: l, x, h, hx => by
    have h0 := h y List.mem_cons_self
    have h1 := sum_nonneg (l := l) fun z hz => h z (List.mem_cons_of_mem _ hz)
    rw [List.sum_cons]
    rcases List.mem_cons.mp hx with rfl | hx
    · omega
    · have := le_sum (fun z hz => h z (List.mem_cons_of_mem _ hz)) hx
      omega
theorem R33.cs {ds : List LotD} (h : R33 ds) : ∀ y ∈ ds.map LotD.c, 0 ≤ y := fun y hy => by
  obtain ⟨d, hd, rfl⟩ := List.mem_map.mp hy
  exact h.c d hd
theorem R33.pos {ds : List LotD} (h : R33 ds) : ∀ e ∈ ds, 0 < e.p := fun e he => by have := (h.p e he).1; omega
theorem R33.ok {ds : List LotD} (h : R33 ds) : RowOk ds := by
  refine ⟨h.u, fun d hd => ⟨⟨(h.p d hd).1, Int.le_trans (h.p d hd).2 (by decide)⟩, h.c d hd, ?_⟩, Nat.le_trans h.l (by decide)⟩
  have := le_sum h.cs (List.mem_map.mpr ⟨d, hd, rfl⟩)
  have := h.s
  omega
theorem R33.fit {ds : List LotD} (h : R33 ds) : Fit ds := by
  refine ⟨Nat.le_trans h.l (by decide), h.p, ?_⟩
  have h1 := sum_nonneg h.cs
  have h2 := h.s
  have : (ds.map LotD.c).sum.natAbs ≤ 10000000000000000000 := by omega
  exact Nat.lt_of_le_of_lt this (by decide)
theorem R33.mul {ds : List LotD} (h : R33 ds) {d e : LotD} (hd : d ∈ ds) (he : e ∈ ds) : CMulU d.c e.p := by
  have := h.p e he
  exact CMulU.r (by omega) (by omega)
theorem R33.pk {ds : List LotD} (h : R33 ds) (z : Str) (w : Int) : PkOk ds (pickD (turnD z ds) w) := by
  have hpm := turnD_pm (z := z) h.pos h.b
  refine ⟨List.Nodup.sublist (pickD_sub _ _) ((hpm.map LotD.n).nodup_iff.mpr h.u), fun k hk => ?_⟩
  obtain ⟨d, h1, h2⟩ := pickD_mem (fun d hd => (h.p d (hpm.mem_iff.mp hd)).1) hk
  exact ⟨d, hpm.mem_iff.mp h1, h2⟩
theorem zip_ns (c : List Int) : ∀ ds : List LotD, ds.length = c.length → (List.zipWith (fun d c => (⟨d.n, d.s, d.p, c⟩ : LotD)) ds c).map (fun d => (d.n, d.s)) = ds.map fun d => (d.n, d.s) := by
  induction c with
  | nil => intro ds h; cases ds with | nil => rfl | cons _ _ => simp at h
  | cons x c ih => intro ds h; cases ds with | nil => simp at h | cons d ds => rw [List.zipWith_cons_cons, List.map_cons, ih ds (by simpa using h), List.map_cons]
def BfP (a b : Int × Int) : Prop := a.2 < b.2 ∨ (a.2 = b.2 ∧ a.1 < b.1)
theorem bf_ns {ds : List LotD} : ds.Pairwise BfT ↔ (ds.map fun d => (d.n, d.s)).Pairwise BfP := by
  rw [List.pairwise_map]
  exact Iff.rfl
theorem R33.with {ds : List LotD} (h : R33 ds) {cs : List Int} (hl : ds.length = cs.length) (h0 : ∀ c ∈ cs, 0 ≤ c) (hs : cs.sum ≤ 10000000000000000000) : R33 (List.zipWith (fun d c => (⟨d.n, d.s, d.p, c⟩ : LotD)) ds cs) := by
  have e1 := zip_ns cs ds hl
  have e2 := zip_p cs ds hl
  have e3 := zip_c cs ds hl
  generalize hz : List.zipWith (fun d c => (⟨d.n, d.s, d.p, c⟩ : LotD)) ds cs = zs at e1 e2 e3
  have e4 : zs.map LotD.n = ds.map LotD.n := by
    have := congrArg (List.map Prod.fst) e1
    rwa [List.map_map, List.map_map] at this
  refine ⟨e4 ▸ h.u, bf_ns.mpr (e1 ▸ bf_ns.mp h.b), fun d hd => ?_, fun d hd => ?_, e3 ▸ hs, ?_⟩
  · have : d.p ∈ zs.map LotD.p := List.mem_map.mpr ⟨d, hd, rfl⟩
    rw [e2] at this
    obtain ⟨d', hd', e⟩ := List.mem_map.mp this
    rw [← e]
    exact h.p d' hd'
  · have : d.c ∈ zs.map LotD.c := List.mem_map.mpr ⟨d, hd, rfl⟩
    rw [e3] at this
    exact h0 _ this
  · have := congrArg List.length e4
    rw [List.length_map, List.length_map] at this
    rw [this]
    exact h.l
theorem R33.lev {ds : List LotD} (h : R33 ds) : R33 (lev ds) := by
  refine h.with (by rw [shares_len, List.length_map]) (fun c hc => ?_) ?_
  · obtain ⟨i, hi, e⟩ := List.getElem_of_mem hc
    rw [shares_len] at hi
    have h1 : (ds.map LotD.p)[i]? = some (ds.map LotD.p)[i] := List.getElem?_eq_getElem hi
    have h2 := shares_get (ds.map LotD.c).sum (ds.map LotD.p).sum 0 _ i _ h1
    rw [List.getElem?_eq_getElem (by rw [shares_len]; exact hi), e] at h2
    rw [Option.some.inj h2]
    have hp0 := h.fit.ps _ (List.getElem_mem hi)
    have hC := sum_nonneg h.cs
    have hP := sum_nonneg h.fit.ps
    have hm := Int.mul_le_mul_of_nonneg_left (show 0 + ((ds.map LotD.p).take i).sum ≤ 0 + ((ds.map LotD.p).take i).sum + (ds.map LotD.p)[i] by omega) hC
    have : ds ≠ [] := fun e => by rw [e] at hi; exact absurd hi (Nat.not_lt_zero _)
    have := Int.ediv_le_ediv (h.fit.pos this) hm
    omega
  · have := lev_sum h.fit
    rw [lev_c] at this
    rw [this]
    exact h.s
theorem leftD_s (ks : Pk) (d : LotD) : (leftD ks d).s = d.s := by
  unfold leftD
  split <;> rfl
theorem leftD_n (ks : Pk) (d : LotD) : (leftD ks d).n = d.n := by
  unfold leftD
  split <;> rfl
theorem leftD_p {ds : List LotD} {ks : Pk} (hR : RowOk ds) (hK : PkOk ds ks) {d : LotD} (hd : d ∈ ds) : (leftD ks d).p ≤ d.p := by
  unfold leftD
  cases e : ks.lookup d.n with
  | none => exact Int.le_refl _
  | some w =>
    obtain ⟨d', h1, h2, h3, h4⟩ := hK.h _ (look_mem e)
    have h3 : 1 ≤ w := h3
    show d.p - w ≤ d.p
    omega
theorem some_c {ds : List LotD} {ks : Pk} (hR : RowOk ds) (hK : PkOk ds ks) : ∀ c ∈ (ks.map (someD ds)).map LotD.c, 0 ≤ c := fun c hc => by
  rw [List.map_map] at hc
  obtain ⟨k, hk, rfl⟩ := List.mem_map.mp hc
  obtain ⟨d, hd, hdn, hw1, hw2⟩ := hK.h k hk
  have er : k = (d.n, k.2) := by rw [hdn]
  rw [Function.comp_apply, er, some_at hR.u hd]
  exact Int.ediv_nonneg (Int.mul_nonneg (hR.g d hd).2.1 (by omega)) (by have := (hR.g d hd).1.1; omega)
theorem R33.left {ds : List LotD} (h : R33 ds) {ks : Pk} (hK : PkOk ds ks) : R33 (leftR ks ds) := by
  have hok := left_ok h.ok hK
  have hs := (sums_all h.ok hK).2
  have h1 := sum_nonneg (some_c h.ok hK)
  have h2 := h.s
  refine ⟨hok.u, ?_, fun d hd => ⟨(hok.g d hd).1.1, ?_⟩, fun d hd => (hok.g d hd).2.1, by omega, ?_⟩
  · have e : (ds.map (leftD ks)).map (fun d => (d.n, d.s)) = ds.map fun d => (d.n, d.s) := by
      rw [List.map_map]
      exact List.map_congr_left fun d _ => by rw [Function.comp_apply, leftD_n, leftD_s]
    have : (ds.map (leftD ks)).Pairwise BfT := bf_ns.mpr (e ▸ bf_ns.mp h.b)
    exact List.Pairwise.sublist List.filter_sublist this
  · obtain ⟨h3, _⟩ := List.mem_filter.mp hd
    obtain ⟨d', hd', rfl⟩ := List.mem_map.mp h3
    exact Int.le_trans (leftD_p h.ok hK hd') (h.p d' hd').2
  · have := List.length_filter_le (fun d : LotD => decide (0 < d.p)) (ds.map (leftD ks))
    rw [List.length_map] at this
    exact Nat.le_trans this h.l
def flatD (z : Str) (ds : List LotD) : List LotD := if z = "mean" then lev ds else ds
theorem R33.flat {ds : List LotD} (h : R33 ds) (z : Str) : R33 (flatD z ds) := by
  unfold flatD
  split
  · exact h.lev
  · exact h
theorem flat_sum {ds : List LotD} (h : R33 ds) (z : Str) : ((flatD z ds).map LotD.c).sum = (ds.map LotD.c).sum := by
  unfold flatD
  split
  · exact lev_sum h.fit
  · rfl
end
end My
namespace My
open PySem L2 PyProof.Rows
section
variable {P : Program} {w : World} {K : PySem.W.Frag} {mg : Str → Option Value} {base : Heap} {A : Adr} {D : Fds}
noncomputable def sig__law_row (T : Txt K mg A D) (cdv : Value) (A' : Around) (outer : List Env) (s0 : Shared) (H : Hp) (E : XK) (hr : Room 1 (A'.deeper (envOfC "_law_row" (defScope s__law_row) s0.heap.objs.size A._law_row cdv))) :
    { t : TS // PSs (cxOf CX0 P w K mg base ["_law_script", "_law_start", "_law_most", "_law_style", "_law_rows", "_law_known", "_law_k", "_law_parts", "_law_j", "_law_cell_here", "_law_small", "_law_top", "_law_number"] "_law_row" (defScope s__law_row) A._law_row cdv A' outer s0 H E).nox (defBody s__law_row) t } :=
  ⟨_, (pss_cons (ps_set (i := 3) sc__law_row.nd rfl (Or.inl rfl) (pe_op op_mod (pe_call (ok__law_cell (K := K) T) (hr.mono (by decide)) (by rfl) T.m__law_cell T.k__law_cell (b__law_cell T) .nil pass0 (pa_cons (pv 0) (pa_cons pe_int pa_nil))) pe_int))
      (pss_cons (ps_set (i := 4) sc__law_row.nd rfl (Or.inl rfl) (pe_lst pa_nil))
      (pss_cons (ps_set (i := 5) sc__law_row.nd rfl (Or.inl rfl) (pe_lst pa_nil))
      (pss_cons (ps_for PassesOwn.never rfl (pi_range1 (by rfl) T.b_range (pa_cons (pe_op op_mod (pe_call (ok__law_cell (K := K) T) (hr.mono (by decide)) (by rfl) T.m__law_cell T.k__law_cell (b__law_cell T) .nil pass0 (pa_cons (pv 0) (pa_cons (pv 1) pa_nil))) (pe_op op_add (pv 2) pe_int)) pa_nil)) (pg_name (i := 6) sc__law_row.nd rfl (Or.inl rfl))
        (pss_cons (ps_set (i := 7) sc__law_row.nd rfl (Or.inl rfl) (pe_lst pa_nil))
        (pss_cons (ps_for PassesOwn.never rfl (pi_range1 (by rfl) T.b_range (pa_cons pe_int pa_nil)) (pg_name (i := 8) sc__law_row.nd rfl (Or.inl rfl))
          (pss_cons (ps_set (i := 9) sc__law_row.nd rfl (Or.inl rfl) (pe_call (ok__law_cell (K := K) T) (hr.mono (by decide)) (by rfl) T.m__law_cell T.k__law_cell (b__law_cell T) .nil pass0 (pa_cons (pv 0) (pa_cons (pe_op op_add (pe_op op_add (pe_op op_add (pv 1) pe_int) (pe_op op_mulU pe_int (pv 6))) (pv 8)) pa_nil))))
          (pss_cons (ps_set (i := 10) sc__law_row.nd rfl (Or.inl rfl) (pe_or (pe_cmpR (op_eq) (pv 3) pe_int (nomark _)) (pe_one (pe_and (pe_cmpR (op_eq) (pv 3) pe_int (nomark _)) (pe_one (pe_cmpR (op_eq) (pe_op op_mod (pv 9) pe_int) pe_int (nomark _)))))))
          (pss_cons (ps_set (i := 11) sc__law_row.nd rfl (Or.inl rfl) (pe_ix (ix_listK (K := K)) (pe_ix (ix_listK (K := K)) (pe_lst (pa_cons (pe_lst (pa_cons pe_int (pa_cons (pe_op op_add (pe_op op_pow pe_int pe_int) pe_int) pa_nil))) (pa_cons (pe_lst (pa_cons pe_int (pa_cons (pe_op op_add (pe_op op_pow pe_int pe_int) pe_int) pa_nil))) (pa_cons (pe_lst (pa_cons pe_int (pa_cons (pe_op op_pow pe_int pe_int) pa_nil))) (pa_cons (pe_lst (pa_cons pe_int (pa_cons (pe_op op_add (pe_op op_pow pe_int pe_int) pe_int) pa_nil))) pa_nil))))) (pv 8) (fun _ _ => rfl)) (pe_callTy call_int1 (by rfl) T.b_int (by decide +kernel) (pa_cons (pe_not (pv 10)) pa_nil)) (fun _ _ => rfl)))
          (pss_one (ps_expr (pe_bmK (K := K) PySem.F.plainAttrs_list PySem.F.slot_list_append PySem.F.type_list_append mt_append (pv 7) (pa_cons (pe_op op_mod (pe_op op_fdivB (pv 9) (pe_ix (ix_listK (K := K)) (pe_lst (pa_cons pe_int (pa_cons pe_int pa_nil))) (pe_callTy call_int1 (by rfl) T.b_int (by decide +kernel) (pa_cons (pe_cmpR (op_eq) (pv 3) pe_int (nomark _)) pa_nil)) (fun _ _ => rfl))) (pv 11)) pa_nil))))))))
        (pss_cons (ps_set (i := 12) sc__law_row.nd rfl (Or.inl rfl) (pe_ix (ix_listK (K := K)) (pv 7) pe_int (fun _ _ => rfl)))
        (pss_cons (ps_while PassesOwn.never (pt_cmpR (op_inK (K := K)) (pv 12) (pv 5) (by with_unfolding_all rfl)) (pss_one (ps_set (i := 12) sc__law_row.nd rfl (Or.inl rfl) (pe_op op_mod (pe_op op_add (pv 12) pe_int) (pe_op op_add (pe_op op_pow pe_int pe_int) pe_int)))))
        (pss_cons (ps_expr (pe_bmK (K := K) PySem.F.plainAttrs_list PySem.F.slot_list_append PySem.F.type_list_append mt_append (pv 5) (pa_cons (pv 12) pa_nil)))
        (pss_one (ps_expr (pe_bmK (K := K) PySem.F.plainAttrs_list PySem.F.slot_list_append PySem.F.type_list_append mt_append (pv 4) (pa_cons (pe_tup (pa_cons (pe_ix (ix_listK (K := K)) (pv 7) pe_int (fun _ _ => rfl)) (pa_cons (pv 12) (pa_cons (pe_op op_add pe_int (pe_ix (ix_listK (K := K)) (pv 7) pe_int (fun _ _ => rfl))) (pa_cons (pe_ix (ix_listK (K := K)) (pv 7) pe_int (fun _ _ => rfl)) pa_nil))))) pa_nil))))))))))
      (pss_one (ps_ret (pe_comp (cap := [Option.none, Option.none, Option.none, Option.none]) (N' := ["_law_since", "_law_number", "_law_pieces", "_law_cost"]) rfl (by walk_at "compok") (pi_listK (K := K) (pe_callB (call_sortTK (K := K)) (by rfl) T.b_sorted (by decide +kernel) (pa_cons (pv 4) pa_nil))) (fun _ _ _ _ => (pg_tupK (K := K) (n := 4) rfl (pgs_cons (pg_name (i := 0) (show (["_law_since", "_law_number", "_law_pieces", "_law_cost"] : List Str).Nodup from by decide +kernel) rfl (Or.inl rfl) (Or.inr rfl)) (pgs_cons (pg_name (i := 1) (show (["_law_since", "_law_number", "_law_pieces", "_law_cost"] : List Str).Nodup from by decide +kernel) rfl (Or.inl rfl) (Or.inr rfl)) (pgs_cons (pg_name (i := 2) (show (["_law_since", "_law_number", "_law_pieces", "_law_cost"] : List Str).Nodup from by decide +kernel) rfl (Or.inl rfl) (Or.inr rfl)) (pgs_cons (pg_name (i := 3) (show (["_law_since", "_law_number", "_law_pieces", "_law_cost"] : List Str).Nodup from by decide +kernel) rfl (Or.inl rfl) (Or.inr rfl)) pgs_nil)))))) (fun _ _ _ _ => pts_nil) (fun _ _ _ _ => (pe_tup (pa_cons (pv 1) (pa_cons (pv 0) (pa_cons (pv 2) (pa_cons (pv 3) pa_nil)))))))))))))⟩
end
end My
namespace My
open PySem L2 PyProof.Rows
section
variable {P : Program} {w : World} {K : PySem.W.Frag} {mg : Str → Option Value} {base : Heap} {A : Adr} {D : Fds}
local macro_rules | `(tactic| walk_at "nx") => `(tactic| ((try dsimp only); rw [ap_seq]; walk_at "rdi"))
theorem mn_int1 : MonoC (fun xs H Q => (∃ i, xs = [V.int i] ∧ Q (V.int i) H) ∨ ∃ k, xs = [V.bl k] ∧ Q (V.int (if k = true then 1 else 0)) H) := fun _ _ _ _ f h => h.elim (fun ⟨i, e, q⟩ => .inl ⟨i, e, f _ _ q⟩) fun ⟨i, e, q⟩ => .inr ⟨i, e, f _ _ q⟩
local macro_rules | `(tactic| walk_at "mono") => `(tactic| exact mn_int1)
def topB : Nat → Int
  | 0 => 1000001
  | 1 => 1000001
  | 2 => 1000000000
  | _ => 1000000000000000001
def Bef (d e : LotD) : Prop := d.s < e.s ∨ (d.s = e.s ∧ d.n < e.n)
theorem lex_bef {d e : LotD} (h : lexB d.is2 e.is2 false = true) (hn : d.n ≠ e.n) : Bef d e := by
  unfold LotD.is2 at h
  rw [lexB] at h
  by_cases e1 : d.s = e.s
  · rw [if_pos e1, lexB, if_neg hn] at h
    exact .inr ⟨e1, of_decide_eq_true h⟩
  · rw [if_neg e1] at h
    exact .inl (of_decide_eq_true h)
def sp__law_row (K : PySem.W.Frag) : Sp := fun vs H Q _ => ∃ (a : Addr) (ns : List Int) (st mo : Nat), vs = [.ref a, .int st, .int mo] ∧ SqL K H a (ns.map V.int) ∧ ns.length ≤ 63 ∧ mo ≤ 40 ∧
  ∀ p rs H', Same H H' → H p = Option.none → H' p = some (.lst (refsR rs)) → RowAt H' rs → (∀ r ∈ rs, Good r.2) → rs.length ≤ mo → (rs.map (·.2.n)).Nodup → (rs.map (·.2)).Pairwise Bef → Q (.ref p) H'
theorem ok__law_row (T : Txt K mg A D) : FnOk P w K mg base CX0 2 A._law_row D._law_row ["_law_script", "_law_start", "_law_most"] (sp__law_row K) := by
  refine T.F__law_row.ok sc__law_row (fun vs H Q E h => ?_) (fun cdv A' outer s0 H vs Q E hr h => ?_)
  · obtain ⟨a, ns, st, mo, rfl, _⟩ := h; rfl
  · obtain ⟨a, ns, st, mo, rfl, hS, hl, hm, k⟩ := h
    refine ⟨(sig__law_row (base := base) T cdv A' outer s0 H E hr).1, (sig__law_row (base := base) T cdv A' outer s0 H E hr).2, ?_⟩
    unfold sig__law_row
    dsimp only
    simp only [start_eq]
    walk_at "nx"
    refine ⟨a, ns, 0, rfl, hS, hl, fun H1 s1 => ⟨_, rfl, by decide, ?_⟩⟩
    have hst : 0 ≤ cellV ns 0 % 3 ∧ cellV ns 0 % 3 < 3 := by omega
    generalize cellV ns 0 % 3 = sty at hst
    walk_at "nx"
    refine ⟨by rw [sizeLine_eq]; decide, fun pr hpr => ?_⟩
    have s2 := s1.trans (Same.new (o := .lst []) hpr)
    have hr2 : (upd H1 pr (.lst [])) pr = some (.lst []) := upd_same
    have hBr := s1.free hpr
    generalize upd H1 pr _ = H2 at s2 hr2
    walk_at "nx"
    refine ⟨by rw [sizeLine_eq]; decide, fun pk hpk => ?_⟩
    have s3 := s2.trans (Same.new (o := .lst []) hpk)
    have hk3 : (upd H2 pk (.lst [])) pk = some (.lst []) := upd_same
    have hr3 := Same.new (o := .lst []) hpk _ _ hr2
    have hBk := s2.free hpk
    have hne : pr ≠ pk := ne_of_none hr2 hpk
    generalize upd H2 pk _ = H3 at s3 hk3 hr3
    have U0 : RowsU H H3 pr pk [] := ⟨s3, hr3, hk3, fun r h => (List.not_mem_nil h).elim, fun r h => (List.not_mem_nil h).elim, List.nodup_nil⟩
    rw [ap_seq, ap_for]
    walk_at "rdi"
    refine ⟨a, ns, st, rfl, s3.seq hS, hl, fun H4 s4 => ?_⟩
    have hb1 : 0 ≤ cellV ns st % ((mo : Int) + 1) := Int.emod_nonneg _ (by omega)
    have hb2 : cellV ns st % ((mo : Int) + 1) < (mo : Int) + 1 := Int.emod_lt_of_pos _ (by omega)
    refine ⟨_, rfl, by omega, by omega, by omega, ?_⟩
    obtain ⟨n, hn, hnm⟩ : ∃ n : Nat, (cellV ns st % ((mo : Int) + 1)).toNat = n ∧ n ≤ mo := ⟨_, rfl, by omega⟩
    rw [hn]
    refine ForP.range (lo := 0) (n := n) (fun i σ H5 => ∃ (rs : RL) (v6 v7 v8 v9 v10 v11 v12 : Option V), rs.length = i ∧ σ = [some (.ref a), some (.int st), some (.int mo), some (.int sty), some (.ref pr), some (.ref pk), v6, v7, v8, v9, v10, v11, v12] ∧ RowsU H H5 pr pk rs)
      ⟨[], _, _, _, _, _, _, _, rfl, rfl, U0.same s4⟩ ?_ ?_
    · rintro i σ H5 hi ⟨rs, v6, v7, v8, v9, v10, v11, v12, hrl, rfl, U⟩
      walk_at "rdi"
      walk_at "nx"
      refine ⟨by rw [sizeLine_eq]; decide, fun q hq => ?_⟩
      have U6 := U.same (Same.new (o := .lst []) hq)
      have hq6 : (upd H5 q (.lst [])) q = some (.lst []) := upd_same
      have hBq := U.s.free hq
      have hqr : q ≠ pr := fun e => by rw [e, U.r] at hq; cases hq
      have hqk : q ≠ pk := fun e => by rw [e, U.k] at hq; cases hq
      generalize upd H5 q _ = H6 at U6 hq6
      rw [ap_seq, ap_for]
      walk_at "rdi"
      refine ⟨by decide, by decide, ?_⟩
      rw [show Int.toNat 4 = 4 from rfl]
      refine ForP.range (lo := 0) (n := 4) (fun j σ H7 => ∃ (ps : List Int) (w8 w9 w10 w11 : Option V), ps.length = j ∧ (∀ (t : Nat) x, ps[t]? = some x → 0 ≤ x ∧ x < topB t) ∧
        σ = [some (.ref a), some (.int st), some (.int mo), some (.int sty), some (.ref pr), some (.ref pk), some (.int (0 + i)), some (.ref q), w8, w9, w10, w11, v12] ∧ RowsU H H7 pr pk rs ∧ H7 q = some (.lst (ps.map V.int)))
        ⟨[], _, _, _, _, rfl, fun t x h => by simp at h, rfl, U6, hq6⟩ ?_ ?_
      · rintro j σ H7 hj ⟨ps, w8, w9, w10, w11, hpl, hps, rfl, U7, hq7⟩
        walk_at "rdi"
        walk_at "nx"
        refine ⟨CMulU.l (by decide) (by decide), a, ns, st + 1 + 4 * i + j, congrArg (fun z => [V.ref a, V.int z]) (by omega), U7.s.seq hS, hl, fun H8 s8 => ?_⟩
        have U8 := U7.same s8
        have hq8 := s8 _ _ hq7
        generalize cellV ns (st + 1 + 4 * i + j) = c
        refine seq_join (fun σ H' => ∃ sm : Bool, σ = [some (.ref a), some (.int st), some (.int mo), some (.int sty), some (.ref pr), some (.ref pk), some (.int (0 + i)), some (.ref q), some (.int (0 + j)), some (.int c), some (.bl sm), w11, v12] ∧ Same H8 H') (by walk_at "mono") ?_ ?_
        · walk_at "rdi"
          simp only [Same.refl]
          split
          · trivial
          · split
            · decide
            · trivial
        rintro σ H8' ⟨sm, rfl, s8'⟩
        have U8 := U8.same s8'
        have hq8 := s8' _ _ hq8
        clear s8 s8'
        refine seq_join (fun σ H' => ∃ tp : Int, 0 < tp ∧ tp ≤ topB j ∧ σ = [some (.ref a), some (.int st), some (.int mo), some (.int sty), some (.ref pr), some (.ref pk), some (.int (0 + i)), some (.ref q), some (.int (0 + j)), some (.int c), some (.bl sm), some (.int tp), v12] ∧ Same H8' H') (by walk_at "mono") ?_ ?_
        · walk_at "rdi"
          have cp : ∀ e : Int, 0 ≤ e → e ≤ 1000000 → CPow 10 e := fun e h1 h2 => ⟨h1, h2, by decide⟩
          have z2 : 2 ≤ sizeLine := by rw [sizeLine_eq]; decide
          refine ⟨cp _ (by decide) (by decide), z2, fun p0 h0 => ⟨cp _ (by decide) (by decide), z2, fun p1 h1 => ⟨cp _ (by decide) (by decide), z2, fun p2 h2 => ⟨cp _ (by decide) (by decide), z2, fun p3 h3 => ⟨by rw [sizeLine_eq]; decide, fun p4 h4 => ?_⟩⟩⟩⟩⟩
          have e4 := Same.new (o := .lst [V.ref p0, V.ref p1, V.ref p2, V.ref p3]) h4
          have e3 := (Same.new (o := .lst [V.int 30, V.int (10 ^ Int.toNat 18 + 1)]) h3).trans e4
          have e2 := (Same.new (o := .lst [V.int 6, V.int (10 ^ Int.toNat 9)]) h2).trans e3
          have e1 := (Same.new (o := .lst [V.int 5, V.int (10 ^ Int.toNat 6 + 1)]) h1).trans e2
          have e0 := (Same.new (o := .lst [V.int 9, V.int (10 ^ Int.toNat 6 + 1)]) h0).trans e1
          have c0 := e1 _ _ (upd_same (H := H8') (a := p0) (o := .lst [V.int 9, V.int (10 ^ Int.toNat 6 + 1)]))
          have c1 := e2 p1 _ upd_same
          have c2 := e3 p2 _ upd_same
          have c3 := e4 p3 _ upd_same
          rcases (show j = 0 ∨ j = 1 ∨ j = 2 ∨ j = 3 by omega) with rfl | rfl | rfl | rfl
          · exact ⟨_, SqL.of upd_same, .ref p0, rfl, .inr ⟨p0, rfl, _, SqL.of c0, .int (if sm = false then 1000001 else 9), by cases sm <;> rfl, _, by cases sm <;> decide, by cases sm <;> decide, rfl, e0⟩⟩
          · exact ⟨_, SqL.of upd_same, .ref p1, rfl, .inr ⟨p1, rfl, _, SqL.of c1, .int (if sm = false then 1000001 else 5), by cases sm <;> rfl, _, by cases sm <;> decide, by cases sm <;> decide, rfl, e0⟩⟩
          · exact ⟨_, SqL.of upd_same, .ref p2, rfl, .inr ⟨p2, rfl, _, SqL.of c2, .int (if sm = false then 1000000000 else 6), by cases sm <;> rfl, _, by cases sm <;> decide, by cases sm <;> decide, rfl, e0⟩⟩
          · exact ⟨_, SqL.of upd_same, .ref p3, rfl, .inr ⟨p3, rfl, _, SqL.of c3, .int (if sm = false then 1000000000000000001 else 30), by cases sm <;> rfl, _, by cases sm <;> decide, by cases sm <;> decide, rfl, e0⟩⟩
        rintro σ H9 ⟨tp, tp0, tp1, rfl, s9⟩
        have U9 := U8.same s9
        have hq9 := s9 _ _ hq8
        walk_at "rdi"
        refine ⟨.inl ⟨rfl, _, SqL.of hq9⟩, by rw [sizeLine_eq]; decide, fun p hp => .inr ⟨_, SqL.of upd_same, .int (if sty = 2 then 2 else 1), by split <;> rfl, _, rfl, ⟨by split <;> decide, by split <;> decide⟩, tp0, _, Same.new hp _ _ hq9, ?_, ps ++ [c / (if sty = 2 then 2 else 1) % tp], ?_, ?_, ?_, ?_⟩⟩
        · rw [List.length_map, sizeLine_eq]; omega
        · rw [List.length_append, hpl]; rfl
        · intro t x ht
          by_cases htl : t < ps.length
          · rw [List.getElem?_append_left htl] at ht
            exact hps t x ht
          · rw [List.getElem?_append_right (by omega)] at ht
            have ht0 : t - ps.length = 0 := by
              have := (List.getElem?_eq_some_iff.mp ht).1
              simp at this
              omega
            rw [ht0] at ht
            cases ht
            obtain rfl : t = j := by omega
            exact ⟨Int.emod_nonneg _ (by omega), Int.lt_of_lt_of_le (Int.emod_lt_of_pos _ tp0) tp1⟩
        · exact (U9.same (Same.new hp)).put hBq hqr hqk (Same.new hp _ _ hq9)
        · rw [upd_same, List.map_append]; rfl
      · rintro σ H7 ⟨ps, w8, w9, w10, w11, hpl, hps, rfl, U7, hq7⟩
        walk_at "nx"
        obtain ⟨x0, x1, x2, x3, rfl⟩ : ∃ x0 x1 x2 x3, ps = [x0, x1, x2, x3] := match ps, hpl with | [x0, x1, x2, x3], _ => ⟨x0, x1, x2, x3, rfl⟩
        have b0 := hps 0 x0 rfl
        have b1 := hps 1 x1 rfl
        have b2 := hps 2 x2 rfl
        have b3 := hps 3 x3 rfl
        simp only [topB] at b0 b1 b2 b3
        refine ⟨_, SqL.of hq7, _, rfl, ?_⟩
        rw [ap_seq]
        refine ⟨fun m σ H' => ∃ kk : Nat, m = rs.length - kk ∧ kk ≤ rs.length ∧ H' = H7 ∧ (∀ j : Nat, j < kk → (x0 + j) % 1000001 ∈ rs.map (·.2.n)) ∧
          σ = [some (.ref a), some (.int st), some (.int mo), some (.int sty), some (.ref pr), some (.ref pk), some (.int (0 + i)), some (.ref q), w8, w9, w10, w11, some (.int ((x0 + kk) % 1000001))],
          ⟨_, 0, rfl, Nat.zero_le _, rfl, fun j hj => absurd hj (Nat.not_lt_zero _), ?_⟩, ?_⟩
        · rw [Int.emod_eq_of_lt (by omega) (by omega)]; simp
        rintro m σ H' ⟨kk, rfl, hkk, rfl, hin, rfl⟩
        walk_at "rdi"
        have hk7 : H' pk = some (.lst ((rs.map (·.2.n)).map V.int)) := by rw [List.map_map]; exact U7.k
        refine ⟨_, .inl (SqL.of hk7), rfl, flat_ints _, ?_⟩
        rw [inV_ints]
        by_cases hm' : (x0 + kk) % 1000001 ∈ rs.map (·.2.n)
        · rw [if_pos (decide_eq_true hm')]
          have hin' : ∀ j : Nat, j < kk + 1 → (x0 + j) % 1000001 ∈ rs.map (·.2.n) := fun j hj => by
            by_cases e : j < kk
            · exact hin j e
            · obtain rfl : j = kk := by omega
              exact hm'
          have hle := steps_le b0.1 b0.2 (by rw [List.length_map]; omega) hin' (by omega)
          rw [List.length_map] at hle
          refine ⟨_, fun σ' H2 h => h, ⟨by decide, by decide, by decide⟩, by decide, rs.length - (kk + 1), by omega, kk + 1, rfl, hle, rfl, hin', ?_⟩
          have : ((x0 + kk) % 1000001 + 1) % (10 ^ Int.toNat 6 + 1) = (x0 + ((kk + 1 : Nat) : Int)) % 1000001 := by
            rw [show (10 ^ Int.toNat 6 + 1 : Int) = 1000001 from rfl]
            omega
          rw [this]
        · rw [if_neg (by simpa using hm')]
          obtain ⟨nb, hnb⟩ : ∃ nb, (x0 + (kk : Int)) % 1000001 = nb := ⟨_, rfl⟩
          have bn : 0 ≤ nb ∧ nb < 1000001 := by omega
          rw [hnb] at hm' ⊢
          walk_at "nx"
          have hqP : (upd H' pk (.lst ((rs.map (·.2.n)).map V.int ++ [V.int nb]))) q = some (.lst ([x0, x1, x2, x3].map V.int)) := (upd_ne hqk).trans hq7
          have hrP : (upd H' pk (.lst ((rs.map (·.2.n)).map V.int ++ [V.int nb]))) pr = some (.lst (refsR rs)) := (upd_ne hne).trans U7.r
          refine ⟨.inl ⟨rfl, _, SqL.of hk7⟩, _, hk7, ?_, .inl ⟨rfl, _, SqL.of hrP⟩, _, SqL.of hqP, _, rfl, _, SqL.of hqP, _, rfl, _, rfl, _, SqL.of hqP, _, rfl, by rw [sizeLine_eq]; decide, fun t ht => ⟨_, Same.new ht _ _ hrP, ?_, rs ++ [(t, ⟨nb, x1, 1 + x2, x3⟩)], ?_, ?_⟩⟩
          · rw [List.length_map, List.length_map, sizeLine_eq]; omega
          · rw [refsR_len, sizeLine_eq]; omega
          · rw [List.length_append, hrl]; rfl
          · have htr : t ≠ pr := fun e => by rw [e, hrP] at ht; cases ht
            refine ⟨((U7.s.upd hBk).trans (Same.new ht)).upd hBr, ?_, ?_, fun r hr => ?_, fun r hr => ?_, ?_⟩
            · rw [upd_same]; unfold refsR; rw [List.map_append]; rfl
            · rw [upd_ne hne.symm, Same.new ht _ _ upd_same, List.map_append, List.map_map]; rfl
            · rcases List.mem_append.mp hr with hr | hr
              · have h1 := U7.t r hr
                have n1 : r.1 ≠ pk := fun e => by rw [e, hk7] at h1; cases h1
                have n2 : r.1 ≠ pr := fun e => by rw [e, U7.r] at h1; cases h1
                rw [upd_ne n2]
                exact Same.new ht _ _ ((upd_ne n1).trans h1)
              · obtain rfl := List.mem_singleton.mp hr
                exact (upd_ne htr).trans upd_same
            · rcases List.mem_append.mp hr with hr | hr
              · exact U7.g r hr
              · obtain rfl := List.mem_singleton.mp hr
                exact ⟨⟨bn.1, by show nb ≤ _; omega⟩, ⟨b1.1, by show x1 ≤ _; omega⟩, ⟨by show 1 ≤ 1 + x2; omega, by show 1 + x2 ≤ _; omega⟩, ⟨b3.1, by show x3 ≤ _; omega⟩⟩
            · rw [List.map_append]
              refine List.nodup_append.mpr ⟨U7.u, by simp, fun y hy z hz => ?_⟩
              obtain rfl := List.mem_singleton.mp hz
              exact fun e => hm' (e ▸ hy)
    · rintro σ H5 ⟨rs, v6, v7, v8, v9, v10, v11, v12, hrl, rfl, U⟩
      dsimp only
      walk_at "rdi"
      refine ⟨_, SqL.of U.r, by rw [refsR_len]; omega, tsOf H5, fun y hy => ?_, fun p zs hp hz hord => ⟨⟨_, SqL.of upd_same⟩, ?_⟩⟩
      · obtain ⟨r, hr, rfl⟩ := List.mem_map.mp hy
        rw [tsOf_at (U.t r hr)]
        exact ⟨by simp [LotD.is2], r.1, rfl, SqT.of (U.t r hr)⟩
      · obtain ⟨rs', rfl, hperm⟩ := perm_pull (f := fun r => V.ref r.1) hz rfl
        have hun : rs.Pairwise fun a b => a.2.n ≠ b.2.n := List.pairwise_map.mp U.u
        have hnd' : (rs'.map fun r => r.2.n).Nodup := (hperm.map fun r => r.2.n).nodup_iff.mpr U.u
        have hun' : rs'.Pairwise fun a b => a.2.n ≠ b.2.n := List.pairwise_map.mp hnd'
        have hord := hord 4 (fun y hy => by
          obtain ⟨r, hr, rfl⟩ := List.mem_map.mp hy
          rw [tsOf_at (U.t r hr)]
          rfl) (by
          refine List.pairwise_map.mpr (List.pairwise_map.mpr (List.Pairwise.imp_of_mem (fun {a b} ha hb hne z => hne ?_) hun))
          rw [tsOf_at (U.t a ha), tsOf_at (U.t b hb)] at z
          exact (List.cons.inj (List.cons.inj z).2).1)
        have hbef : (rs'.map (·.2)).Pairwise Bef := by
          refine List.pairwise_map.mpr (List.Pairwise.imp_of_mem (fun {a b} ha hb h => ?_) ((List.pairwise_map.mp hord).and hun'))
          have h1 := h.1
          rw [tsOf_at (U.t a (hperm.mem_iff.mp ha)), tsOf_at (U.t b (hperm.mem_iff.mp hb))] at h1
          exact lex_bef h1 h.2
        have s6 := U.s.trans (Same.new (o := .lst (rs'.map fun r => V.ref r.1)) hp)
        refine CompP.listE (K := K) (fun σ => ∃ a b c d, σ = [a, b, c, d]) (fun i v H' => ∃ b r, rs'[i]? = some r ∧ v = .ref b ∧ H' b = some (.tup r.2.vs)) (SqL.of upd_same) ⟨_, _, _, _, rfl⟩ (by rw [List.length_map, hperm.length_eq, sizeLine_eq]; omega) ?_ ?_
        · rintro Da i x hx σ H7 R ⟨_, _, _, _, rfl⟩ sm hD ⟨acc, hA⟩ kk
          obtain ⟨r, hr', rfl⟩ := refsR_get hx
          have ht := sm _ _ (Same.new hp _ _ (U.t r (hperm.mem_iff.mp (get_mem hr'))))
          walk_at "rdi"
          refine ⟨_, SqT.of ht, rfl, _, _, rfl, _, _, rfl, _, _, rfl, _, _, rfl, rfl, ?_⟩
          exact ⟨by rw [sizeLine_eq]; decide, fun t ht => kk (.ref t) _ _ ⟨_, _, _, _, rfl⟩ (Same.new ht) fun H' hb => ⟨t, r, hr', rfl, hb _ _ (fun e => by rw [e, hA] at ht; cases ht) upd_same⟩⟩
        · intro Da H' acc hD sm hA hlen hF
          obtain ⟨ls, e1, e2, e3⟩ := refs_of (fun _ H r => H r.1 = some (.tup r.2.vs)) (H := H') (acc := acc) (ds := rs'.map (·.2)) (by rw [hlen, List.length_map, List.length_map]) fun i v hv => by
            obtain ⟨b, r, h1, h2, h3⟩ := hF i v hv
            exact ⟨b, r.2, by rw [List.getElem?_map, h1]; rfl, h2, h3⟩
          have hls : ls.length = rs.length := by
            have := congrArg List.length e2
            rw [List.length_map, List.length_map] at this
            rw [this, hperm.length_eq]
          refine k Da ls H' (s6.trans sm) (s6.free hD) (e1 ▸ hA) e3 (fun r hr => ?_) (by omega) ?_ (e2 ▸ hbef)
          · have : r.2 ∈ ls.map (·.2) := List.mem_map.mpr ⟨r, hr, rfl⟩
            rw [e2] at this
            obtain ⟨r', hr', e⟩ := List.mem_map.mp this
            rw [← e]
            exact U.g r' (hperm.mem_iff.mp hr')
          · have h1 : ls.map (·.2.n) = rs'.map (·.2.n) := by
              have := congrArg (List.map LotD.n) e2
              rw [List.map_map, List.map_map] at this
              exact this
            rw [h1]
            exact (hperm.map (·.2.n)).nodup_iff.mpr U.u
end
end My
namespace My
open PySem L2 PyProof.Rows
section
variable {P : Program} {w : World} {K : PySem.W.Frag} {mg : Str → Option Value} {base : Heap} {A : Adr} {D : Fds}
local macro_rules | `(tactic| walk_at "nx") => `(tactic| ((try dsimp only); rw [ap_seq]; walk_at "rdi"))
def LevOk (A : Adr) (z : Str) (sp : Sp) : Prop := ∀ (x q : Addr) (ls : RL) (H : Hp) (Q : VK) (E : XK), H q = some (.lst (refsR ls)) → LotAt A H ls → Fit (ls.map (·.2)) →
  (∀ l ls' H', Same H H' → H l = Option.none → H' l = some (.lst (refsR ls')) → LotAt A H' ls' → ls'.map (·.2) = flatD z (ls.map (·.2)) → Q (.ref l) H') → sp [.ref x, .ref q] H Q E
theorem way_lev {z : Str} (hz : z ≠ "mean") : LevOk A z sp_Way_levelled := fun x q ls H Q E h1 h2 h3 k =>
  ⟨x, q, _, rfl, h1, fun l hl => k l ls _ (Same.new hl) hl upd_same (h2.same (Same.new hl)) (by unfold flatD; rw [if_neg hz])⟩
theorem lev_of {z : Str} {C : Addr} (hC : WayC A z C) : ∃ sp, (C, sp) ∈ [(A.C_Eldest, sp_Way_levelled), (A.C_Newest, sp_Way_levelled), (A.C_Dearest, sp_Way_levelled), (A.C_Mean, sp_Mean_levelled A)] ∧ LevOk A z sp := by
  cases hC with
  | e => exact ⟨_, List.mem_cons_self, way_lev (by decide +kernel)⟩
  | n => exact ⟨_, List.mem_cons_of_mem _ List.mem_cons_self, way_lev (by decide +kernel)⟩
  | d => exact ⟨_, List.mem_cons_of_mem _ (List.mem_cons_of_mem _ List.mem_cons_self), way_lev (by decide +kernel)⟩
  | m =>
    refine ⟨_, List.mem_cons_of_mem _ (List.mem_cons_of_mem _ (List.mem_cons_of_mem _ List.mem_cons_self)), fun x q ls H Q E h1 h2 h3 k => ⟨x, q, ls, rfl, h1, h2, h3, ?_⟩⟩
    unfold flatD at k
    rw [if_pos rfl] at k
    exact k
def sp_gone_from (A : Adr) : Sp := fun vs H Q E => ∃ (x C dx q : Addr) (z : Str) (ls : RL) (w : Int) (pk : Addr) (ps : PL) (m : Nat), vs = [.ref x, .ref q, .int w, .ref pk] ∧ H x = some (.ins C dx []) ∧ WayC A z C ∧ H q = some (.lst (refsR ls)) ∧ LotAt A H ls ∧ R33 (ls.map (·.2)) ∧
  H pk = some (.lst (refsP ps)) ∧ PkAt H ps ∧ PkOk (flatD z (ls.map (·.2))) ((ps.map (·.2)).take m) ∧
  ((m = ps.length ∧ ∀ t la lb l1 l2 H', Same H H' → H' t = some (.tup [.ref la, .ref lb]) → H' la = some (.lst (refsR l1)) → H' lb = some (.lst (refsR l2)) → LotAt A H' l1 → LotAt A H' l2 → l1.map (·.2) = (ps.map (·.2)).map (someD (flatD z (ls.map (·.2)))) → l2.map (·.2) = leftR (ps.map (·.2)) (flatD z (ls.map (·.2))) →
    H la = Option.none → H lb = Option.none → la ≠ lb → Q (.ref t) H') ∨
  (∃ k, (ps.map (·.2))[m]? = some k ∧ k.1.natAbs < 2 ^ 300 ∧ k.1 ∉ ((ps.map (·.2)).take m).map (·.1) ∧ badPk (flatD z (ls.map (·.2))) k ∧ ∀ d H', Same H H' → H' d = some (.xd [("number", .int k.1)]) → E (.ref A.C_NoLot) (some d) H'))
theorem ok_gone_from (T : Txt K mg A D) : FnOk P w K mg base (CX1 P w) 5 A.gone_from D.gone_from ["way", "lots", "pieces", "named"] (sp_gone_from A) := by
  refine T.F_gone_from.okX sc_gone_from (fun vs H Q E h => ?_) (fun cdv A' outer s0 H vs Q E hr h => ?_)
  · obtain ⟨x, C, dx, q, z, ls, w, pk, ps, m, rfl, _⟩ := h; rfl
  · obtain ⟨x, C, dx, q, z, ls, w, pk, ps, m, rfl, hx, hC, hq, hL, hR, hk, hP, hK, kk⟩ := h
    refine ⟨_, (pss_cons (ps_set (i := 4) sc_gone_from.nd rfl (Or.inl rfl) (pe_methD (pv 0) (.cons T.cl_Eldest T.me_Eldest_levelled (ok_Way_levelled (K := K) T) (hr.mono (by decide)) (b_Way_levelled T) (.cons T.cl_Newest T.me_Newest_levelled (ok_Way_levelled (K := K) T) (hr.mono (by decide)) (b_Way_levelled T) (.cons T.cl_Dearest T.me_Dearest_levelled (ok_Way_levelled (K := K) T) (hr.mono (by decide)) (b_Way_levelled T) (.cons T.cl_Mean T.me_Mean_levelled (ok_Mean_levelled (K := K) T) (hr.mono (by decide)) (b_Mean_levelled T) .nil)))) pass0 (pa_cons (pv 1) pa_nil)))
      (pss_cons (ps_set (i := 5) sc_gone_from.nd rfl (Or.inl rfl) (pe_ifExp (pt_cmpR (op_isN) (pv 3) pe_non (nomark _)) (pe_methD (pv 0) (.cons T.cl_Eldest T.me_Eldest_picks (ok_Eldest_picks (K := K) T) (hr.mono (by decide)) (b_Eldest_picks T) (.cons T.cl_Newest T.me_Newest_picks (ok_Newest_picks (K := K) T) (hr.mono (by decide)) (b_Newest_picks T) (.cons T.cl_Dearest T.me_Dearest_picks (ok_Dearest_picks (K := K) T) (hr.mono (by decide)) (b_Dearest_picks T) (.cons T.cl_Mean T.me_Mean_picks (ok_Eldest_picks (K := K) T) (hr.mono (by decide)) (b_Eldest_picks T) .nil)))) pass0 (pa_cons (pv 4) (pa_cons (pv 2) pa_nil))) (pv 3)))
      (pss_one (ps_ret (pe_call (ok_row_without (K := K) T) (hr.mono (by decide)) (by rfl) T.m_row_without T.k_row_without (b_row_without T) .nil passes_cx (pa_cons (pv 4) (pa_cons (pv 5) pa_nil))))))), ?_⟩
    obtain ⟨sp1, hm1, hs1⟩ := lev_of hC
    have hF := hR.flat z
    simp only [start_eq]
    walk_at "nx"
    refine ⟨C, dx, _, hx, _, hm1, by rfl, ?_⟩
    refine hs1 x q ls H _ _ hq hL hR.fit fun l ls' H1 s1 hl h1 hL1 he1 => ?_
    walk_at "nx"
    rw [← he1] at hF kk hK
    refine ⟨l, pk, ls', ps, m, rfl, h1, hL1, s1 _ _ hk, hP.same s1, hF.ok, hK, kk.imp (fun ⟨e, k⟩ => ⟨e, fun t la lb l1 l2 H3 s3 ht h5 h6 h7 h8 h9 h10 h11 h12 h13 => k t la lb l1 l2 H3 (s1.trans s3) ht h5 h6 h7 h8 h9 h10 (s1.free h11) (s1.free h12) h13⟩) fun ⟨kb, g1, g2, g3, g4, g5⟩ => ⟨kb, g1, g2, g3, g4, fun d H' s hd => g5 d H' (s1.trans s) hd⟩⟩
def sp__law_no_lot (A : Adr) : Sp := fun vs H Q _ => ∃ (x C dx q : Addr) (z : Str) (ls : RL) (w : Int) (pk : Addr) (ps : PL) (m : Nat) (k : Int × Int), vs = [.ref x, .ref q, .int w, .ref pk] ∧ H x = some (.ins C dx []) ∧ WayC A z C ∧ H q = some (.lst (refsR ls)) ∧ LotAt A H ls ∧ R33 (ls.map (·.2)) ∧
  H pk = some (.lst (refsP ps)) ∧ PkAt H ps ∧ PkOk (flatD z (ls.map (·.2))) ((ps.map (·.2)).take m) ∧ (ps.map (·.2))[m]? = some k ∧ k.1.natAbs < 2 ^ 300 ∧ k.1 ∉ ((ps.map (·.2)).take m).map (·.1) ∧ badPk (flatD z (ls.map (·.2))) k ∧
  ∀ p H', Same H H' → H p = Option.none → H' p = some (.lst [.int k.1, .bl true]) → Q (.ref p) H'
theorem ok__law_no_lot (T : Txt K mg A D) : FnOk P w K mg base CX0 6 A._law_no_lot D._law_no_lot ["_law_way", "_law_lots_here", "_law_pieces", "_law_named"] (sp__law_no_lot A) := by
  refine T.F__law_no_lot.ok sc__law_no_lot (fun vs H Q E h => ?_) (fun cdv A' outer s H vs Q E hr h => ?_)
  · obtain ⟨x, C, dx, q, z, ls, w, pk, ps, m, kb, rfl, _⟩ := h; rfl
  · obtain ⟨x, C, dx, q, z, ls, w, pk, ps, m, kb, rfl, hx, hC, hq, hL, hR, hpk, hP, hK, hkb, hkn, hku, hbad, k⟩ := h
    refine ⟨_, (pss_cons (ps_set (i := 4) sc__law_no_lot.nd rfl (Or.inl rfl) (pe_lst pa_nil))
      (pss_cons (ps_tryF (i := 5) (pex_call (ok_gone_from (K := K) T) (hr.mono (by decide)) (by rfl) T.m_gone_from T.k_gone_from (b_gone_from T) .nil (pa_cons (pv 0) (pa_cons (pv 1) (pa_cons (pv 2) (pa_cons (pv 3) pa_nil))))) T.xi_NoLot (by rfl) T.m_NoLot rfl rfl sc__law_no_lot.nd rfl rfl (fun ea => (pss_one (ps_set (i := 4) sc__law_no_lot.nd rfl (Or.inl rfl) (pe_lst (pa_cons (pe_xfldK (K := K) (pv 5) rfl) (pa_cons (pe_callB (call_isFK (K := K)) (by rfl) T.b_isinstance (by decide +kernel) (pa_cons (pv 5) (pa_cons (pe_glob (v := V.ref A.C_LotError) (by rfl) T.m_LotError rfl) pa_nil))) pa_nil)))))))
      (pss_one (ps_ret (pv 4))))), ?_⟩
    walk_at "rd"
    refine ⟨Nat.zero_le _, fun p hp => ?_⟩
    try walk_at "rda"
    have lz : ∀ n : Nat, n ≤ 1000 → n ≤ sizeLine := fun n h => by rw [sizeLine_eq]; omega
    have sp := Same.new (o := .lst []) hp
    refine ⟨x, C, dx, q, z, ls, w, pk, ps, m, rfl, sp _ _ hx, hC, sp _ _ hq, hL.same sp, hR, sp _ _ hpk, hP.same sp, hK, .inr ⟨kb, hkb, hkn, hku, hbad, fun d H1 s1 hd1 => ⟨rfl, d, rfl, fun ea hea => ?_⟩⟩⟩
    have hde : d ≠ ea := fun e => by rw [e, hea] at hd1; cases hd1
    have S1 := sp.trans (s1.trans (Same.new (o := excF A.C_NoLot ea d) hea))
    have he : (upd H1 ea (excF A.C_NoLot ea d)) ea = some (excF A.C_NoLot ea d) := upd_same
    have hd2 : (upd H1 ea (excF A.C_NoLot ea d)) d = some (.xd [("number", .int kb.1)]) := (upd_ne hde).trans hd1
    generalize upd H1 ea (excF A.C_NoLot ea d) = H2 at S1 he hd2
    refine ⟨_, _, _, .inr he, T.xi_NoLot, T.y_NoLot, T.n_NoLot_number, _, hd2, kb.1, by rfl, _, ⟨_, he⟩, ⟨_, T.xi_NoLot⟩, T.y_NoLot, true, .inl T.kx1, lz _ (by decide), fun p2 hp2 => ?_⟩
    exact k p2 _ (S1.trans (Same.new hp2)) (S1.free hp2) upd_same
end
end My
namespace My
open PySem L2 PyProof.Rows
section
variable {P : Program} {w : World} {K : PySem.W.Frag} {mg : Str → Option Value} {base : Heap} {A : Adr} {D : Fds}
local macro_rules | `(tactic| walk_at "nx") => `(tactic| ((try dsimp only); rw [ap_seq]; walk_at "rdi"))
theorem split_first {α : Type} (P : α → Prop) : ∀ l : List α, (∃ x ∈ l, P x) → ∃ pre x post, l = pre ++ x :: post ∧ (∀ y ∈ pre, ¬ P y) ∧ P x
  | [], ⟨x, h, _⟩ => (List.not_mem_nil h).elim
  | y :: l, h => by
    by_cases hy : P y
    · exact ⟨[], y, l, rfl, fun z hz => (List.not_mem_nil hz).elim, hy⟩
    · obtain ⟨pre, x, post, e, h1, h2⟩ := split_first P l (by
        obtain ⟨x, hx, px⟩ := h
        rcases List.mem_cons.mp hx with rfl | hx
        · exact (hy px).elim
        · exact ⟨x, hx, px⟩)
      refine ⟨y :: pre, x, post, by rw [e]; rfl, fun z hz => ?_, h2⟩
      rcases List.mem_cons.mp hz with rfl | hz
      · exact hy
      · exact h1 z hz
def fstH (H : Hp) : V → V
  | .ref b => match H b with
    | some (.tup (v :: _)) => v
    | _ => .non
  | _ => .non
theorem fstH_at {H : Hp} {b : Addr} {v : V} {vs : List V} (h : H b = some (.tup (v :: vs))) : fstH H (.ref b) = v := by
  show (match H b with | some (.tup (v :: _)) => v | _ => .non) = _
  rw [h]
def trdH (H : Hp) : V → V
  | .ref b => match H b with
    | some (.tup (_ :: _ :: v :: _)) => v
    | _ => .non
  | _ => .non
theorem trdH_at {H : Hp} {b : Addr} {u v w : V} {vs : List V} (h : H b = some (.tup (u :: w :: v :: vs))) : trdH H (.ref b) = v := by
  show (match H b with | some (.tup (_ :: _ :: v :: _)) => v | _ => .non) = _
  rw [h]
theorem inj_n : ∀ {ds : List LotD} {d e : LotD}, (ds.map LotD.n).Nodup → d ∈ ds → e ∈ ds → d.n = e.n → d = e
  | x :: ds, d, e, hu, hd, he, h => by
    rw [List.map_cons, List.nodup_cons] at hu
    rcases List.mem_cons.mp hd with h1 | h1
    · rcases List.mem_cons.mp he with h2 | h2
      · rw [h1, h2]
      · exact (hu.1 (List.mem_map.mpr ⟨e, h2, by rw [← h, h1]⟩)).elim
    · rcases List.mem_cons.mp he with h2 | h2
      · exact (hu.1 (List.mem_map.mpr ⟨d, h1, by rw [h, h2]⟩)).elim
      · exact inj_n hu.2 h1 h2 h
theorem steps_by {kn : List Int} {n0 s : Int} {k : Nat} (h0 : 0 ≤ n0) (h1 : n0 < 1000001) (hs : 1 ≤ s ∧ s ≤ 1000) (hk : kn.length ≤ 100) (h : ∀ j : Nat, j < k → (n0 + j * s) % 1000001 ∈ kn) : k ≤ 200 → k ≤ kn.length := by
  intro hk2
  have hn : ((List.range k).map fun j : Nat => (n0 + j * s) % 1000001).Nodup := by
    rw [List.nodup_iff_pairwise_ne, List.pairwise_map]
    refine List.Pairwise.imp_of_mem (R := fun a b => a < b) (fun {a b} ha hb hab e => ?_) List.pairwise_lt_range
    have h2 := List.mem_range.mp ha
    have h3 := List.mem_range.mp hb
    have e1 : (b : Int) * s - a * s = (b - a) * s := by rw [Int.sub_mul]
    have e2 : 1 ≤ ((b : Int) - a) * s := by
      have : 1 * 1 ≤ ((b : Int) - a) * s := Int.mul_le_mul (by omega) hs.1 (by decide) (by omega)
      omega
    have e3 : ((b : Int) - a) * s ≤ 200 * 1000 := Int.mul_le_mul (by omega) hs.2 (by omega) (by decide)
    omega
  have := nodup_le hn fun x hx => by
    obtain ⟨j, hj, rfl⟩ := List.mem_map.mp hx
    exact h j (List.mem_range.mp hj)
  simpa using this
def sp__law_wrong : Sp := fun vs H Q _ => ∃ (pk p : Addr) (ps : PL) (rs : RL) (c : Int), vs = [.ref pk, .ref p, .int c] ∧ H pk = some (.lst (refsP ps)) ∧ PkAt H ps ∧ ps ≠ [] ∧ ps.length ≤ 8 ∧ H p = some (.lst (refsR rs)) ∧ RowAt H rs ∧ RowOk (rs.map (·.2)) ∧ (∀ r ∈ rs, 0 ≤ r.2.n ∧ r.2.n ≤ 1000000) ∧ rs.length ≤ 8 ∧ PkOk (rs.map (·.2)) (ps.map (·.2)) ∧
  ∀ (t t2 : Addr) (at0 : Nat) (n v : Int) H', Same H H' → H' t = some (.tup [.int at0, .ref t2]) → H' t2 = some (.tup [.int n, .int v]) → at0 < ps.length → badPk (rs.map (·.2)) (n, v) → n ∉ ((ps.map (·.2)).take at0).map (·.1) → 0 ≤ n ∧ n ≤ 1000000 → Q (.ref t) H'
theorem ok__law_wrong (T : Txt K mg A D) : FnOk P w K mg base CX0 1 A._law_wrong D._law_wrong ["_law_picks_here", "_law_row_here", "_law_cell_here"] sp__law_wrong := by
  refine T.F__law_wrong.ok sc__law_wrong (fun vs H Q E h => ?_) (fun cdv A' outer s0 H vs Q E hr h => ?_)
  · obtain ⟨pk, p, ps, rs, c, rfl, _⟩ := h; rfl
  · obtain ⟨pk, p, ps, rs, c, rfl, hpk, hP, hne, hp8, hp, hRA, hR, hrn, hr8, hK, k⟩ := h
    refine ⟨_, (pss_cons (ps_set (i := 3) sc__law_wrong.nd rfl (Or.inl rfl) (pe_op op_mod (pe_op op_fdivB (pv 2) pe_int) (pe_callB (call_lenK (K := K)) (by rfl) T.b_len (by decide +kernel) (pa_cons (pv 0) pa_nil))))
      (pss_cons (ps_asg (pe_ix (ix_listK (K := K)) (pv 0) (pv 3) (fun _ _ => rfl)) (pg_tupK (K := K) (n := 2) rfl (pgs_cons (pg_name (i := 4) sc__law_wrong.nd rfl (Or.inr rfl)) (pgs_cons (pg_name (i := 5) sc__law_wrong.nd rfl (Or.inl rfl)) pgs_nil))))
      (pss_cons (ps_if (pt_cmpR (op_eq) (pe_op op_mod (pv 2) pe_int) pe_int (nomark _)) (pss_cons (ps_set (i := 6) sc__law_wrong.nd rfl (Or.inl rfl) (pe_ix (ix_listK (K := K)) (pe_comp (cap := [Option.none, some 4]) (N' := ["_law_lot", "_law_number"]) rfl (by walk_at "compok") (pi_listK (K := K) (pv 1)) (fun _ _ _ _ => (pg_name (i := 0) (show (["_law_lot", "_law_number"] : List Str).Nodup from by decide +kernel) rfl (Or.inl rfl) (Or.inr rfl))) (fun _ _ _ _ => (pts_one (pt_cmpR (op_eq) (pe_ix (ix_tupK (K := K)) (pv 0) pe_int (fun _ _ => rfl)) (pv 1) (nomark _)))) (fun _ _ _ _ => (pe_ix (ix_tupK (K := K)) (pv 0) pe_int (fun _ _ => rfl)))) pe_int (fun _ _ => rfl)))
        (pss_one (ps_ret (pe_tup (pa_cons (pv 3) (pa_cons (pe_tup (pa_cons (pv 4) (pa_cons (pe_op op_add (pe_op op_add (pv 6) pe_int) (pe_op op_mod (pe_op op_fdivB (pv 2) pe_int) pe_int)) pa_nil))) pa_nil)))))) pss_nil)
      (pss_cons (ps_while PassesOwn.never (pt_cmpR (op_inK (K := K)) (pv 4) (pe_comp (cap := [Option.none]) (N' := ["_law_lot"]) rfl (by walk_at "compok") (pi_listK (K := K) (pv 1)) (fun _ _ _ _ => (pg_name (i := 0) (show (["_law_lot"] : List Str).Nodup from by decide +kernel) rfl (Or.inl rfl) (Or.inr rfl))) (fun _ _ _ _ => pts_nil) (fun _ _ _ _ => (pe_ix (ix_tupK (K := K)) (pv 0) pe_int (fun _ _ => rfl)))) (by with_unfolding_all rfl)) (pss_one (ps_set (i := 4) sc__law_wrong.nd rfl (Or.inr rfl) (pe_op op_mod (pe_op op_add (pe_op op_add (pv 4) pe_int) (pe_op op_mod (pe_op op_fdivB (pv 2) pe_int) pe_int)) (pe_op op_add (pe_op op_pow pe_int pe_int) pe_int)))))
      (pss_one (ps_ret (pe_tup (pa_cons (pv 3) (pa_cons (pe_tup (pa_cons (pv 4) (pa_cons (pv 5) pa_nil))) pa_nil))))))))), ?_⟩
    have hpl : 0 < ps.length := List.length_pos_iff.mpr hne
    have ha1 : 0 ≤ c / 4 % (ps.length : Int) := Int.emod_nonneg _ (by omega)
    have ha2 : c / 4 % (ps.length : Int) < ps.length := Int.emod_lt_of_pos _ (by omega)
    obtain ⟨at0, hat⟩ : ∃ at0 : Nat, c / 4 % (ps.length : Int) = (at0 : Int) := ⟨(c / 4 % (ps.length : Int)).toNat, by omega⟩
    have hal : at0 < ps.length := by omega
    obtain ⟨r, hr⟩ : ∃ r, ps[at0]? = some r := ⟨_, List.getElem?_eq_getElem hal⟩
    have hrm := List.mem_of_getElem? hr
    have hkr : r.2 ∈ ps.map (·.2) := List.mem_map.mpr ⟨r, hrm, rfl⟩
    have hkat : (ps.map (·.2))[at0]? = some r.2 := by rw [List.getElem?_map, hr]; rfl
    obtain ⟨d, hd, hdn, hw1, hw2⟩ := hK.h r.2 hkr
    simp only [start_eq]
    walk_at "nx"
    refine ⟨⟨by decide, by decide⟩, _, .inl (SqL.of hpk), by rw [refsP_len]; omega, ?_⟩
    rw [refsP_len, hat]
    walk_at "nx"
    refine ⟨_, SqL.of hpk, _, atI_nat (j := at0) (by unfold refsP; rw [List.getElem?_map, hr]; rfl), ?_⟩
    refine ⟨r.1, rfl, _, SqT.of (hP r hrm), rfl, _, _, rfl, _, _, rfl, rfl, ?_⟩
    walk_at "nx"
    refine ⟨by decide, ?_⟩
    have hdr : ∃ rd ∈ rs, rd.2 = d := by
      obtain ⟨rd, h1, h2⟩ := List.mem_map.mp hd
      exact ⟨rd, h1, h2⟩
    have hnb : 0 ≤ r.2.1 ∧ r.2.1 ≤ 1000000 := by
      obtain ⟨rd, h1, h2⟩ := hdr
      have := hrn rd h1
      rw [h2, hdn] at this
      exact this
    have hvt : ∀ {H' : Hp} {l : Addr × LotD}, H' l.1 = some (.tup l.2.vs) → SqT K H' l.1 [.int l.2.n, .int l.2.s, .int l.2.p, .int l.2.c] := fun h => SqT.of h
    split
    · walk_at "nx"
      refine ⟨⟨_, SqL.of hp⟩, ?_⟩
      refine CompP.list (K := K) (fun σ => ∃ a, σ = [a, some (.int r.2.1)]) (fun y => decide (fstH H y = V.int r.2.1)) (trdH H) (SqL.of hp) ⟨_, rfl⟩ (by rw [refsR_len, sizeLine_eq]; omega) ?_ ?_
      · rintro x hx σ H5 R1 R2 ⟨_, rfl⟩ sm k1 k2
        obtain ⟨l, hl, rfl⟩ := List.mem_map.mp (show x ∈ rs.map fun r => V.ref r.1 from hx)
        have ht := hvt (sm _ _ (hRA l hl))
        have e1 : fstH H (.ref l.1) = .int l.2.n := fstH_at (hRA l hl)
        have e2 : trdH H (.ref l.1) = .int l.2.p := trdH_at (hRA l hl)
        walk_at "rdi"
        refine ⟨_, ht, _, rfl, rfl, ?_⟩
        by_cases e : l.2.n = r.2.1
        · rw [if_pos (by rw [e])]
          refine ⟨_, ht, _, rfl, ?_⟩
          have := k1 (by rw [e1, e]; simp) [some (V.ref l.1), some (V.int r.2.1)] H5 ⟨_, rfl⟩ (Same.refl _)
          rw [e2] at this
          exact this
        · rw [if_neg (fun z => e (V.int.inj z))]
          exact k2 (by rw [e1]; exact decide_eq_false fun z => e (V.int.inj z)) _ _ ⟨_, rfl⟩ (Same.refl _)
      intro pc H1 hpc s1 hc1
      obtain ⟨rd, hrd, erd⟩ := hdr
      obtain ⟨pre, xk, post, ers, hpre, hxk⟩ := split_first (fun l : Addr × LotD => l.2.n = r.2.1) rs ⟨rd, hrd, by rw [erd, hdn]⟩
      have hxm : xk ∈ rs := by rw [ers]; exact List.mem_append_right _ List.mem_cons_self
      have hxd : xk.2 = d := inj_n hR.u (List.mem_map.mpr ⟨xk, hxm, rfl⟩) hd (by rw [hxk, hdn])
      have hfil : ∃ tl, ((refsR rs).filter (fun y => decide (fstH H y = V.int r.2.1))).map (trdH H) = V.int d.p :: tl := by
        have e0 : refsR rs = refsR pre ++ V.ref xk.1 :: refsR post := by rw [ers]; unfold refsR; rw [List.map_append, List.map_cons]
        have hp1 : decide (fstH H (V.ref xk.1) = V.int r.2.1) = true := by rw [fstH_at (hRA xk hxm)]; exact decide_eq_true (by rw [hxk])
        rw [e0, List.filter_append, List.filter_eq_nil_iff.mpr, List.nil_append, List.filter_cons_of_pos (p := fun y => decide (fstH H y = V.int r.2.1)) (a := V.ref xk.1) (l := refsR post) hp1, List.map_cons, trdH_at (hRA xk hxm), hxd]
        · exact ⟨_, rfl⟩
        · intro y hy h
          obtain ⟨l, hl, rfl⟩ := List.mem_map.mp (show y ∈ pre.map fun r => V.ref r.1 from hy)
          have hlm : l ∈ rs := by rw [ers]; exact List.mem_append_left _ hl
          have h := of_decide_eq_true h
          rw [fstH_at (hRA l hlm)] at h
          exact hpre l hl (V.int.inj h)
      obtain ⟨tl, etl⟩ := hfil
      rw [etl] at hc1
      refine ⟨pc, rfl, V.int d.p :: tl, SqL.of hc1, V.int d.p, atI_nat (j := 0) rfl, ?_⟩
      try dsimp only
      walk_at "rdi"
      refine ⟨⟨by decide, by decide⟩, by decide, by rw [sizeLine_eq]; decide, fun t2 ht2 => ⟨by rw [sizeLine_eq]; decide, fun t ht => ?_⟩⟩
      have n2 := Same.new (o := .tup [V.int r.2.1, V.int (d.p + 1 + c / 64 % 1000)]) ht2
      have h2 : (upd H1 t2 (.tup [V.int r.2.1, V.int (d.p + 1 + c / 64 % 1000)])) t2 = some (.tup [V.int r.2.1, V.int (d.p + 1 + c / 64 % 1000)]) := upd_same
      generalize upd H1 t2 (.tup [V.int r.2.1, V.int (d.p + 1 + c / 64 % 1000)]) = H2 at n2 h2 ht
      have n3 := Same.new (o := .tup [V.int at0, V.ref t2]) ht
      refine k t t2 at0 r.2.1 (d.p + 1 + c / 64 % 1000) _ (s1.trans (n2.trans n3)) upd_same (n3 _ _ h2) hal (fun e he hen => ?_) (nodup_at hK.u hkat) hnb
      have : e = d := inj_n hR.u he hd (hen.trans hdn.symm)
      rw [this]
      show d.p < d.p + 1 + c / 64 % 1000
      omega
    · obtain ⟨st, hst⟩ : ∃ st, 1 + c / 64 % 1000 = st := ⟨_, rfl⟩
      have hs1 : 1 ≤ st ∧ st ≤ 1000 := by omega
      obtain ⟨kn, hkn⟩ : ∃ kn, (rs.map fun l => l.2.n) = kn := ⟨_, rfl⟩
      have hknl : kn.length ≤ 8 := by rw [← hkn, List.length_map]; exact hr8
      have hkd : (rs.map (·.2)).map LotD.n = kn := by rw [← hkn, List.map_map]; rfl
      rw [ap_seq]
      refine ⟨fun m σ H' => ∃ kk : Nat, m = kn.length - kk ∧ kk ≤ kn.length ∧ Same H H' ∧ (∀ j : Nat, j < kk → (r.2.1 + j * st) % 1000001 ∈ kn) ∧
        σ = [some (.ref pk), some (.ref p), some (.int c), some (.int at0), some (.int ((r.2.1 + kk * st) % 1000001)), some (.int r.2.2), Option.none],
        ⟨_, 0, rfl, Nat.zero_le _, Same.refl _, fun j hj => absurd hj (Nat.not_lt_zero _), ?_⟩, ?_⟩
      · rw [show ((0 : Nat) : Int) * st = 0 by simp, Int.add_zero, Int.emod_eq_of_lt (by omega) (by omega)]
      rintro m σ H7 ⟨kk, rfl, hkk, s7, hin, rfl⟩
      walk_at "rdi"
      refine ⟨⟨_, SqL.of (s7 _ _ hp)⟩, row_comp 0 (fun l => l.2.n) (fun l => rfl) (s7 _ _ hp) (hRA.same s7) (by omega) fun q3 H8 hq3 s8 h8 => ?_⟩
      rw [hkn] at h8
      try dsimp only
      refine ⟨q3, rfl, _, .inl (SqL.of h8), rfl, flat_ints _, ?_⟩
      try dsimp only
      rw [inV_ints]
      by_cases hm' : (r.2.1 + kk * st) % 1000001 ∈ kn
      · rw [if_pos (decide_eq_true hm')]
        have hin' : ∀ j : Nat, j < kk + 1 → (r.2.1 + j * st) % 1000001 ∈ kn := fun j hj => by
          by_cases e : j < kk
          · exact hin j e
          · obtain rfl : j = kk := by omega
            exact hm'
        have hle := steps_by hnb.1 (by omega) hs1 (by omega) hin' (by omega)
        refine ⟨_, fun σ' H2 h => h, ⟨by decide, by decide⟩, by decide, ⟨by decide, by decide, by decide⟩, by decide, kn.length - (kk + 1), by omega, kk + 1, rfl, hle, s7.trans s8, hin', ?_⟩
        have : ((r.2.1 + kk * st) % 1000001 + 1 + c / 64 % 1000) % (10 ^ Int.toNat 6 + 1) = (r.2.1 + ((kk + 1 : Nat) : Int) * st) % 1000001 := by
          rw [show (10 ^ Int.toNat 6 + 1 : Int) = 1000001 from rfl, Int.add_assoc, hst, show (((kk + 1 : Nat) : Int) * st) = kk * st + st by rw [Int.natCast_add, Int.add_mul]; simp]
          omega
        rw [this]
      · rw [if_neg (by simpa using hm')]
        obtain ⟨nb, hnb2⟩ : ∃ nb, (r.2.1 + (kk : Int) * st) % 1000001 = nb := ⟨_, rfl⟩
        have bn : 0 ≤ nb ∧ nb < 1000001 := by omega
        rw [hnb2] at hm' ⊢
        refine ⟨by rw [sizeLine_eq]; decide, fun t2 ht2 => ⟨by rw [sizeLine_eq]; decide, fun t ht => ?_⟩⟩
        have n2 := Same.new (o := .tup [V.int nb, V.int r.2.2]) ht2
        have h2 : (upd H8 t2 (.tup [V.int nb, V.int r.2.2])) t2 = some (.tup [V.int nb, V.int r.2.2]) := upd_same
        generalize upd H8 t2 (.tup [V.int nb, V.int r.2.2]) = H2 at n2 h2 ht
        have n3 := Same.new (o := .tup [V.int at0, V.ref t2]) ht
        refine k t t2 at0 nb r.2.2 _ (s7.trans (s8.trans (n2.trans n3))) upd_same (n3 _ _ h2) hal (fun e he hen => ?_) (fun hm => ?_) ⟨bn.1, by omega⟩
        · exact (hm' (by rw [← hkd]; exact List.mem_map.mpr ⟨e, he, hen⟩)).elim
        · obtain ⟨kz, hkz, ekz⟩ := List.mem_map.mp hm
          obtain ⟨d0, hd0, hdn0, _⟩ := hK.h kz (List.mem_of_mem_take hkz)
          exact hm' (by rw [← hkd]; exact List.mem_map.mpr ⟨d0, hd0, by rw [hdn0, ekz]⟩)
end
end My
namespace My
open PySem L2 PyProof.Rows
section
variable {P : Program} {w : World} {K : PySem.W.Frag} {mg : Str → Option Value} {base : Heap} {A : Adr} {D : Fds}
local macro_rules | `(tactic| walk_at "nx") => `(tactic| ((try dsimp only); rw [ap_seq]; walk_at "rdi"))
theorem seq_gen {t u : TS} {D : Ends} {σ : L2.St} {H : Hp} (P : L2.St → Hp → Prop) (k : ∀ σ' H', P σ' H' → u D σ' H') (h : ∀ N : L2.St → Hp → Prop, (∀ σ' H', P σ' H' → N σ' H') → t { D with nx := N } σ H) : tSeq t u D σ H := h (u D) k
theorem cut_from (xs : List V) (n : Nat) : cutV xs (some (n : Int)) none = xs.drop n := by
  unfold cutV
  rw [HT.sIx_none, HT.sIx_nat]
  rcases Nat.le_total n xs.length with h | h
  · rw [Nat.min_eq_left h, List.take_of_length_le (by rw [List.length_drop]; exact Nat.le_refl _)]
  · rw [Nat.min_eq_right h, List.drop_of_length_le (Nat.le_refl _), List.drop_of_length_le h, List.take_nil]
theorem pr_comp2 {σ : L2.St} {H : Hp} {Q : VK} {p : Addr} {ps : PL} (hH : H p = some (.lst (refsP ps))) (hP : PkAt H ps) (hz : ps.length ≤ 1000) (k : ∀ D H', H D = Option.none → Same H H' → H' D = some (.lst ((ps.map (·.2.2)).map V.int)) → Q (.ref D) H') :
    CompP [Option.none, Option.none] (Itl K p) (gTup K 2 (gCons (gName 0) (gCons (gName 1) gNil))) tNoIf (tVar 1) σ H Q := by
  refine CompP.listE (K := K) (fun σ => ∃ a b, σ = [a, b]) (fun i v _ => ∃ l, ps[i]? = some l ∧ v = .int l.2.2) (SqL.of hH) ⟨_, _, rfl⟩ (by rw [refsP_len, sizeLine_eq]; omega) ?_ ?_
  · rintro Da i x hx σ H5 R ⟨_, _, rfl⟩ sm hD _ kk
    obtain ⟨l, hl', rfl⟩ := refsP_get hx
    have ht := sm _ _ (hP l (List.mem_of_getElem? hl'))
    walk_at "rdi"
    exact ⟨_, SqT.of ht, rfl, _, _, rfl, _, _, rfl, rfl, kk _ _ H5 ⟨_, _, rfl⟩ (Same.refl _) fun H' _ => ⟨l, hl', rfl⟩⟩
  · intro Da H' acc hD sm hA hlen hF
    rw [refsP_len] at hlen
    have e : acc = (ps.map (·.2.2)).map V.int := by
      refine List.ext_getElem (by simp [hlen]) fun i h1 h2 => ?_
      obtain ⟨l, e1, e2⟩ := hF i acc[i] (by simp)
      have h3 : i < ps.length := by omega
      have : ps[i] = l := by
        rw [List.getElem?_eq_getElem h3] at e1
        exact Option.some.inj e1
      rw [e2]
      simp [this]
    rw [e] at hA
    exact k Da H' hD sm hA
theorem flat_get {z : Str} {ds : List LotD} {i : Nat} {d : LotD} (h : ds[i]? = some d) : ∃ c, (flatD z ds)[i]? = some ⟨d.n, d.s, d.p, c⟩ := by
  unfold flatD
  split
  · exact ⟨_, lev_get h⟩
  · exact ⟨d.c, h⟩
theorem flat_len (z : Str) (ds : List LotD) : (flatD z ds).length = ds.length := by
  unfold flatD
  split
  · exact lev_len ds
  · rfl
theorem flat_to {z : Str} {ds : List LotD} {d : LotD} (h : d ∈ ds) : ∃ e ∈ flatD z ds, e.n = d.n ∧ e.p = d.p := by
  obtain ⟨i, hi, e⟩ := List.getElem_of_mem h
  obtain ⟨c, hc⟩ := flat_get (z := z) (show ds[i]? = some d by rw [List.getElem?_eq_getElem hi, e])
  exact ⟨_, List.mem_of_getElem? hc, rfl, rfl⟩
theorem flat_from {z : Str} {ds : List LotD} {e : LotD} (h : e ∈ flatD z ds) : ∃ d ∈ ds, d.n = e.n ∧ d.p = e.p := by
  obtain ⟨i, hi, ee⟩ := List.getElem_of_mem h
  have hi' : i < ds.length := by rw [flat_len] at hi; exact hi
  obtain ⟨c, hc⟩ := flat_get (z := z) (show ds[i]? = some ds[i] from List.getElem?_eq_getElem hi')
  rw [List.getElem?_eq_getElem hi, ee] at hc
  have := Option.some.inj hc
  exact ⟨ds[i], List.getElem_mem hi', by rw [this], by rw [this]⟩
theorem flat_pk {z : Str} {ds : List LotD} {ks : Pk} (h : PkOk ds ks) : PkOk (flatD z ds) ks := ⟨h.u, fun k hk => by
  obtain ⟨d, hd, h1, h2, h3⟩ := h.h k hk
  obtain ⟨e, he, e1, e2⟩ := flat_to (z := z) hd
  exact ⟨e, he, e1.trans h1, h2, by omega⟩⟩
theorem flat_bad {z : Str} {ds : List LotD} {k : Int × Int} (h : badPk ds k) : badPk (flatD z ds) k := fun e he hen => by
  obtain ⟨d, hd, h1, h2⟩ := flat_from he
  have := h d hd (h1.trans hen)
  omega
theorem ok_law (T : Txt K mg A D) : FnOk P w K mg base CX0 7 A.law D.law ["_law_script"] (sp_law K) := by
  refine T.F_law.ok sc_law (fun vs H Q E h => ?_) (fun cdv A' outer s0 H vs Q E hr h => ?_)
  · obtain ⟨a, ns, rfl, _⟩ := h; rfl
  · obtain ⟨a, ns, rfl, hS, hl, k⟩ := h
    refine ⟨_, (pss_cons (ps_set (i := 1) sc_law.nd rfl (Or.inl rfl) (pe_call (ok__law_row (K := K) T) (hr.mono (by decide)) (by rfl) T.m__law_row T.k__law_row (b__law_row T) .nil pass0 (pa_cons (pv 0) (pa_cons pe_int (pa_cons pe_int pa_nil)))))
      (pss_cons (ps_set (i := 2) sc_law.nd rfl (Or.inl rfl) (pe_call (ok__law_lots (K := K) T) (hr.mono (by decide)) (by rfl) T.m__law_lots T.k__law_lots (b__law_lots T) .nil pass0 (pa_cons (pv 1) pa_nil)))
      (pss_cons (ps_set (i := 3) sc_law.nd rfl (Or.inl rfl) (pe_call (ok__law_picks (K := K) T) (hr.mono (by decide)) (by rfl) T.m__law_picks T.k__law_picks (b__law_picks T) .nil pass0 (pa_cons (pv 0) (pa_cons pe_int (pa_cons (pv 1) pa_nil)))))
      (pss_cons (ps_set (i := 4) sc_law.nd rfl (Or.inl rfl) (pe_callB (call_sumK (K := K) rfl) (by rfl) T.b_sum (by decide +kernel) (pa_cons (pe_comp (cap := [Option.none, Option.none]) (N' := ["_law_number", "_law_pieces"]) rfl (by walk_at "compok") (pi_listK (K := K) (pv 3)) (fun _ _ _ _ => (pg_tupK (K := K) (n := 2) rfl (pgs_cons (pg_name (i := 0) (show (["_law_number", "_law_pieces"] : List Str).Nodup from by decide +kernel) rfl (Or.inl rfl) (Or.inr rfl)) (pgs_cons (pg_name (i := 1) (show (["_law_number", "_law_pieces"] : List Str).Nodup from by decide +kernel) rfl (Or.inl rfl) (Or.inr rfl)) pgs_nil)))) (fun _ _ _ _ => pts_nil) (fun _ _ _ _ => (pv 1))) pa_nil)))
      (pss_cons (ps_if (pt_cmpR (op_eqRK (K := K) hr) (pv 3) (pe_lst pa_nil) (nomark _)) (pss_one (ps_ret (pe_call (ok__law_are (K := K) T) (hr.mono (by decide)) (by rfl) T.m__law_are T.k__law_are (b__law_are T) .nil pass0 (pa_cons (pv 2) (pa_cons (pv 1) pa_nil))))) pss_nil)
      (pss_cons (ps_for PassesOwn.never rfl (pi_listK (K := K) (pe_lst (pa_cons pe_str (pa_cons pe_str (pa_cons pe_str (pa_cons pe_str pa_nil)))))) (pg_name (i := 5) sc_law.nd rfl (Or.inl rfl))
        (pss_cons (ps_set (i := 6) sc_law.nd rfl (Or.inl rfl) (pe_call (ok_way_by (K := K) T) (hr.mono (by decide)) (by rfl) T.m_way_by T.k_way_by (b_way_by T) .nil pass0 (pa_cons (pv 5) pa_nil)))
        (pss_cons (ps_set (i := 7) sc_law.nd rfl (Or.inl rfl) (pv 1))
        (pss_cons (ps_if (pt_cmpR (op_eq) (pv 5) pe_str (nomark _)) (pss_one (ps_set (i := 7) sc_law.nd rfl (Or.inl rfl) (pe_call (ok__law_even (K := K) T) (hr.mono (by decide)) (by rfl) T.m__law_even T.k__law_even (b__law_even T) .nil pass0 (pa_cons (pv 1) pa_nil)))) pss_nil)
        (pss_cons (ps_set (i := 8) sc_law.nd rfl (Or.inl rfl) (pe_callTy (call_listK (K := K)) (by rfl) T.b_list (by decide +kernel) (pa_cons (pv 3) pa_nil)))
        (pss_cons (ps_asg (pe_call (ok__law_taken (K := K) T) (hr.mono (by decide)) (by rfl) T.m__law_taken T.k__law_taken (b__law_taken T) .nil pass0 (pa_cons (pv 7) (pa_cons (pv 3) pa_nil))) (pg_tupK (K := K) (n := 2) rfl (pgs_cons (pg_name (i := 9) sc_law.nd rfl (Or.inl rfl)) (pgs_cons (pg_name (i := 10) sc_law.nd rfl (Or.inl rfl)) pgs_nil))))
        (pss_cons (ps_set (i := 11) sc_law.nd rfl (Or.inl rfl) (pe_call (ok_gone_from (K := K) T) (hr.mono (by decide)) (by rfl) T.m_gone_from T.k_gone_from (b_gone_from T) .nil pass1 (pa_cons (pv 6) (pa_cons (pv 2) (pa_cons (pv 4) (pa_cons (pv 8) pa_nil))))))
        (pss_cons (ps_if (PW.pt (pw_or (pt_not (pt_val (pe_callB (call_isTK (K := K)) (by rfl) T.b_isinstance (by decide +kernel) (pa_cons (pv 11) (pa_cons (pe_ty "tuple" (by rfl) T.b_tuple (by decide +kernel)) pa_nil))))) (pw_or (pt_not (pt_val (pe_call (ok__law_are (K := K) T) (hr.mono (by decide)) (by rfl) T.m__law_are T.k__law_are (b__law_are T) .nil pass0 (pa_cons (pe_ix (ix_tupK (K := K)) (pv 11) pe_int (fun _ _ => rfl)) (pa_cons (pv 9) pa_nil))))) (pw_or1 (pt_not (pt_val (pe_call (ok__law_are (K := K) T) (hr.mono (by decide)) (by rfl) T.m__law_are T.k__law_are (b__law_are T) .nil pass0 (pa_cons (pe_ix (ix_tupK (K := K)) (pv 11) pe_int (fun _ _ => rfl)) (pa_cons (pv 10) pa_nil))))))))) (pss_one (ps_ret pe_bl)) pss_nil)
        (pss_cons (ps_if (PW.pt (pw_or (pt_cmpR (op_neRK (K := K) hr) (pv 8) (pv 3) (nomark _)) (pw_or1 (pt_not (pt_val (pe_call (ok__law_are (K := K) T) (hr.mono (by decide)) (by rfl) T.m__law_are T.k__law_are (b__law_are T) .nil pass0 (pa_cons (pv 2) (pa_cons (pv 1) pa_nil)))))))) (pss_one (ps_ret pe_bl)) pss_nil)
        (pss_cons (ps_asg (pe_call (ok__law_wrong (K := K) T) (hr.mono (by decide)) (by rfl) T.m__law_wrong T.k__law_wrong (b__law_wrong T) .nil pass0 (pa_cons (pv 3) (pa_cons (pv 1) (pa_cons (pe_call (ok__law_cell (K := K) T) (hr.mono (by decide)) (by rfl) T.m__law_cell T.k__law_cell (b__law_cell T) .nil pass0 (pa_cons (pv 0) (pa_cons pe_int pa_nil))) pa_nil)))) (pg_tupK (K := K) (n := 2) rfl (pgs_cons (pg_name (i := 12) sc_law.nd rfl (Or.inl rfl)) (pgs_cons (pg_name (i := 13) sc_law.nd rfl (Or.inl rfl)) pgs_nil))))
        (pss_cons (ps_set (i := 14) sc_law.nd rfl (Or.inl rfl) (pe_op op_cat (pe_op op_cat (pe_slice (sl_listK (K := K)) (pv 3) po_none (po_some (pv 12))) (pe_lst (pa_cons (pv 13) pa_nil))) (pe_slice (sl_listK (K := K)) (pv 3) (po_some (pe_op op_add (pv 12) pe_int)) po_none)))
        (pss_cons (ps_set (i := 15) sc_law.nd rfl (Or.inl rfl) (pe_callB (call_sumK (K := K) rfl) (by rfl) T.b_sum (by decide +kernel) (pa_cons (pe_comp (cap := [Option.none, Option.none]) (N' := ["_law_number", "_law_part"]) rfl (by walk_at "compok") (pi_listK (K := K) (pv 14)) (fun _ _ _ _ => (pg_tupK (K := K) (n := 2) rfl (pgs_cons (pg_name (i := 0) (show (["_law_number", "_law_part"] : List Str).Nodup from by decide +kernel) rfl (Or.inl rfl) (Or.inr rfl)) (pgs_cons (pg_name (i := 1) (show (["_law_number", "_law_part"] : List Str).Nodup from by decide +kernel) rfl (Or.inl rfl) (Or.inr rfl)) pgs_nil)))) (fun _ _ _ _ => pts_nil) (fun _ _ _ _ => (pv 1))) pa_nil)))
        (pss_one (ps_if (PW.pt (pw_or (pt_cmpR (op_neDK (K := K) hr) (pe_call (ok__law_no_lot (K := K) T) (hr.mono (by decide)) (by rfl) T.m__law_no_lot T.k__law_no_lot (b__law_no_lot T) .nil pass0 (pa_cons (pv 6) (pa_cons (pv 2) (pa_cons (pv 15) (pa_cons (pv 14) pa_nil))))) (pe_lst (pa_cons (pe_ix (ix_tupK (K := K)) (pv 13) pe_int (fun _ _ => rfl)) (pa_cons pe_bl pa_nil))) (nomark _)) (pw_or1 (pt_not (pt_val (pe_call (ok__law_are (K := K) T) (hr.mono (by decide)) (by rfl) T.m__law_are T.k__law_are (b__law_are T) .nil pass0 (pa_cons (pv 2) (pa_cons (pv 1) pa_nil)))))))) (pss_one (ps_ret pe_bl)) pss_nil))))))))))))))
      (pss_one (ps_ret pe_bl)))))))), ?_⟩
    simp only [start_eq]
    walk_at "nx"
    refine ⟨a, ns, 1, 8, rfl, hS, hl, by decide, fun p rs H1 s1 hpn hp1 hR1 hg hrl hnd hB => ?_⟩
    have hO : R33 (rs.map (·.2)) := by
      refine ⟨by rw [List.map_map]; exact hnd, hB, fun d hd => ?_, fun d hd => ?_, ?_, by rw [List.length_map]; omega⟩
      · obtain ⟨r, hr, rfl⟩ := List.mem_map.mp hd
        exact (hg r hr).p
      · obtain ⟨r, hr, rfl⟩ := List.mem_map.mp hd
        exact (hg r hr).c.1
      · have := sum_le (B := 1000000000000000000) (l := (rs.map (·.2)).map LotD.c) fun x hx => by
          rw [List.map_map] at hx
          obtain ⟨r, hr, rfl⟩ := List.mem_map.mp hx
          exact (hg r hr).c.2
        rw [List.length_map, List.length_map] at this
        omega
    have hOk := hO.ok
    walk_at "nx"
    refine ⟨p, rs, rfl, SqL.of hp1, hR1, by omega, fun q ls H2 s2 hqn hq2 he hL2 => ?_⟩
    have hll : ls.length = rs.length := by simpa using congrArg List.length he
    have hp2 := s2 _ _ hp1
    have hR2 := hR1.same s2
    have hS2 := (s1.trans s2).seq hS
    walk_at "nx"
    refine ⟨a, ns, 36, p, rs, rfl, hS2, hl, hp2, hR2, hOk, fun pk ps H3 s3 hpkn hpk3 hP3 hPk => ?_⟩
    have hps8 : ps.length ≤ 8 := by
      have h1 := nodup_le2 (k := (rs.map (·.2)).map LotD.n) hPk.u fun x hx => by
        obtain ⟨kk, hk1, rfl⟩ := List.mem_map.mp hx
        obtain ⟨d, hd1, hd2, _⟩ := hPk.h kk hk1
        exact List.mem_map.mpr ⟨d, hd1, hd2⟩
      rw [List.length_map, List.length_map, List.length_map, List.length_map] at h1
      omega
    walk_at "nx"
    refine ⟨⟨_, SqL.of hpk3⟩, pr_comp2 hpk3 hP3 (by omega) fun pc H4 hpc s4 hc4 => ?_⟩
    walk_at "rdi"
    refine ⟨_, SqL.of hc4, ?_⟩
    generalize (ps.map (·.2.2)).sum = wn
    walk_at "nx"
    refine ⟨Nat.zero_le _, fun pe hpe => ?_⟩
    have n5 := Same.new (o := .lst []) hpe
    have h5e : (upd H4 pe (.lst [])) pe = some (.lst []) := upd_same
    generalize upd H4 pe (.lst []) = H5 at n5 h5e
    have S35 := s4.trans n5
    have S25 := s3.trans S35
    refine ⟨_, SqL.of (S35 _ _ hpk3), _, SqL.of h5e, ?_⟩
    by_cases hps : ps = []
    · refine .inr ⟨by rw [hps]; rfl, fun v hv => by rw [hps] at hv; exact (List.not_mem_nil hv).elim, ?_⟩
      try dsimp only
      try walk_at "rdi"
      exact ⟨q, p, ls, rs, rfl, S25 _ _ hq2, S25 _ _ hp2, hL2.same S25, hR2.same S25, he, by omega, fun H' _ => k _⟩
    have hrne : rs ≠ [] := fun e => by
      obtain ⟨r0, hr0⟩ := List.exists_mem_of_ne_nil _ hps
      obtain ⟨d, hd, _⟩ := hPk.h r0.2 (List.mem_map.mpr ⟨r0, hr0, rfl⟩)
      rw [e] at hd
      exact List.not_mem_nil hd
    refine .inl ⟨fun e => hps (List.length_eq_zero_iff.mp (by rw [refsP_len] at e; exact e)), ?_⟩
    try dsimp only
    rw [ap_seq, ap_for]
    walk_at "rdi"
    refine ⟨by rw [sizeLine_eq]; decide, fun pz hpz => ⟨⟨_, SqL.of upd_same⟩, ?_⟩⟩
    have h11 : (upd H5 pz (.lst [V.str "eldest", V.str "newest", V.str "dearest", V.str "mean"])) pz = some (.lst [V.str "eldest", V.str "newest", V.str "dearest", V.str "mean"]) := upd_same
    have S11 := Same.new (o := .lst [V.str "eldest", V.str "newest", V.str "dearest", V.str "mean"]) hpz
    generalize upd H5 pz _ = B at S11 h11
    have hqB := (S25.trans S11) _ _ hq2
    have hLB := hL2.same (S25.trans S11)
    have hpB := (S25.trans S11) _ _ hp2
    have hRB := hR2.same (S25.trans S11)
    have hkB := (S35.trans S11) _ _ hpk3
    have hPB := hP3.same (S35.trans S11)
    have hSB := (S25.trans S11).seq hS2
    clear hqn hpn hpkn hpc hc4 hpe h5e hpz S25 S35 S11 n5 s4 s3 s2 s1 hp1 hR1 hp2 hR2 hq2 hL2 hS2 hS hpk3 hP3
    refine ForP.list (K := K) (a := pz) (xs := [V.str "eldest", V.str "newest", V.str "dearest", V.str "mean"]) (fun i σ H' => (∃ v5 v6 v7 v8 v9 v10 v11 v12 v13 v14 v15, σ = [some (.ref a), some (.ref p), some (.ref q), some (.ref pk), some (.int wn), v5, v6, v7, v8, v9, v10, v11, v12, v13, v14, v15]) ∧ Same B H')
      ⟨⟨_, _, _, _, _, _, _, _, _, _, _, rfl⟩, Same.refl _⟩ (fun i σ H' _ ⟨_, s⟩ => s.seq (SqL.of h11)) ?_ ?_
    · rintro i y σ H6 hy ⟨⟨v5, v6, v7, v8, v9, v10, v11, v12, v13, v14, v15, rfl⟩, s6⟩
      obtain ⟨z, C, rfl, hC⟩ : ∃ z C, y = .str z ∧ WayC A z C := by
        rcases i with _ | _ | _ | _ | i
        · cases hy; exact ⟨_, _, rfl, .e⟩
        · cases hy; exact ⟨_, _, rfl, .n⟩
        · cases hy; exact ⟨_, _, rfl, .d⟩
        · cases hy; exact ⟨_, _, rfl, .m⟩
        · cases hy
      walk_at "rdi"
      walk_at "nx"
      refine ⟨z, C, rfl, hC, fun x dx H7 s7 hxn hx7 => ?_⟩
      have S7 := s6.trans s7
      walk_at "nx"
      refine seq_gen (fun σ Hx => ∃ (pf : Addr) (fl : RL), σ = [some (.ref a), some (.ref p), some (.ref q), some (.ref pk), some (.int wn), some (.str z), some (.ref x), some (.ref pf), v8, v9, v10, v11, v12, v13, v14, v15] ∧ Same H7 Hx ∧ Hx pf = some (.lst (refsR fl)) ∧ RowAt Hx fl ∧ fl.map (·.2) = flatD z (rs.map (·.2))) ?_ ?_
      rotate_left
      · intro N hN
        walk_at "rdi"
        by_cases hz : z = Str.ofString "mean"
        · rw [if_pos hz]
          refine ⟨p, rs, rfl, S7 _ _ hpB, hRB.same S7, hO.fit, hrne, fun q' rs' H8 s8 hqn8 hq8 hR8 he8 => ?_⟩
          exact hN _ _ ⟨q', rs', rfl, s8, hq8, hR8, by rw [he8]; unfold flatD; rw [if_pos hz]⟩
        · rw [if_neg hz]
          exact hN _ _ ⟨p, rs, rfl, Same.refl _, S7 _ _ hpB, hRB.same S7, by unfold flatD; rw [if_neg hz]⟩
      rintro σ H8 ⟨pf, fl, rfl, s8, hf8, hRf8, hef⟩
      have S8 := S7.trans s8
      have hF := hO.flat z
      walk_at "nx"
      refine ⟨_, .inl (SqL.of (S8 _ _ hkB)), fun ph hph => ?_⟩
      have n9 := Same.new (o := .lst (refsP ps)) hph
      have hh9 : (upd H8 ph (.lst (refsP ps))) ph = some (.lst (refsP ps)) := upd_same
      generalize upd H8 ph (.lst (refsP ps)) = H9 at n9 hh9
      have S9 := S8.trans n9
      have hK := flat_pk (z := z) hPk
      walk_at "nx"
      refine ⟨pf, pk, fl, ps, rfl, n9 _ _ hf8, hRf8.same n9, S9 _ _ hkB, hPB.same S9, hef ▸ hF.ok, by rw [hef]; exact hK, fun t2 ra rb r1 r2 H10 s10 ht2 hra hrb hRa hRb e3 e4 => ?_⟩
      refine ⟨t2, rfl, _, SqT.of ht2, rfl, _, _, rfl, _, _, rfl, rfl, ?_⟩
      have S10 := S9.trans s10
      walk_at "nx"
      refine ⟨x, C, dx, q, z, ls, wn, ph, ps, ps.length, rfl, (s8.trans (n9.trans s10)) _ _ hx7, hC, S10 _ _ hqB, hLB.same S10, he ▸ hO, s10 _ _ hh9, hPB.same S10, by rw [List.take_of_length_le (by rw [List.length_map]; exact Nat.le_refl _), he]; exact hK, .inl ⟨rfl, fun t la lb l1 l2 H11 s11 ht hla hlb hLa hLb e1 e2 fa fb hab => ?_⟩⟩
      rw [he] at e1 e2
      rw [hef] at e3 e4
      have S11 := S10.trans s11
      have hl1 : l1.length ≤ 40 := by
        have h1 := congrArg List.length e1
        rw [List.length_map, List.length_map, List.length_map] at h1
        omega
      have hl2 : l2.length ≤ 40 := by
        have h1 := (hF.left hK).ok.l
        rw [← e2, List.length_map] at h1
        exact h1
      walk_at "nx"
      refine ⟨_, .tup ht, true, by with_unfolding_all rfl, ?_⟩
      rw [if_neg (by decide)]
      refine ⟨_, SqT.of ht, _, atI_nat (j := 0) rfl, la, ra, l1, r1, rfl, hla, s11 _ _ hra, hLa, hRa.same s11, e1.trans e3.symm, by omega, fun H12 s12 => ⟨true, rfl, ?_⟩⟩
      rw [if_neg (by decide)]
      refine ⟨_, SqT.of (s12 _ _ ht), _, atI_nat (j := 1) rfl, lb, rb, l2, r2, rfl, s12 _ _ hlb, (s11.trans s12) _ _ hrb, hLb.same s12, hRb.same (s11.trans s12), e2.trans e4.symm, by omega, fun H13 s13 => ⟨true, rfl, ?_⟩⟩
      rw [if_neg (by decide)]
      have S13 := S11.trans (s12.trans s13)
      have s913 := s10.trans (s11.trans (s12.trans s13))
      walk_at "nx"
      refine ⟨_, SqL.of (s913 _ _ hh9), _, SqL.of (S13 _ _ hkB), .inr ⟨rfl, fun v hv => by obtain ⟨r, _, rfl⟩ := List.mem_map.mp (show v ∈ ps.map fun r => V.ref r.1 from hv); exact ⟨r.1, rfl⟩, ?_⟩⟩
      refine ⟨q, p, ls, rs, rfl, S13 _ _ hqB, S13 _ _ hpB, hLB.same S13, hRB.same S13, he, by omega, fun H14 s14 => ⟨true, rfl, ?_⟩⟩
      rw [if_neg (by decide)]
      have S14 := S13.trans s14
      have hx14 := (s8.trans (n9.trans (s913.trans s14))) _ _ hx7
      clear e3 e4 e1 e2 hl1 hl2 hra hrb hRa hRb ht2 ht hla hlb hLa hLb fa fb hh9 hph
      walk_at "nx"
      refine ⟨a, ns, 50, rfl, S14.seq hSB, hl, fun H15 s15 => ?_⟩
      generalize cellV ns 50 = c50
      have S15 := S14.trans s15
      refine ⟨pk, p, ps, rs, c50, rfl, S15 _ _ hkB, hPB.same S15, hps, hps8, S15 _ _ hpB, hRB.same S15, hOk, fun r hr => ⟨(hg r hr).n.1, (hg r hr).n.2⟩, by omega, hPk, fun t t2 at0 n v H16 s16 ht16 ht2 hal hbd hnn hnb => ?_⟩
      refine ⟨t, rfl, _, SqT.of ht16, rfl, _, _, rfl, _, _, rfl, rfl, ?_⟩
      have S16 := S15.trans s16
      have hk16 := S16 _ _ hkB
      walk_at "nx"
      have ec1 : cutV (refsP ps) Option.none (some (at0 : Int)) = refsP (ps.take at0) := by
        rw [cut_none]
        unfold refsP; rw [List.map_take]
      have ec2 : cutV (refsP ps) (some ((at0 : Int) + 1)) Option.none = refsP (ps.drop (at0 + 1)) := by
        rw [show ((at0 : Int) + 1) = ((at0 + 1 : Nat) : Int) by simp, cut_from]
        unfold refsP; rw [List.map_drop]
      refine ⟨_, SqL.of hk16, fun q1 hq1 => ⟨by rw [sizeLine_eq]; decide, ?_⟩⟩
      rw [ec1]
      have n17 := Same.new (o := .lst (refsP (ps.take at0))) hq1
      have h17 : (upd H16 q1 (.lst (refsP (ps.take at0)))) q1 = some (.lst (refsP (ps.take at0))) := upd_same
      generalize upd H16 q1 (.lst (refsP (ps.take at0))) = H17 at n17 h17
      intro q2 hq2
      have n18 := Same.new (o := .lst [V.ref t2]) hq2
      have h18 : (upd H17 q2 (.lst [V.ref t2])) q2 = some (.lst [V.ref t2]) := upd_same
      generalize upd H17 q2 (.lst [V.ref t2]) = H18 at n18 h18
      refine ⟨_, n18 _ _ h17, _, h18, by rw [refsP_len, List.length_take, sizeLine_eq]; show min at0 ps.length + 1 ≤ _; omega, fun q3 hq3 => ?_⟩
      have n19 := Same.new (o := .lst (refsP (ps.take at0) ++ [V.ref t2])) hq3
      have h19 : (upd H18 q3 (.lst (refsP (ps.take at0) ++ [V.ref t2]))) q3 = some (.lst (refsP (ps.take at0) ++ [V.ref t2])) := upd_same
      generalize upd H18 q3 (.lst (refsP (ps.take at0) ++ [V.ref t2])) = H19 at n19 h19
      have s19 := n17.trans (n18.trans n19)
      refine ⟨_, SqL.of (s19 _ _ hk16), fun q4 hq4 => ?_⟩
      rw [ec2]
      have n20 := Same.new (o := .lst (refsP (ps.drop (at0 + 1)))) hq4
      have h20 : (upd H19 q4 (.lst (refsP (ps.drop (at0 + 1))))) q4 = some (.lst (refsP (ps.drop (at0 + 1)))) := upd_same
      generalize upd H19 q4 (.lst (refsP (ps.drop (at0 + 1)))) = H20 at n20 h20
      refine ⟨_, n20 _ _ h19, _, h20, by rw [List.length_append, refsP_len, refsP_len, List.length_take, List.length_drop, sizeLine_eq]; show min at0 ps.length + 1 + _ ≤ _; omega, fun pb hpb => ?_⟩
      have eb : refsP (ps.take at0) ++ [V.ref t2] ++ refsP (ps.drop (at0 + 1)) = refsP (ps.take at0 ++ (t2, n, v) :: ps.drop (at0 + 1)) := by
        unfold refsP
        rw [List.map_append, List.map_cons, List.append_assoc]; rfl
      rw [eb]
      have n21 := Same.new (o := .lst (refsP (ps.take at0 ++ (t2, n, v) :: ps.drop (at0 + 1)))) hpb
      have h21 : (upd H20 pb (.lst (refsP (ps.take at0 ++ (t2, n, v) :: ps.drop (at0 + 1))))) pb = some (.lst (refsP (ps.take at0 ++ (t2, n, v) :: ps.drop (at0 + 1)))) := upd_same
      generalize upd H20 pb (.lst (refsP (ps.take at0 ++ (t2, n, v) :: ps.drop (at0 + 1)))) = H21 at n21 h21
      have s21 := s19.trans (n20.trans n21)
      have S21 := S16.trans s21
      have hPb : PkAt H21 (ps.take at0 ++ (t2, n, v) :: ps.drop (at0 + 1)) := fun r hr => by
        rcases List.mem_append.mp hr with hr | hr
        · exact hPB.same S21 r (List.mem_of_mem_take hr)
        · rcases List.mem_cons.mp hr with rfl | hr
          · exact s21 _ _ ht2
          · exact hPB.same S21 r (List.mem_of_mem_drop hr)
      have hbl : (ps.take at0 ++ (t2, n, v) :: ps.drop (at0 + 1)).length ≤ 10 := by
        rw [List.length_append, List.length_take, List.length_cons, List.length_drop]; omega
      have htl : (ps.take at0).length = at0 := by rw [List.length_take]; omega
      have hbm : (ps.take at0 ++ (t2, n, v) :: ps.drop (at0 + 1)).map (·.2) = (ps.map (·.2)).take at0 ++ (n, v) :: (ps.drop (at0 + 1)).map (·.2) := by
        rw [List.map_append, List.map_cons, List.map_take]
      have hbt : ((ps.take at0 ++ (t2, n, v) :: ps.drop (at0 + 1)).map (·.2)).take at0 = (ps.map (·.2)).take at0 := by
        rw [hbm, List.take_left' (by rw [List.length_take, List.length_map]; omega)]
      have hbg : ((ps.take at0 ++ (t2, n, v) :: ps.drop (at0 + 1)).map (·.2))[at0]? = some (n, v) := by
        rw [hbm, List.getElem?_append_right (by rw [List.length_take, List.length_map]; omega), List.length_take, List.length_map, show at0 - min at0 ps.length = 0 by omega]
        rfl
      generalize ps.take at0 ++ (t2, n, v) :: ps.drop (at0 + 1) = bs at h21 hPb hbl hbm hbt hbg
      have hKb : PkOk (flatD z (rs.map (·.2))) ((ps.map (·.2)).take at0) := by
        refine flat_pk ⟨?_, fun kz hkz => hPk.h kz (List.mem_of_mem_take hkz)⟩
        have := hPk.u
        rw [← List.take_append_drop at0 (ps.map (·.2)), List.map_append] at this
        exact (List.nodup_append.mp this).1
      walk_at "nx"
      refine ⟨⟨_, SqL.of h21⟩, pr_comp2 h21 hPb (by omega) fun pc H22 hpc s22 hc22 => ?_⟩
      walk_at "rdi"
      refine ⟨_, SqL.of hc22, ?_⟩
      generalize (bs.map (·.2.2)).sum = wb
      have S22 := S21.trans s22
      refine ⟨x, C, dx, q, z, ls, wb, pb, bs, at0, (n, v), rfl, ((s15.trans s16).trans (s21.trans s22)) _ _ hx14, hC, S22 _ _ hqB, hLB.same S22, he ▸ hO, s22 _ _ h21, hPb.same s22, by rw [hbt, he]; exact hKb, hbg, ?_, by rw [hbt]; exact hnn, by rw [he]; exact flat_bad hbd, fun pt H23 s23 hptn hpt23 => ?_⟩
      · have : n.natAbs < 2 ^ 30 := by omega
        exact Nat.lt_of_lt_of_le this (Nat.pow_le_pow_right (by decide) (by decide))
      refine ⟨_, SqT.of ((s21.trans (s22.trans s23)) _ _ ht2), _, atI_nat (j := 0) rfl, by rw [sizeLine_eq]; decide, fun p1 hp1 => ?_⟩
      have n24 := Same.new (o := .lst [V.int n, V.bl true]) hp1
      have h24 : (upd H23 p1 (.lst [V.int n, V.bl true])) p1 = some (.lst [V.int n, V.bl true]) := upd_same
      generalize upd H23 p1 (.lst [V.int n, V.bl true]) = H24 at n24 h24
      have S24 := S22.trans (s23.trans n24)
      refine ⟨.lst [.int n, .bl true], .lst [.int n, .bl true], .lst (SqL.of (n24 _ _ hpt23)) (.cons (.int _) (.cons (.bl _) .nil)), .lst (SqL.of h24) (.cons (.int _) (.cons (.bl _) .nil)), by show 1 ≤ 1; decide, by show 1 ≤ 20; decide, ?_⟩
      rw [deqD_refl]
      refine ⟨_, rfl, ?_⟩
      rw [if_neg (by decide)]
      refine ⟨q, p, ls, rs, rfl, S24 _ _ hqB, S24 _ _ hpB, hLB.same S24, hRB.same S24, he, by omega, fun H25 s25 => ⟨true, rfl, ?_⟩⟩
      rw [if_neg (by decide)]
      exact S24.trans s25
    · rintro σ H6 ⟨⟨v5, v6, v7, v8, v9, v10, v11, v12, v13, v14, v15, rfl⟩, s6⟩
      try dsimp only
      walk_at "rdi"
      exact k _
end
end My
namespace My
open PySem L2 PyProof.Rows
theorem all_mk {l : PySem.W.OpenLaw} {w : World} {K : PySem.W.Frag} {h : Heap} {mg : Str → Option Value} {fa : Addr} (X : K.In h) (G : h.Ns mainGlobals mg) (hfa : mg "law" = some (.ref fa))
    {c0 : Addr}
    (u_Lot : PySem.W.nsIn K mainGlobals "Lot" = some (some (.ref c0)))
    {c1 : Addr}
    (u_Eldest : PySem.W.nsIn K mainGlobals "Eldest" = some (some (.ref c1)))
    {c2 : Addr}
    (u_Newest : PySem.W.nsIn K mainGlobals "Newest" = some (some (.ref c2)))
    {c3 : Addr}
    (u_Dearest : PySem.W.nsIn K mainGlobals "Dearest" = some (some (.ref c3)))
    {c4 : Addr}
    (u_Mean : PySem.W.nsIn K mainGlobals "Mean" = some (some (.ref c4)))
    {c5 : Addr}
    (u_Way : PySem.W.nsIn K mainGlobals "Way" = some (some (.ref c5)))
    {c6 : Addr}
    (u_LotError : PySem.W.nsIn K mainGlobals "LotError" = some (some (.ref c6)))
    {c7 : Addr}
    (u_NoLot : PySem.W.nsIn K mainGlobals "NoLot" = some (some (.ref c7)))
    {f0 : Addr} {od0 an0 : Option Addr} {sl0 : Array (Option Value)} {oc0 kV0 dc0 pm0 cd0 ct0 : Value}
    (a0 : PySem.W.nsIn K mainGlobals "_law_cell" = some (some (.ref f0)))
    (l0 : K.lookup f0 = some ⟨oc0, od0, .func (PySem.W.fnOf "_law_cell" "_law_cell" (defArgs s__law_cell) (defBody s__law_cell) (defScope s__law_cell) .none kV0 dc0 pm0 an0 cd0 ct0), sl0⟩)
    (d0 : PySem.W.codeIn K cd0 "_law_cell" = true)
    (k0 : PySem.W.keepIn K (.ref f0) = true)
    {f1 : Addr} {od1 an1 : Option Addr} {sl1 : Array (Option Value)} {oc1 kV1 dc1 pm1 cd1 ct1 : Value}
    (a1 : PySem.W.nsIn K mainGlobals "_law_row" = some (some (.ref f1)))
    (l1 : K.lookup f1 = some ⟨oc1, od1, .func (PySem.W.fnOf "_law_row" "_law_row" (defArgs s__law_row) (defBody s__law_row) (defScope s__law_row) .none kV1 dc1 pm1 an1 cd1 ct1), sl1⟩)
    (d1 : PySem.W.codeIn K cd1 "_law_row" = true)
    (k1 : PySem.W.keepIn K (.ref f1) = true)
    {f2 : Addr} {od2 an2 : Option Addr} {sl2 : Array (Option Value)} {oc2 kV2 dc2 pm2 cd2 ct2 : Value}
    (a2 : PySem.W.findIn K (.ref c0) "__init__" = some (some (.ref f2)))
    (l2 : K.lookup f2 = some ⟨oc2, od2, .func (PySem.W.fnOf "__init__" "Lot.__init__" (defArgs s_Lot___init__) (defBody s_Lot___init__) (defScope s_Lot___init__) .none kV2 dc2 pm2 an2 cd2 ct2), sl2⟩)
    (d2 : PySem.W.codeIn K cd2 "Lot.__init__" = true)
    (k2 : PySem.W.keepIn K (.ref f2) = true)
    {f3 : Addr} {od3 an3 : Option Addr} {sl3 : Array (Option Value)} {oc3 kV3 dc3 pm3 cd3 ct3 : Value}
    (a3 : PySem.W.nsIn K mainGlobals "_law_lots" = some (some (.ref f3)))
    (l3 : K.lookup f3 = some ⟨oc3, od3, .func (PySem.W.fnOf "_law_lots" "_law_lots" (defArgs s__law_lots) (defBody s__law_lots) (defScope s__law_lots) .none kV3 dc3 pm3 an3 cd3 ct3), sl3⟩)
    (d3 : PySem.W.codeIn K cd3 "_law_lots" = true)
    (k3 : PySem.W.keepIn K (.ref f3) = true)
    {f4 : Addr} {od4 an4 : Option Addr} {sl4 : Array (Option Value)} {oc4 kV4 dc4 pm4 cd4 ct4 : Value}
    (a4 : PySem.W.nsIn K mainGlobals "_law_picks" = some (some (.ref f4)))
    (l4 : K.lookup f4 = some ⟨oc4, od4, .func (PySem.W.fnOf "_law_picks" "_law_picks" (defArgs s__law_picks) (defBody s__law_picks) (defScope s__law_picks) .none kV4 dc4 pm4 an4 cd4 ct4), sl4⟩)
    (d4 : PySem.W.codeIn K cd4 "_law_picks" = true)
    (k4 : PySem.W.keepIn K (.ref f4) = true)
    {f5 : Addr} {od5 an5 : Option Addr} {sl5 : Array (Option Value)} {oc5 kV5 dc5 pm5 cd5 ct5 : Value}
    (a5 : PySem.W.findIn K (.ref c0) "told" = some (some (.ref f5)))
    (l5 : K.lookup f5 = some ⟨oc5, od5, .func (PySem.W.fnOf "told" "Lot.told" (defArgs s_Lot_told) (defBody s_Lot_told) (defScope s_Lot_told) .none kV5 dc5 pm5 an5 cd5 ct5), sl5⟩)
    (d5 : PySem.W.codeIn K cd5 "Lot.told" = true)
    (k5 : PySem.W.keepIn K (.ref f5) = true)
    {f6 : Addr} {od6 an6 : Option Addr} {sl6 : Array (Option Value)} {oc6 kV6 dc6 pm6 cd6 ct6 : Value}
    (a6 : PySem.W.nsIn K mainGlobals "_law_whole" = some (some (.ref f6)))
    (l6 : K.lookup f6 = some ⟨oc6, od6, .func (PySem.W.fnOf "_law_whole" "_law_whole" (defArgs s__law_whole) (defBody s__law_whole) (defScope s__law_whole) .none kV6 dc6 pm6 an6 cd6 ct6), sl6⟩)
    (d6 : PySem.W.codeIn K cd6 "_law_whole" = true)
    (k6 : PySem.W.keepIn K (.ref f6) = true)
    {f7 : Addr} {od7 an7 : Option Addr} {sl7 : Array (Option Value)} {oc7 kV7 dc7 pm7 cd7 ct7 : Value}
    (a7 : PySem.W.nsIn K mainGlobals "_law_are" = some (some (.ref f7)))
    (l7 : K.lookup f7 = some ⟨oc7, od7, .func (PySem.W.fnOf "_law_are" "_law_are" (defArgs s__law_are) (defBody s__law_are) (defScope s__law_are) .none kV7 dc7 pm7 an7 cd7 ct7), sl7⟩)
    (d7 : PySem.W.codeIn K cd7 "_law_are" = true)
    (k7 : PySem.W.keepIn K (.ref f7) = true)
    {f8 : Addr} {od8 an8 : Option Addr} {sl8 : Array (Option Value)} {oc8 kV8 dc8 pm8 cd8 ct8 : Value}
    (a8 : PySem.W.findIn K (.ref c1) "word" = some (some (.ref f8)))
    (l8 : K.lookup f8 = some ⟨oc8, od8, .func (PySem.W.fnOf "word" "Eldest.word" (defArgs s_Eldest_word) (defBody s_Eldest_word) (defScope s_Eldest_word) .none kV8 dc8 pm8 an8 cd8 ct8), sl8⟩)
    (d8 : PySem.W.codeIn K cd8 "Eldest.word" = true)
    (k8 : PySem.W.keepIn K (.ref f8) = true)
    {f9 : Addr} {od9 an9 : Option Addr} {sl9 : Array (Option Value)} {oc9 kV9 dc9 pm9 cd9 ct9 : Value}
    (a9 : PySem.W.findIn K (.ref c2) "word" = some (some (.ref f9)))
    (l9 : K.lookup f9 = some ⟨oc9, od9, .func (PySem.W.fnOf "word" "Newest.word" (defArgs s_Newest_word) (defBody s_Newest_word) (defScope s_Newest_word) .none kV9 dc9 pm9 an9 cd9 ct9), sl9⟩)
    (d9 : PySem.W.codeIn K cd9 "Newest.word" = true)
    (k9 : PySem.W.keepIn K (.ref f9) = true)
    {f10 : Addr} {od10 an10 : Option Addr} {sl10 : Array (Option Value)} {oc10 kV10 dc10 pm10 cd10 ct10 : Value}
    (a10 : PySem.W.findIn K (.ref c3) "word" = some (some (.ref f10)))
    (l10 : K.lookup f10 = some ⟨oc10, od10, .func (PySem.W.fnOf "word" "Dearest.word" (defArgs s_Dearest_word) (defBody s_Dearest_word) (defScope s_Dearest_word) .none kV10 dc10 pm10 an10 cd10 ct10), sl10⟩)
    (d10 : PySem.W.codeIn K cd10 "Dearest.word" = true)
    (k10 : PySem.W.keepIn K (.ref f10) = true)
    {f11 : Addr} {od11 an11 : Option Addr} {sl11 : Array (Option Value)} {oc11 kV11 dc11 pm11 cd11 ct11 : Value}
    (a11 : PySem.W.findIn K (.ref c4) "word" = some (some (.ref f11)))
    (l11 : K.lookup f11 = some ⟨oc11, od11, .func (PySem.W.fnOf "word" "Mean.word" (defArgs s_Mean_word) (defBody s_Mean_word) (defScope s_Mean_word) .none kV11 dc11 pm11 an11 cd11 ct11), sl11⟩)
    (d11 : PySem.W.codeIn K cd11 "Mean.word" = true)
    (k11 : PySem.W.keepIn K (.ref f11) = true)
    {f12 : Addr} {od12 an12 : Option Addr} {sl12 : Array (Option Value)} {oc12 kV12 dc12 pm12 cd12 ct12 : Value}
    (a12 : PySem.W.nsIn K mainGlobals "way_by" = some (some (.ref f12)))
    (l12 : K.lookup f12 = some ⟨oc12, od12, .func (PySem.W.fnOf "way_by" "way_by" (defArgs s_way_by) (defBody s_way_by) (defScope s_way_by) .none kV12 dc12 pm12 an12 cd12 ct12), sl12⟩)
    (d12 : PySem.W.codeIn K cd12 "way_by" = true)
    (k12 : PySem.W.keepIn K (.ref f12) = true)
    {f13 : Addr} {od13 an13 : Option Addr} {sl13 : Array (Option Value)} {oc13 kV13 dc13 pm13 cd13 ct13 : Value}
    (a13 : PySem.W.nsIn K mainGlobals "_law_taken" = some (some (.ref f13)))
    (l13 : K.lookup f13 = some ⟨oc13, od13, .func (PySem.W.fnOf "_law_taken" "_law_taken" (defArgs s__law_taken) (defBody s__law_taken) (defScope s__law_taken) .none kV13 dc13 pm13 an13 cd13 ct13), sl13⟩)
    (d13 : PySem.W.codeIn K cd13 "_law_taken" = true)
    (k13 : PySem.W.keepIn K (.ref f13) = true)
    {f14 : Addr} {od14 an14 : Option Addr} {sl14 : Array (Option Value)} {oc14 kV14 dc14 pm14 cd14 ct14 : Value}
    (a14 : PySem.W.findIn K (.ref c5) "levelled" = some (some (.ref f14)))
    (l14 : K.lookup f14 = some ⟨oc14, od14, .func (PySem.W.fnOf "levelled" "Way.levelled" (defArgs s_Way_levelled) (defBody s_Way_levelled) (defScope s_Way_levelled) .none kV14 dc14 pm14 an14 cd14 ct14), sl14⟩)
    (d14 : PySem.W.codeIn K cd14 "Way.levelled" = true)
    (k14 : PySem.W.keepIn K (.ref f14) = true)
    {f15 : Addr} {od15 an15 : Option Addr} {sl15 : Array (Option Value)} {oc15 kV15 dc15 pm15 cd15 ct15 : Value}
    (a15 : PySem.W.nsIn K mainGlobals "sum_of_weights" = some (some (.ref f15)))
    (l15 : K.lookup f15 = some ⟨oc15, od15, .func (PySem.W.fnOf "sum_of_weights" "sum_of_weights" (defArgs s_sum_of_weights) (defBody s_sum_of_weights) (defScope s_sum_of_weights) .none kV15 dc15 pm15 an15 cd15 ct15), sl15⟩)
    (d15 : PySem.W.codeIn K cd15 "sum_of_weights" = true)
    (k15 : PySem.W.keepIn K (.ref f15) = true)
    {f16 : Addr} {od16 an16 : Option Addr} {sl16 : Array (Option Value)} {oc16 kV16 dc16 pm16 cd16 ct16 : Value}
    (a16 : PySem.W.nsIn K mainGlobals "part_of" = some (some (.ref f16)))
    (l16 : K.lookup f16 = some ⟨oc16, od16, .func (PySem.W.fnOf "part_of" "part_of" (defArgs s_part_of) (defBody s_part_of) (defScope s_part_of) .none kV16 dc16 pm16 an16 cd16 ct16), sl16⟩)
    (d16 : PySem.W.codeIn K cd16 "part_of" = true)
    (k16 : PySem.W.keepIn K (.ref f16) = true)
    {f17 : Addr} {od17 an17 : Option Addr} {sl17 : Array (Option Value)} {oc17 kV17 dc17 pm17 cd17 ct17 : Value}
    (a17 : PySem.W.nsIn K mainGlobals "dealt" = some (some (.ref f17)))
    (l17 : K.lookup f17 = some ⟨oc17, od17, .func (PySem.W.fnOf "dealt" "dealt" (defArgs s_dealt) (defBody s_dealt) (defScope s_dealt) .none kV17 dc17 pm17 an17 cd17 ct17), sl17⟩)
    (d17 : PySem.W.codeIn K cd17 "dealt" = true)
    (k17 : PySem.W.keepIn K (.ref f17) = true)
    {f18 : Addr} {od18 an18 : Option Addr} {sl18 : Array (Option Value)} {oc18 kV18 dc18 pm18 cd18 ct18 : Value}
    (a18 : PySem.W.nsIn K mainGlobals "cost_in" = some (some (.ref f18)))
    (l18 : K.lookup f18 = some ⟨oc18, od18, .func (PySem.W.fnOf "cost_in" "cost_in" (defArgs s_cost_in) (defBody s_cost_in) (defScope s_cost_in) .none kV18 dc18 pm18 an18 cd18 ct18), sl18⟩)
    (d18 : PySem.W.codeIn K cd18 "cost_in" = true)
    (k18 : PySem.W.keepIn K (.ref f18) = true)
    {f19 : Addr} {od19 an19 : Option Addr} {sl19 : Array (Option Value)} {oc19 kV19 dc19 pm19 cd19 ct19 : Value}
    (a19 : PySem.W.findIn K (.ref c4) "levelled" = some (some (.ref f19)))
    (l19 : K.lookup f19 = some ⟨oc19, od19, .func (PySem.W.fnOf "levelled" "Mean.levelled" (defArgs s_Mean_levelled) (defBody s_Mean_levelled) (defScope s_Mean_levelled) .none kV19 dc19 pm19 an19 cd19 ct19), sl19⟩)
    (d19 : PySem.W.codeIn K cd19 "Mean.levelled" = true)
    (k19 : PySem.W.keepIn K (.ref f19) = true)
    {f20 : Addr} {od20 an20 : Option Addr} {sl20 : Array (Option Value)} {oc20 kV20 dc20 pm20 cd20 ct20 : Value}
    (a20 : PySem.W.findIn K (.ref c0) "taken" = some (some (.ref f20)))
    (l20 : K.lookup f20 = some ⟨oc20, od20, .func (PySem.W.fnOf "taken" "Lot.taken" (defArgs s_Lot_taken) (defBody s_Lot_taken) (defScope s_Lot_taken) .none kV20 dc20 pm20 an20 cd20 ct20), sl20⟩)
    (d20 : PySem.W.codeIn K cd20 "Lot.taken" = true)
    (k20 : PySem.W.keepIn K (.ref f20) = true)
    {f21 : Addr} {od21 an21 : Option Addr} {sl21 : Array (Option Value)} {oc21 kV21 dc21 pm21 cd21 ct21 : Value}
    (a21 : PySem.W.findIn K (.ref c7) "__init__" = some (some (.ref f21)))
    (l21 : K.lookup f21 = some ⟨oc21, od21, .func (PySem.W.fnOf "__init__" "NoLot.__init__" (defArgs s_NoLot___init__) (defBody s_NoLot___init__) (defScope s_NoLot___init__) .none kV21 dc21 pm21 an21 cd21 ct21), sl21⟩)
    (d21 : PySem.W.codeIn K cd21 "NoLot.__init__" = true)
    (k21 : PySem.W.keepIn K (.ref f21) = true)
    {f22 : Addr} {od22 an22 : Option Addr} {sl22 : Array (Option Value)} {oc22 kV22 dc22 pm22 cd22 ct22 : Value}
    (a22 : PySem.W.nsIn K mainGlobals "row_without" = some (some (.ref f22)))
    (l22 : K.lookup f22 = some ⟨oc22, od22, .func (PySem.W.fnOf "row_without" "row_without" (defArgs s_row_without) (defBody s_row_without) (defScope s_row_without) .none kV22 dc22 pm22 an22 cd22 ct22), sl22⟩)
    (d22 : PySem.W.codeIn K cd22 "row_without" = true)
    (k22 : PySem.W.keepIn K (.ref f22) = true)
    {f23 : Addr} {od23 an23 : Option Addr} {sl23 : Array (Option Value)} {oc23 kV23 dc23 pm23 cd23 ct23 : Value}
    (a23 : PySem.W.nsIn K mainGlobals "picks_in_turn" = some (some (.ref f23)))
    (l23 : K.lookup f23 = some ⟨oc23, od23, .func (PySem.W.fnOf "picks_in_turn" "picks_in_turn" (defArgs s_picks_in_turn) (defBody s_picks_in_turn) (defScope s_picks_in_turn) .none kV23 dc23 pm23 an23 cd23 ct23), sl23⟩)
    (d23 : PySem.W.codeIn K cd23 "picks_in_turn" = true)
    (k23 : PySem.W.keepIn K (.ref f23) = true)
    {f24 : Addr} {od24 an24 : Option Addr} {sl24 : Array (Option Value)} {oc24 kV24 dc24 pm24 cd24 ct24 : Value}
    (a24 : PySem.W.findIn K (.ref c1) "picks" = some (some (.ref f24)))
    (l24 : K.lookup f24 = some ⟨oc24, od24, .func (PySem.W.fnOf "picks" "Eldest.picks" (defArgs s_Eldest_picks) (defBody s_Eldest_picks) (defScope s_Eldest_picks) .none kV24 dc24 pm24 an24 cd24 ct24), sl24⟩)
    (d24 : PySem.W.codeIn K cd24 "Eldest.picks" = true)
    (k24 : PySem.W.keepIn K (.ref f24) = true)
    {f25 : Addr} {od25 an25 : Option Addr} {sl25 : Array (Option Value)} {oc25 kV25 dc25 pm25 cd25 ct25 : Value}
    (a25 : PySem.W.findIn K (.ref c2) "picks" = some (some (.ref f25)))
    (l25 : K.lookup f25 = some ⟨oc25, od25, .func (PySem.W.fnOf "picks" "Newest.picks" (defArgs s_Newest_picks) (defBody s_Newest_picks) (defScope s_Newest_picks) .none kV25 dc25 pm25 an25 cd25 ct25), sl25⟩)
    (d25 : PySem.W.codeIn K cd25 "Newest.picks" = true)
    (k25 : PySem.W.keepIn K (.ref f25) = true)
    {f26 : Addr} {od26 an26 : Option Addr} {sl26 : Array (Option Value)} {oc26 kV26 dc26 pm26 cd26 ct26 : Value}
    (a26 : PySem.W.findIn K (.ref c0) "is_dearer" = some (some (.ref f26)))
    (l26 : K.lookup f26 = some ⟨oc26, od26, .func (PySem.W.fnOf "is_dearer" "Lot.is_dearer" (defArgs s_Lot_is_dearer) (defBody s_Lot_is_dearer) (defScope s_Lot_is_dearer) .none kV26 dc26 pm26 an26 cd26 ct26), sl26⟩)
    (d26 : PySem.W.codeIn K cd26 "Lot.is_dearer" = true)
    (k26 : PySem.W.keepIn K (.ref f26) = true)
    {f27 : Addr} {od27 an27 : Option Addr} {sl27 : Array (Option Value)} {oc27 kV27 dc27 pm27 cd27 ct27 : Value}
    (a27 : PySem.W.nsIn K mainGlobals "dearest_first" = some (some (.ref f27)))
    (l27 : K.lookup f27 = some ⟨oc27, od27, .func (PySem.W.fnOf "dearest_first" "dearest_first" (defArgs s_dearest_first) (defBody s_dearest_first) (defScope s_dearest_first) .none kV27 dc27 pm27 an27 cd27 ct27), sl27⟩)
    (d27 : PySem.W.codeIn K cd27 "dearest_first" = true)
    (k27 : PySem.W.keepIn K (.ref f27) = true)
    {f28 : Addr} {od28 an28 : Option Addr} {sl28 : Array (Option Value)} {oc28 kV28 dc28 pm28 cd28 ct28 : Value}
    (a28 : PySem.W.findIn K (.ref c3) "picks" = some (some (.ref f28)))
    (l28 : K.lookup f28 = some ⟨oc28, od28, .func (PySem.W.fnOf "picks" "Dearest.picks" (defArgs s_Dearest_picks) (defBody s_Dearest_picks) (defScope s_Dearest_picks) .none kV28 dc28 pm28 an28 cd28 ct28), sl28⟩)
    (d28 : PySem.W.codeIn K cd28 "Dearest.picks" = true)
    (k28 : PySem.W.keepIn K (.ref f28) = true)
    {f29 : Addr} {od29 an29 : Option Addr} {sl29 : Array (Option Value)} {oc29 kV29 dc29 pm29 cd29 ct29 : Value}
    (a29 : PySem.W.nsIn K mainGlobals "gone_from" = some (some (.ref f29)))
    (l29 : K.lookup f29 = some ⟨oc29, od29, .func (PySem.W.fnOf "gone_from" "gone_from" (defArgs s_gone_from) (defBody s_gone_from) (defScope s_gone_from) .none kV29 dc29 pm29 an29 cd29 ct29), sl29⟩)
    (d29 : PySem.W.codeIn K cd29 "gone_from" = true)
    (k29 : PySem.W.keepIn K (.ref f29) = true)
    {f30 : Addr} {od30 an30 : Option Addr} {sl30 : Array (Option Value)} {oc30 kV30 dc30 pm30 cd30 ct30 : Value}
    (a30 : PySem.W.nsIn K mainGlobals "_law_wrong" = some (some (.ref f30)))
    (l30 : K.lookup f30 = some ⟨oc30, od30, .func (PySem.W.fnOf "_law_wrong" "_law_wrong" (defArgs s__law_wrong) (defBody s__law_wrong) (defScope s__law_wrong) .none kV30 dc30 pm30 an30 cd30 ct30), sl30⟩)
    (d30 : PySem.W.codeIn K cd30 "_law_wrong" = true)
    (k30 : PySem.W.keepIn K (.ref f30) = true)
    {f31 : Addr} {od31 an31 : Option Addr} {sl31 : Array (Option Value)} {oc31 kV31 dc31 pm31 cd31 ct31 : Value}
    (a31 : PySem.W.nsIn K mainGlobals "_law_even" = some (some (.ref f31)))
    (l31 : K.lookup f31 = some ⟨oc31, od31, .func (PySem.W.fnOf "_law_even" "_law_even" (defArgs s__law_even) (defBody s__law_even) (defScope s__law_even) .none kV31 dc31 pm31 an31 cd31 ct31), sl31⟩)
    (d31 : PySem.W.codeIn K cd31 "_law_even" = true)
    (k31 : PySem.W.keepIn K (.ref f31) = true)
    {f32 : Addr} {od32 an32 : Option Addr} {sl32 : Array (Option Value)} {oc32 kV32 dc32 pm32 cd32 ct32 : Value}
    (a32 : PySem.W.nsIn K mainGlobals "_law_no_lot" = some (some (.ref f32)))
    (l32 : K.lookup f32 = some ⟨oc32, od32, .func (PySem.W.fnOf "_law_no_lot" "_law_no_lot" (defArgs s__law_no_lot) (defBody s__law_no_lot) (defScope s__law_no_lot) .none kV32 dc32 pm32 an32 cd32 ct32), sl32⟩)
    (d32 : PySem.W.codeIn K cd32 "_law_no_lot" = true)
    (k32 : PySem.W.keepIn K (.ref f32) = true)
    {f33 : Addr} {od33 an33 : Option Addr} {sl33 : Array (Option Value)} {oc33 kV33 dc33 pm33 cd33 ct33 : Value}
    (a33 : PySem.W.nsIn K mainGlobals "law" = some (some (.ref f33)))
    (l33 : K.lookup f33 = some ⟨oc33, od33, .func (PySem.W.fnOf "law" "law" (defArgs s_law) (defBody s_law) (defScope s_law) .none kV33 dc33 pm33 an33 cd33 ct33), sl33⟩)
    (d33 : PySem.W.codeIn K cd33 "law" = true)
    (k33 : PySem.W.keepIn K (.ref f33) = true)
    (z_len : PySem.W.nsIn K mainGlobals "len" = some none)
    (z_range : PySem.W.nsIn K mainGlobals "range" = some none)
    (z_sorted : PySem.W.nsIn K mainGlobals "sorted" = some none)
    (z_int : PySem.W.nsIn K mainGlobals "int" = some none)
    (z_list : PySem.W.nsIn K mainGlobals "list" = some none)
    (z_isinstance : PySem.W.nsIn K mainGlobals "isinstance" = some none)
    (z_bool : PySem.W.nsIn K mainGlobals "bool" = some none)
    (z_zip : PySem.W.nsIn K mainGlobals "zip" = some none)
    (z_tuple : PySem.W.nsIn K mainGlobals "tuple" = some none)
    (z_all : PySem.W.nsIn K mainGlobals "all" = some none)
    (z_any : PySem.W.nsIn K mainGlobals "any" = some none)
    (z_sum : PySem.W.nsIn K mainGlobals "sum" = some none)
    (z_dict : PySem.W.nsIn K mainGlobals "dict" = some none)
    (z_min : PySem.W.nsIn K mainGlobals "min" = some none)
    (z_reversed : PySem.W.nsIn K mainGlobals "reversed" = some none)
    (z_enumerate : PySem.W.nsIn K mainGlobals "enumerate" = some none)
    (x_LotError : PySem.W.excIn K c6 [.type "ValueError", .type "Exception", .type "BaseException", .type "object"] "ValueError.__new__" = true)
    (ya_LotError : PySem.W.findIn K (.ref c6) "__class__" = some (some (.builtin "object.__class__")))
    (yb_LotError : PySem.W.findIn K (.ref c6) "__getattribute__" = some (some (.builtin "BaseException.__getattribute__")))
    (yc_LotError : PySem.W.findIn K (.ref c6) "__getattr__" = some none)
    {nm_NoLot qn_NoLot : Str} {N_NoLot : Addr} {bs_NoLot bm_NoLot : List Value} {sn_NoLot : List Str} {sub_NoLot : List Value} {ab_NoLot : Bool} {col_NoLot : Option Bool} {dd_NoLot : Option Addr} {k0_NoLot k1_NoLot k2_NoLot k3_NoLot k5_NoLot : Option Value}
    (xl_NoLot : K.lookup c7 = some (excClassObj nm_NoLot qn_NoLot c7 N_NoLot bs_NoLot bm_NoLot true sn_NoLot sub_NoLot ab_NoLot col_NoLot dd_NoLot k0_NoLot k1_NoLot k2_NoLot k3_NoLot k5_NoLot "ValueError.__new__"))
    (xt_NoLot : PySem.W.tailIn K [.type "ValueError", .type "Exception", .type "BaseException", .type "object"] bm_NoLot = true)
    (xn_NoLot : PySem.W.findIn K (.ref c7) "__init__" = some (some (.ref f21)))
    (xf_NoLot : PySem.W.isFn K (.ref f21) = true)
    (xs_NoLot : PySem.W.findIn K (.ref c7) "__setattr__" = some (some (.builtin "object.__setattr__")))
    (xk_NoLot : PySem.W.keepIn K (.ref c7) = true)
    (ya_NoLot : PySem.W.findIn K (.ref c7) "__class__" = some (some (.builtin "object.__class__")))
    (yb_NoLot : PySem.W.findIn K (.ref c7) "__getattribute__" = some (some (.builtin "BaseException.__getattribute__")))
    (yc_NoLot : PySem.W.findIn K (.ref c7) "__getattr__" = some none)
    (n_NoLot_number : PySem.W.findIn K (.ref c7) "number" = some none)
    (ia_LotError : PySem.W.specialIn K (.ref c6) "__getattribute__" = some (some (.builtin "type.__getattribute__")))
    (ib_LotError : PySem.W.readsIn K c6 (.type "type") = true)
    (ic_LotError : PySem.W.findCls K (.ref c6) (.type "type") "__init__" = some (.val (.builtin "ValueError.__init__")))
    (oc_n : PySem.W.specialIn K (.builtin "object.__class__") "__get__" = some (some (.builtin "getset_descriptor.__get__")))
    (oc_t : PySem.W.takesIn K (.builtin "object.__class__") = some true)
    (pg_Lot : PySem.W.plainGet K c0 Str.empty = true)
    (hd_Lot : PySem.W.hasDictIn K c0 = true)
    (po_Lot : PySem.W.plainOver K c0 = true)
    (sa_Lot : PySem.W.findIn K (.ref c0) "__setattr__" = some (some (.builtin "object.__setattr__")))
    (ha_Lot : PySem.W.findIn K (.ref c0) "__class__" = some (some (.builtin "object.__class__")))
    (hm_Lot : PySem.W.mroIn K c0 (.type "object") = some true)
    (n_Lot_number : PySem.W.findIn K (.ref c0) "number" = some none)
    (n_Lot_since : PySem.W.findIn K (.ref c0) "since" = some none)
    (n_Lot_pieces : PySem.W.findIn K (.ref c0) "pieces" = some none)
    (n_Lot_cost : PySem.W.findIn K (.ref c0) "cost" = some none)
    (pg_Eldest : PySem.W.plainGet K c1 Str.empty = true)
    (hd_Eldest : PySem.W.hasDictIn K c1 = true)
    (po_Eldest : PySem.W.plainOver K c1 = true)
    (sa_Eldest : PySem.W.findIn K (.ref c1) "__setattr__" = some (some (.builtin "object.__setattr__")))
    (ha_Eldest : PySem.W.findIn K (.ref c1) "__class__" = some (some (.builtin "object.__class__")))
    (hm_Eldest : PySem.W.mroIn K c1 (.type "object") = some true)
    (pg_Newest : PySem.W.plainGet K c2 Str.empty = true)
    (hd_Newest : PySem.W.hasDictIn K c2 = true)
    (po_Newest : PySem.W.plainOver K c2 = true)
    (sa_Newest : PySem.W.findIn K (.ref c2) "__setattr__" = some (some (.builtin "object.__setattr__")))
    (ha_Newest : PySem.W.findIn K (.ref c2) "__class__" = some (some (.builtin "object.__class__")))
    (hm_Newest : PySem.W.mroIn K c2 (.type "object") = some true)
    (pg_Dearest : PySem.W.plainGet K c3 Str.empty = true)
    (hd_Dearest : PySem.W.hasDictIn K c3 = true)
    (po_Dearest : PySem.W.plainOver K c3 = true)
    (sa_Dearest : PySem.W.findIn K (.ref c3) "__setattr__" = some (some (.builtin "object.__setattr__")))
    (ha_Dearest : PySem.W.findIn K (.ref c3) "__class__" = some (some (.builtin "object.__class__")))
    (hm_Dearest : PySem.W.mroIn K c3 (.type "object") = some true)
    (pg_Mean : PySem.W.plainGet K c4 Str.empty = true)
    (hd_Mean : PySem.W.hasDictIn K c4 = true)
    (po_Mean : PySem.W.plainOver K c4 = true)
    (sa_Mean : PySem.W.findIn K (.ref c4) "__setattr__" = some (some (.builtin "object.__setattr__")))
    (ha_Mean : PySem.W.findIn K (.ref c4) "__class__" = some (some (.builtin "object.__class__")))
    (hm_Mean : PySem.W.mroIn K c4 (.type "object") = some true)
    (pg_Way : PySem.W.plainGet K c5 Str.empty = true)
    (hd_Way : PySem.W.hasDictIn K c5 = true)
    (po_Way : PySem.W.plainOver K c5 = true)
    (sa_Way : PySem.W.findIn K (.ref c5) "__setattr__" = some (some (.builtin "object.__setattr__")))
    (ha_Way : PySem.W.findIn K (.ref c5) "__class__" = some (some (.builtin "object.__class__")))
    (hm_Way : PySem.W.mroIn K c5 (.type "object") = some true)
    (mka_Lot : PySem.W.makesIn K c0 = true)
    (mkb_Lot : PySem.W.findIn K (.ref c0) "__init__" = some (some (.ref f2)))
    (mkc_Lot : PySem.W.isFn K (.ref f2) = true)
    (mkd_Lot : PySem.W.keepIn K (.ref c0) = true)
    (m0a_Eldest : PySem.W.makesIn K c1 = true)
    (m0b_Eldest : PySem.W.findIn K (.ref c1) "__init__" = some (some (.builtin "object.__init__")))
    (m0c_Eldest : PySem.W.keepIn K (.ref c1) = true)
    (m0a_Newest : PySem.W.makesIn K c2 = true)
    (m0b_Newest : PySem.W.findIn K (.ref c2) "__init__" = some (some (.builtin "object.__init__")))
    (m0c_Newest : PySem.W.keepIn K (.ref c2) = true)
    (m0a_Dearest : PySem.W.makesIn K c3 = true)
    (m0b_Dearest : PySem.W.findIn K (.ref c3) "__init__" = some (some (.builtin "object.__init__")))
    (m0c_Dearest : PySem.W.keepIn K (.ref c3) = true)
    (m0a_Mean : PySem.W.makesIn K c4 = true)
    (m0b_Mean : PySem.W.findIn K (.ref c4) "__init__" = some (some (.builtin "object.__init__")))
    (m0c_Mean : PySem.W.keepIn K (.ref c4) = true)
    (mea_Lot_told : PySem.W.findIn K (.ref c0) "told" = some (some (.ref f5)))
    (meb_Lot_told : PySem.W.isFn K (.ref f5) = true)
    (mea_Eldest_word : PySem.W.findIn K (.ref c1) "word" = some (some (.ref f8)))
    (meb_Eldest_word : PySem.W.isFn K (.ref f8) = true)
    (mea_Newest_word : PySem.W.findIn K (.ref c2) "word" = some (some (.ref f9)))
    (meb_Newest_word : PySem.W.isFn K (.ref f9) = true)
    (mea_Dearest_word : PySem.W.findIn K (.ref c3) "word" = some (some (.ref f10)))
    (meb_Dearest_word : PySem.W.isFn K (.ref f10) = true)
    (mea_Mean_word : PySem.W.findIn K (.ref c4) "word" = some (some (.ref f11)))
    (meb_Mean_word : PySem.W.isFn K (.ref f11) = true)
    (mea_Lot_taken : PySem.W.findIn K (.ref c0) "taken" = some (some (.ref f20)))
    (meb_Lot_taken : PySem.W.isFn K (.ref f20) = true)
    (mea_Lot_is_dearer : PySem.W.findIn K (.ref c0) "is_dearer" = some (some (.ref f26)))
    (meb_Lot_is_dearer : PySem.W.isFn K (.ref f26) = true)
    (mea_Eldest_levelled : PySem.W.findIn K (.ref c1) "levelled" = some (some (.ref f14)))
    (meb_Eldest_levelled : PySem.W.isFn K (.ref f14) = true)
    (mea_Newest_levelled : PySem.W.findIn K (.ref c2) "levelled" = some (some (.ref f14)))
    (meb_Newest_levelled : PySem.W.isFn K (.ref f14) = true)
    (mea_Dearest_levelled : PySem.W.findIn K (.ref c3) "levelled" = some (some (.ref f14)))
    (meb_Dearest_levelled : PySem.W.isFn K (.ref f14) = true)
    (mea_Mean_levelled : PySem.W.findIn K (.ref c4) "levelled" = some (some (.ref f19)))
    (meb_Mean_levelled : PySem.W.isFn K (.ref f19) = true)
    (mea_Eldest_picks : PySem.W.findIn K (.ref c1) "picks" = some (some (.ref f24)))
    (meb_Eldest_picks : PySem.W.isFn K (.ref f24) = true)
    (mea_Newest_picks : PySem.W.findIn K (.ref c2) "picks" = some (some (.ref f25)))
    (meb_Newest_picks : PySem.W.isFn K (.ref f25) = true)
    (mea_Dearest_picks : PySem.W.findIn K (.ref c3) "picks" = some (some (.ref f28)))
    (meb_Dearest_picks : PySem.W.isFn K (.ref f28) = true)
    (mea_Mean_picks : PySem.W.findIn K (.ref c4) "picks" = some (some (.ref f24)))
    (meb_Mean_picks : PySem.W.isFn K (.ref f24) = true)
    (w_kx1 : PySem.W.kitOne K (.ref c7) (.ref c6) = some true)
    (w_ki_Lot : PySem.W.kitOne K (.ref c0) (.ref c0) = some true)
    : ∃ fd : FuncData, (∀ (s : Shared) (v : Value), BindsTo s fd ⟨[v], []⟩ [("_law_script", v)]) ∧ ∀ base : Heap, K.In base → base.Ns mainGlobals mg → FnOk l.prog w K mg base CX0 7 fa fd ["_law_script"] (sp_law K) := by
  have e := hfa.symm.trans (PySem.W.mg_of X G a33)
  cases e
  have T : Txt K mg ⟨f0, f1, f2, f3, f4, f5, f6, f7, f8, f9, f10, f11, f12, f13, f14, f15, f16, f17, f18, f19, f20, f21, f22, f23, f24, f25, f26, f27, f28, f29, f30, f31, f32, fa, c0, c1, c2, c3, c4, c5, c6, c7⟩ ⟨_, _, _, _, _, _, _, _, _, _, _, _, _, _, _, _, _, _, _, _, _, _, _, _, _, _, _, _, _, _, _, _, _, _⟩ := ⟨PySem.W.mg_of X G a0, k0, fun_mk (st := s__law_cell) l0 d0 k0, PySem.W.mg_of X G a1, k1, fun_mk (st := s__law_row) l1 d1 k1, fun_mk (st := s_Lot___init__) l2 d2 k2, PySem.W.mg_of X G a3, k3, fun_mk (st := s__law_lots) l3 d3 k3, PySem.W.mg_of X G a4, k4, fun_mk (st := s__law_picks) l4 d4 k4, fun_mk (st := s_Lot_told) l5 d5 k5, PySem.W.mg_of X G a6, k6, fun_mk (st := s__law_whole) l6 d6 k6, PySem.W.mg_of X G a7, k7, fun_mk (st := s__law_are) l7 d7 k7, fun_mk (st := s_Eldest_word) l8 d8 k8, fun_mk (st := s_Newest_word) l9 d9 k9, fun_mk (st := s_Dearest_word) l10 d10 k10, fun_mk (st := s_Mean_word) l11 d11 k11, PySem.W.mg_of X G a12, k12, fun_mk (st := s_way_by) l12 d12 k12, PySem.W.mg_of X G a13, k13, fun_mk (st := s__law_taken) l13 d13 k13, fun_mk (st := s_Way_levelled) l14 d14 k14, PySem.W.mg_of X G a15, k15, fun_mk (st := s_sum_of_weights) l15 d15 k15, PySem.W.mg_of X G a16, k16, fun_mk (st := s_part_of) l16 d16 k16, PySem.W.mg_of X G a17, k17, fun_mk (st := s_dealt) l17 d17 k17, PySem.W.mg_of X G a18, k18, fun_mk (st := s_cost_in) l18 d18 k18, fun_mk (st := s_Mean_levelled) l19 d19 k19, fun_mk (st := s_Lot_taken) l20 d20 k20, fun_mk (st := s_NoLot___init__) l21 d21 k21, PySem.W.mg_of X G a22, k22, fun_mk (st := s_row_without) l22 d22 k22, PySem.W.mg_of X G a23, k23, fun_mk (st := s_picks_in_turn) l23 d23 k23, fun_mk (st := s_Eldest_picks) l24 d24 k24, fun_mk (st := s_Newest_picks) l25 d25 k25, fun_mk (st := s_Lot_is_dearer) l26 d26 k26, PySem.W.mg_of X G a27, k27, fun_mk (st := s_dearest_first) l27 d27 k27, fun_mk (st := s_Dearest_picks) l28 d28 k28, PySem.W.mg_of X G a29, k29, fun_mk (st := s_gone_from) l29 d29 k29, PySem.W.mg_of X G a30, k30, fun_mk (st := s__law_wrong) l30 d30 k30, PySem.W.mg_of X G a31, k31, fun_mk (st := s__law_even) l31 d31 k31, PySem.W.mg_of X G a32, k32, fun_mk (st := s__law_no_lot) l32 d32 k32, PySem.W.mg_of X G a33, k33, fun_mk (st := s_law) l33 d33 k33, PySem.W.mg_none_of X G z_len, PySem.W.mg_none_of X G z_range, PySem.W.mg_none_of X G z_sorted, PySem.W.mg_none_of X G z_int, PySem.W.mg_none_of X G z_list, PySem.W.mg_none_of X G z_isinstance, PySem.W.mg_none_of X G z_bool, PySem.W.mg_none_of X G z_zip, PySem.W.mg_none_of X G z_tuple, PySem.W.mg_none_of X G z_all, PySem.W.mg_none_of X G z_any, PySem.W.mg_none_of X G z_sum, PySem.W.mg_none_of X G z_dict, PySem.W.mg_none_of X G z_min, PySem.W.mg_none_of X G z_reversed, PySem.W.mg_none_of X G z_enumerate, PySem.W.mg_of X G u_Lot, PySem.W.mg_of X G u_Eldest, PySem.W.mg_of X G u_Newest, PySem.W.mg_of X G u_Dearest, PySem.W.mg_of X G u_Mean, PySem.W.mg_of X G u_Way, PySem.W.mg_of X G u_LotError, PySem.W.mg_of X G u_NoLot, ⟨x_LotError⟩, ⟨ya_LotError, yb_LotError, yc_LotError⟩, ⟨⟨_, _, _, _, _, _, _, _, _, _, _, _, _, _, _, xl_NoLot, xt_NoLot⟩, xn_NoLot, xf_NoLot, xs_NoLot, xk_NoLot⟩, ⟨ya_NoLot, yb_NoLot, yc_NoLot⟩, n_NoLot_number, ⟨ia_LotError, ib_LotError, ic_LotError⟩, ⟨pg_Lot, hd_Lot, po_Lot, sa_Lot⟩, ⟨⟨pg_Lot, hd_Lot, po_Lot, sa_Lot⟩, ha_Lot, oc_n, oc_t, hm_Lot⟩, n_Lot_number, n_Lot_since, n_Lot_pieces, n_Lot_cost, ⟨pg_Eldest, hd_Eldest, po_Eldest, sa_Eldest⟩, ⟨⟨pg_Eldest, hd_Eldest, po_Eldest, sa_Eldest⟩, ha_Eldest, oc_n, oc_t, hm_Eldest⟩, ⟨pg_Newest, hd_Newest, po_Newest, sa_Newest⟩, ⟨⟨pg_Newest, hd_Newest, po_Newest, sa_Newest⟩, ha_Newest, oc_n, oc_t, hm_Newest⟩, ⟨pg_Dearest, hd_Dearest, po_Dearest, sa_Dearest⟩, ⟨⟨pg_Dearest, hd_Dearest, po_Dearest, sa_Dearest⟩, ha_Dearest, oc_n, oc_t, hm_Dearest⟩, ⟨pg_Mean, hd_Mean, po_Mean, sa_Mean⟩, ⟨⟨pg_Mean, hd_Mean, po_Mean, sa_Mean⟩, ha_Mean, oc_n, oc_t, hm_Mean⟩, ⟨pg_Way, hd_Way, po_Way, sa_Way⟩, ⟨⟨pg_Way, hd_Way, po_Way, sa_Way⟩, ha_Way, oc_n, oc_t, hm_Way⟩, ⟨mka_Lot, mkb_Lot, mkc_Lot, mkd_Lot⟩, ⟨m0a_Eldest, m0b_Eldest, m0c_Eldest⟩, ⟨m0a_Newest, m0b_Newest, m0c_Newest⟩, ⟨m0a_Dearest, m0b_Dearest, m0c_Dearest⟩, ⟨m0a_Mean, m0b_Mean, m0c_Mean⟩, ⟨mea_Lot_told, meb_Lot_told, k5⟩, ⟨mea_Eldest_word, meb_Eldest_word, k8⟩, ⟨mea_Newest_word, meb_Newest_word, k9⟩, ⟨mea_Dearest_word, meb_Dearest_word, k10⟩, ⟨mea_Mean_word, meb_Mean_word, k11⟩, ⟨mea_Lot_taken, meb_Lot_taken, k20⟩, ⟨mea_Lot_is_dearer, meb_Lot_is_dearer, k26⟩, ⟨mea_Eldest_levelled, meb_Eldest_levelled, k14⟩, ⟨mea_Newest_levelled, meb_Newest_levelled, k14⟩, ⟨mea_Dearest_levelled, meb_Dearest_levelled, k14⟩, ⟨mea_Mean_levelled, meb_Mean_levelled, k19⟩, ⟨mea_Eldest_picks, meb_Eldest_picks, k24⟩, ⟨mea_Newest_picks, meb_Newest_picks, k25⟩, ⟨mea_Dearest_picks, meb_Dearest_picks, k28⟩, ⟨mea_Mean_picks, meb_Mean_picks, k24⟩, w_kx1, w_ki_Lot⟩
  exact ⟨_, fun s v => .of_eq rfl, fun base _ _ => ok_law T⟩
theorem walk {l : PySem.W.OpenLaw} {q : Program} {loose : List Str} {XP : (Str → Option Value) → Heap → Prop} {YP : World → Heap → Prop} {d : DefRec} {K : Params → PySem.W.Frag} (hn : l.most = some 63) (hdf : d.params.defaults = [])
    (hY : ∀ (w : World) (h : Heap), YP w h → (K w.params).In h)
    (F : ∀ (w : World) (mg : Str → Option Value) (fa : Addr) (h : Heap), (K w.params).In h → h.Ns mainGlobals mg → mg d.name = some (.ref fa) →
      ∃ fd : FuncData, (∀ (s : Shared) (u : Value), BindsTo s fd ⟨[u], []⟩ [("_law_script", u)]) ∧ ∀ base : Heap, (K w.params).In base → base.Ns mainGlobals mg → FnOk l.prog w (K w.params) mg base CX0 7 fa fd ["_law_script"] (sp_law (K w.params))) :
    PySem.W.WalkO q loose XP YP l.row.toRowW d [] (fun f vs => PySem.call f vs) :=
  L2.walk_of (n := 63) (k := 7) (x := "_law_script") (CX := fun _ => CX0) (sp := fun w => sp_law (K w.params)) hn (by decide) hdf ⟨rfl, by decide, by decide⟩ hY F (fun _ _ a ns hl _ hS => ⟨a, ns, rfl, hS, hl, fun _ => rfl⟩) fun _ _ _ _ _ z => z
end My
def PySem.W.Fast.tw2285897519401700112 : Nat := 0
def PySem.W.Fast.tw16092956147869526358 : Nat := 0
def PySem.W.Fast.tw8934229040131989219 : Nat := 0
def PySem.W.Fast.tw5244145199377418106 : Nat := 0
def PySem.W.Fast.tw14171311176260367982 : Nat := 0
def PySem.W.Fast.tw4683375716566112842 : Nat := 0
def PySem.W.Fast.tw5223878349606712945 : Nat := 0
def PySem.W.Fast.tw16669059693697776759 : Nat := 0
def PySem.W.Fast.tw7709466054697151717 : Nat := 0
def PySem.W.Fast.tw15517443310478976479 : Nat := 0
def PySem.W.Fast.tw4913228470878112273 : Nat := 0
def PySem.W.Fast.tw11137983031685544976 : Nat := 0
def PySem.W.Fast.tw18158378974089711523 : Nat := 0
def PySem.W.Fast.tw16919122267035956315 : Nat := 0
def PySem.W.Fast.tw9724486075287963930 : Nat := 0
def PySem.W.Fast.tw5590523659533829096 : Nat := 0
def PySem.W.Fast.tw12158095841754396254 : Nat := 0
def PySem.W.Fast.tw4473462066321258231 : Nat := 0
def PySem.W.Fast.tw2627920235262066493 : Nat := 0
def PySem.W.Fast.tw16870309147903740008 : Nat := 0
def PySem.W.Fast.tw16873039073155608920 : Nat := 0
def PySem.W.Fast.tw2291938408800627636 : Nat := 0
def PySem.W.Fast.tw1497995344244425308 : Nat := 0
def PySem.W.Fast.tw7046236189966414459 : Nat := 0
def PySem.W.Fast.tw5044008416597426479 : Nat := 0
def PySem.W.Fast.tw11366763148985055610 : Nat := 0
def PySem.W.Fast.tw7831762694476764325 : Nat := 0
def PySem.W.Fast.tw10239854922400596517 : Nat := 0
def PySem.W.Fast.tw5457229660648683627 : Nat := 0
def PySem.W.Fast.tw2815711283571529822 : Nat := 0
def PySem.W.Fast.tw17424153298641455159 : Nat := 0
def PySem.W.Fast.tw3778624970548219010 : Nat := 0
def PySem.W.Fast.tw6869876191405492602 : Nat := 0
def PySem.W.Fast.tw17067146653093133614 : Nat := 0
def PySem.W.Fast.tw9819067040195681420 : Nat := 0
def PySem.W.Fast.tw6334391339149137393 : Nat := 0
def PySem.W.Fast.tw16323649034346288419 : Nat := 0
def PySem.W.Fast.tw9949462028345474358 : Nat := 0
def PySem.W.Fast.tw1342867363500966847 : Nat := 0
def PySem.W.Fast.tw18404244218073747118 : Nat := 0
def PySem.W.Fast.tw14162699158018776189 : Nat := 0
def PySem.W.Fast.tw16464827362401367014 : Nat := 0
def PySem.W.Fast.tw6303121404771477633 : Nat := 0
def PySem.W.Fast.tw13697153199651896271 : Nat := 0
def PySem.W.Fast.tw13694284556455880593 : Nat := 0
def PySem.W.Fast.tw7783430288705375658 : Nat := 0
open PySem PySem.W PyProof.Rows
set_option maxRecDepth 100000 in
set_option maxHeartbeats 0 in
theorem PySem.Challenge.cw_lotledger_k34_named_lots_gone_holds : PySem.Challenge.rw_lotledger_k34_named_lots_gone.Holds := by
  w_on; o_law; k_head; (case hw => w_witness2)
  k_fill
  refine My.walk (l := PySem.Challenge.rw_lotledger_k34_named_lots_gone) rfl rfl (fun w h Y => PySem.W.kIn_of Y) ?F
  case F =>
    intro w mg fa h KX G hmg
    refine' My.all_mk KX G hmg ?u_Lot ?u_Eldest ?u_Newest ?u_Dearest ?u_Mean ?u_Way ?u_LotError ?u_NoLot ?a0 ?l0 ?d0 ?k0 ?a1 ?l1 ?d1 ?k1 ?a2 ?l2 ?d2 ?k2 ?a3 ?l3 ?d3 ?k3 ?a4 ?l4 ?d4 ?k4 ?a5 ?l5 ?d5 ?k5 ?a6 ?l6 ?d6 ?k6 ?a7 ?l7 ?d7 ?k7 ?a8 ?l8 ?d8 ?k8 ?a9 ?l9 ?d9 ?k9 ?a10 ?l10 ?d10 ?k10 ?a11 ?l11 ?d11 ?k11 ?a12 ?l12 ?d12 ?k12 ?a13 ?l13 ?d13 ?k13 ?a14 ?l14 ?d14 ?k14 ?a15 ?l15 ?d15 ?k15 ?a16 ?l16 ?d16 ?k16 ?a17 ?l17 ?d17 ?k17 ?a18 ?l18 ?d18 ?k18 ?a19 ?l19 ?d19 ?k19 ?a20 ?l20 ?d20 ?k20 ?a21 ?l21 ?d21 ?k21 ?a22 ?l22 ?d22 ?k22 ?a23 ?l23 ?d23 ?k23 ?a24 ?l24 ?d24 ?k24 ?a25 ?l25 ?d25 ?k25 ?a26 ?l26 ?d26 ?k26 ?a27 ?l27 ?d27 ?k27 ?a28 ?l28 ?d28 ?k28 ?a29 ?l29 ?d29 ?k29 ?a30 ?l30 ?d30 ?k30 ?a31 ?l31 ?d31 ?k31 ?a32 ?l32 ?d32 ?k32 ?a33 ?l33 ?d33 ?k33 ?z_len ?z_range ?z_sorted ?z_int ?z_list ?z_isinstance ?z_bool ?z_zip ?z_tuple ?z_all ?z_any ?z_sum ?z_dict ?z_min ?z_reversed ?z_enumerate ?x_LotError ?ya_LotError ?yb_LotError ?yc_LotError ?xl_NoLot ?xt_NoLot ?xn_NoLot ?xf_NoLot ?xs_NoLot ?xk_NoLot ?ya_NoLot ?yb_NoLot ?yc_NoLot ?n_NoLot_number ?ia_LotError ?ib_LotError ?ic_LotError ?oc_n ?oc_t ?pg_Lot ?hd_Lot ?po_Lot ?sa_Lot ?ha_Lot ?hm_Lot ?n_Lot_number ?n_Lot_since ?n_Lot_pieces ?n_Lot_cost ?pg_Eldest ?hd_Eldest ?po_Eldest ?sa_Eldest ?ha_Eldest ?hm_Eldest ?pg_Newest ?hd_Newest ?po_Newest ?sa_Newest ?ha_Newest ?hm_Newest ?pg_Dearest ?hd_Dearest ?po_Dearest ?sa_Dearest ?ha_Dearest ?hm_Dearest ?pg_Mean ?hd_Mean ?po_Mean ?sa_Mean ?ha_Mean ?hm_Mean ?pg_Way ?hd_Way ?po_Way ?sa_Way ?ha_Way ?hm_Way ?mka_Lot ?mkb_Lot ?mkc_Lot ?mkd_Lot ?m0a_Eldest ?m0b_Eldest ?m0c_Eldest ?m0a_Newest ?m0b_Newest ?m0c_Newest ?m0a_Dearest ?m0b_Dearest ?m0c_Dearest ?m0a_Mean ?m0b_Mean ?m0c_Mean ?mea_Lot_told ?meb_Lot_told ?mea_Eldest_word ?meb_Eldest_word ?mea_Newest_word ?meb_Newest_word ?mea_Dearest_word ?meb_Dearest_word ?mea_Mean_word ?meb_Mean_word ?mea_Lot_taken ?meb_Lot_taken ?mea_Lot_is_dearer ?meb_Lot_is_dearer ?mea_Eldest_levelled ?meb_Eldest_levelled ?mea_Newest_levelled ?meb_Newest_levelled ?mea_Dearest_levelled ?meb_Dearest_levelled ?mea_Mean_levelled ?meb_Mean_levelled ?mea_Eldest_picks ?meb_Eldest_picks ?mea_Newest_picks ?meb_Newest_picks ?mea_Dearest_picks ?meb_Dearest_picks ?mea_Mean_picks ?meb_Mean_picks ?w_kx1 ?w_ki_Lot
    (case u_Lot => k_is)
    (case u_Eldest => k_is)
    (case u_Newest => k_is)
    (case u_Dearest => k_is)
    (case u_Mean => k_is)
    (case u_Way => k_is)
    (case u_LotError => k_is)
    (case u_NoLot => k_is)
    (case a0 => k_is)
    (case l0 => k_is)
    (case d0 => k_is)
    (case k0 => k_is)
    (case a1 => k_is)
    (case l1 => k_is)
    (case d1 => k_is)
    (case k1 => k_is)
    (case a2 => k_is)
    (case l2 => k_is)
    (case d2 => k_is)
    (case k2 => k_is)
    (case a3 => k_is)
    (case l3 => k_is)
    (case d3 => k_is)
    (case k3 => k_is)
    (case a4 => k_is)
    (case l4 => k_is)
    (case d4 => k_is)
    (case k4 => k_is)
    (case a5 => k_is)
    (case l5 => k_is)
    (case d5 => k_is)
    (case k5 => k_is)
    (case a6 => k_is)
    (case l6 => k_is)
    (case d6 => k_is)
    (case k6 => k_is)
    (case a7 => k_is)
    (case l7 => k_is)
    (case d7 => k_is)
    (case k7 => k_is)
    (case a8 => k_is)
    (case l8 => k_is)
    (case d8 => k_is)
    (case k8 => k_is)
    (case a9 => k_is)
    (case l9 => k_is)
    (case d9 => k_is)
    (case k9 => k_is)
    (case a10 => k_is)
    (case l10 => k_is)
    (case d10 => k_is)
    (case k10 => k_is)
    (case a11 => k_is)
    (case l11 => k_is)
    (case d11 => k_is)
    (case k11 => k_is)
    (case a12 => k_is)
    (case l12 => k_is)
    (case d12 => k_is)
    (case k12 => k_is)
    (case a13 => k_is)
    (case l13 => k_is)
    (case d13 => k_is)
    (case k13 => k_is)
    (case a14 => k_is)
    (case l14 => k_is)
    (case d14 => k_is)
    (case k14 => k_is)
    (case a15 => k_is)
    (case l15 => k_is)
    (case d15 => k_is)
    (case k15 => k_is)
    (case a16 => k_is)
    (case l16 => k_is)
    (case d16 => k_is)
    (case k16 => k_is)
    (case a17 => k_is)
    (case l17 => k_is)
    (case d17 => k_is)
    (case k17 => k_is)
    (case a18 => k_is)
    (case l18 => k_is)
    (case d18 => k_is)
    (case k18 => k_is)
    (case a19 => k_is)
    (case l19 => k_is)
    (case d19 => k_is)
    (case k19 => k_is)
    (case a20 => k_is)
    (case l20 => k_is)
    (case d20 => k_is)
    (case k20 => k_is)
    (case a21 => k_is)
    (case l21 => k_is)
    (case d21 => k_is)
    (case k21 => k_is)
    (case a22 => k_is)
    (case l22 => k_is)
    (case d22 => k_is)
    (case k22 => k_is)
    (case a23 => k_is)
    (case l23 => k_is)
    (case d23 => k_is)
    (case k23 => k_is)
    (case a24 => k_is)
    (case l24 => k_is)
    (case d24 => k_is)
    (case k24 => k_is)
    (case a25 => k_is)
    (case l25 => k_is)
    (case d25 => k_is)
    (case k25 => k_is)
    (case a26 => k_is)
    (case l26 => k_is)
    (case d26 => k_is)
    (case k26 => k_is)
    (case a27 => k_is)
    (case l27 => k_is)
    (case d27 => k_is)
    (case k27 => k_is)
    (case a28 => k_is)
    (case l28 => k_is)
    (case d28 => k_is)
    (case k28 => k_is)
    (case a29 => k_is)
    (case l29 => k_is)
    (case d29 => k_is)
    (case k29 => k_is)
    (case a30 => k_is)
    (case l30 => k_is)
    (case d30 => k_is)
    (case k30 => k_is)
    (case a31 => k_is)
    (case l31 => k_is)
    (case d31 => k_is)
    (case k31 => k_is)
    (case a32 => k_is)
    (case l32 => k_is)
    (case d32 => k_is)
    (case k32 => k_is)
    (case a33 => k_is)
    (case l33 => k_is)
    (case d33 => k_is)
    (case k33 => k_is)
    (case z_len => k_is)
    (case z_range => k_is)
    (case z_sorted => k_is)
    (case z_int => k_is)
    (case z_list => k_is)
    (case z_isinstance => k_is)
    (case z_bool => k_is)
    (case z_zip => k_is)
    (case z_tuple => k_is)
    (case z_all => k_is)
    (case z_any => k_is)
    (case z_sum => k_is)
    (case z_dict => k_is)
    (case z_min => k_is)
    (case z_reversed => k_is)
    (case z_enumerate => k_is)
    (case x_LotError => k_exc)
    (case ya_LotError => k_is)
    (case yb_LotError => k_is)
    (case yc_LotError => k_is)
    (case xl_NoLot => k_is)
    (case xt_NoLot => kernel_rfl)
    (case xn_NoLot => k_is)
    (case xf_NoLot => k_is)
    (case xs_NoLot => k_is)
    (case xk_NoLot => k_is)
    (case ya_NoLot => k_is)
    (case yb_NoLot => k_is)
    (case yc_NoLot => k_is)
    (case n_NoLot_number => k_is)
    (case ia_LotError => k_is)
    (case ib_LotError => k_is)
    (case ic_LotError => k_is)
    (case oc_n => k_is)
    (case oc_t => k_is)
    (case pg_Lot => k_is)
    (case hd_Lot => k_is)
    (case po_Lot => k_is)
    (case sa_Lot => k_is)
    (case ha_Lot => k_is)
    (case hm_Lot => k_is)
    (case n_Lot_number => k_is)
    (case n_Lot_since => k_is)
    (case n_Lot_pieces => k_is)
    (case n_Lot_cost => k_is)
    (case pg_Eldest => k_is)
    (case hd_Eldest => k_is)
    (case po_Eldest => k_is)
    (case sa_Eldest => k_is)
    (case ha_Eldest => k_is)
    (case hm_Eldest => k_is)
    (case pg_Newest => k_is)
    (case hd_Newest => k_is)
    (case po_Newest => k_is)
    (case sa_Newest => k_is)
    (case ha_Newest => k_is)
    (case hm_Newest => k_is)
    (case pg_Dearest => k_is)
    (case hd_Dearest => k_is)
    (case po_Dearest => k_is)
    (case sa_Dearest => k_is)
    (case ha_Dearest => k_is)
    (case hm_Dearest => k_is)
    (case pg_Mean => k_is)
    (case hd_Mean => k_is)
    (case po_Mean => k_is)
    (case sa_Mean => k_is)
    (case ha_Mean => k_is)
    (case hm_Mean => k_is)
    (case pg_Way => k_is)
    (case hd_Way => k_is)
    (case po_Way => k_is)
    (case sa_Way => k_is)
    (case ha_Way => k_is)
    (case hm_Way => k_is)
    (case mka_Lot => k_is)
    (case mkb_Lot => k_is)
    (case mkc_Lot => k_is)
    (case mkd_Lot => k_is)
    (case m0a_Eldest => k_is)
    (case m0b_Eldest => k_is)
    (case m0c_Eldest => k_is)
    (case m0a_Newest => k_is)
    (case m0b_Newest => k_is)
    (case m0c_Newest => k_is)
    (case m0a_Dearest => k_is)
    (case m0b_Dearest => k_is)
    (case m0c_Dearest => k_is)
    (case m0a_Mean => k_is)
    (case m0b_Mean => k_is)
    (case m0c_Mean => k_is)
    (case mea_Lot_told => k_is)
    (case meb_Lot_told => k_is)
    (case mea_Eldest_word => k_is)
    (case meb_Eldest_word => k_is)
    (case mea_Newest_word => k_is)
    (case meb_Newest_word => k_is)
    (case mea_Dearest_word => k_is)
    (case meb_Dearest_word => k_is)
    (case mea_Mean_word => k_is)
    (case meb_Mean_word => k_is)
    (case mea_Lot_taken => k_is)
    (case meb_Lot_taken => k_is)
    (case mea_Lot_is_dearer => k_is)
    (case meb_Lot_is_dearer => k_is)
    (case mea_Eldest_levelled => k_is)
    (case meb_Eldest_levelled => k_is)
    (case mea_Newest_levelled => k_is)
    (case meb_Newest_levelled => k_is)
    (case mea_Dearest_levelled => k_is)
    (case meb_Dearest_levelled => k_is)
    (case mea_Mean_levelled => k_is)
    (case meb_Mean_levelled => k_is)
    (case mea_Eldest_picks => k_is)
    (case meb_Eldest_picks => k_is)
    (case mea_Newest_picks => k_is)
    (case meb_Newest_picks => k_is)
    (case mea_Dearest_picks => k_is)
    (case meb_Dearest_picks => k_is)
    (case mea_Mean_picks => k_is)
    (case meb_Mean_picks => k_is)
    (case w_kx1 => kit_is)
    (case w_ki_Lot => kit_is)
