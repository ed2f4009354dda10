import PyProof.Rows.All
import Wide.All
import OpenK.AllK
import Wide.FinOn
import Lean
import PyProof.EqAt
import PyProof.EqKinds
import PyProof.NeKinds
import PyProof.TupleCall
import PySem.Challenge.RW_lotledger_k30_words_of_ways
set_option Elab.async false
set_option linter.all false
set_option maxRecDepth 100000
set_option maxHeartbeats 4000000
namespace L2
open PySem PySem.Spec PyProof.Rows
abbrev Key := Sum Int Str
def keyIs : Key → Value → Bool
  | .inl k, v => Value.isInt k v
  | .inr x, v => Value.isStrOf x v
def keyH (w : World) : Key → Int
  | .inl k => hashInt k
  | .inr x => hashStr w x
theorem keyIs_shape : ∀ {k : Key} {v : Value}, keyIs k v = true → (∃ i t, k = Sum.inl i ∧ v = Value.int i t) ∨ (∃ x t, k = Sum.inr x ∧ v = Value.str x t)
  | .inl i, v, h => by
    obtain ⟨t, e⟩ := Value.isInt_shape (k := i) (v := v) h
    exact .inl ⟨i, t, rfl, e⟩
  | .inr x, v, h => by
    obtain ⟨t, e⟩ := Value.isStrOf_shape (x := x) (v := v) h
    exact .inr ⟨x, t, rfl, e⟩
theorem keyIs_int (i : Int) (t : Tok) : keyIs (.inl i) (.int i t) = true := by simp [keyIs, Value.isInt]
theorem keyIs_str (x : Str) (t : Tok) : keyIs (.inr x) (.str x t) = true := by simp [keyIs, Value.isStrOf]
theorem key_ll (a b : Int) : decide ((Sum.inl a : Key) = Sum.inl b) = (a == b) := by
  by_cases e : a = b
  · subst e; simp
  · have h : ¬ (Sum.inl a : Key) = Sum.inl b := fun q => e (Sum.inl.inj q)
    rw [decide_eq_false h]
    exact (beq_eq_false_iff_ne.mpr e).symm
theorem key_rr (a b : Str) : decide ((Sum.inr a : Key) = Sum.inr b) = decide (a = b) := by
  by_cases e : a = b
  · subst e; simp
  · have h : ¬ (Sum.inr a : Key) = Sum.inr b := fun q => e (Sum.inr.inj q)
    rw [decide_eq_false h, decide_eq_false e]
theorem key_lr (a : Int) (b : Str) : decide ((Sum.inl a : Key) = Sum.inr b) = false := decide_eq_false (fun q => nomatch q)
theorem key_rl (a : Str) (b : Int) : decide ((Sum.inr a : Key) = Sum.inl b) = false := decide_eq_false (fun q => nomatch q)
def mixKind (prog : Program) (w : World) : PySem.KeyKind prog w Key where
  is := keyIs
  hash := keyH w
  inj := fun v a b ha hb => by
    rcases keyIs_shape ha with ⟨i, t, rfl, rfl⟩ | ⟨x, t, rfl, rfl⟩
    · rcases keyIs_shape hb with ⟨j, u, rfl, e⟩ | ⟨y, u, rfl, e⟩
      · injection e with e1 _; rw [e1]
      · exact nomatch e
    · rcases keyIs_shape hb with ⟨j, u, rfl, e⟩ | ⟨y, u, rfl, e⟩
      · exact nomatch e
      · injection e with e1 _; rw [e1]
  byValue := fun k v h => by
    rcases keyIs_shape h with ⟨i, t, rfl, rfl⟩ | ⟨x, t, rfl, rfl⟩ <;> rfl
  pyHash := fun hv h => by
    rcases keyIs_shape hv with ⟨i, t, rfl, rfl⟩ | ⟨x, t, rfl, rfl⟩
    · exact wpAny_pyHash_int h
    · exact wpAny_pyHash_str h
  eqBool := fun hu hv h => by
    rcases keyIs_shape hu with ⟨i, t, rfl, rfl⟩ | ⟨x, t, rfl, rfl⟩
    · rcases keyIs_shape hv with ⟨j, u, rfl, rfl⟩ | ⟨y, u, rfl, rfl⟩
      · rw [key_ll] at h; exact wpAny_eqBool_int h
      · rw [key_lr] at h; exact SeqAt.EqAt.int_str i t y u _ _ _ _ h
    · rcases keyIs_shape hv with ⟨j, u, rfl, rfl⟩ | ⟨y, u, rfl, rfl⟩
      · rw [key_rl] at h; exact SeqAt.EqAt.str_int x t j u _ _ _ _ h
      · rw [key_rr] at h; exact wpAny_eqBool_str h
  «strs» := fun k x t v h => by
    rcases keyIs_shape h with ⟨i, u, rfl, e⟩ | ⟨y, u, rfl, e⟩
    · exact nomatch e
    · injection e with e1 _
      subst e1
      cases v <;> rfl
theorem mixKind_int (prog : Program) (w : World) (i : Int) (t : Tok) : (mixKind prog w).is (.inl i) (.int i t) = true := keyIs_int i t
theorem mixKind_str (prog : Program) (w : World) (x : Str) (t : Tok) : (mixKind prog w).is (.inr x) (.str x t) = true := keyIs_str x t
end L2
namespace L2
open PySem PySem.Spec PyProof.Rows
inductive V where
  | non | bl (b : Bool) | int (i : Int) | str (x : Str) | byt (b : Array UInt8) | flt (b : UInt64) | ref (a : Addr) | ty (n : String)
  deriving DecidableEq
def RelV : V → Value → Prop
  | .non, u => u = Value.none
  | .bl b, u => u = Value.bool b
  | .int i, u => ∃ t, u = Value.int i t
  | .str x, u => ∃ t, u = Value.str x t
  | .byt b, u => ∃ t, u = Value.bytes b t
  | .flt b, u => ∃ t, u = Value.float b t
  | .ref a, u => u = Value.ref a
  | .ty n, u => u = Value.type n
abbrev Vals : List V → List Value → Prop := Paired RelV
theorem Vals.length {xs : List V} {us : List Value} (r : Vals xs us) : xs.length = us.length := Paired.length r
theorem Vals.get : ∀ {xs : List V} {us : List Value} {i : Nat} {x : V}, Vals xs us → xs[i]? = some x → ∃ u, us[i]? = some u ∧ RelV x u
  | _, _, _, _, .nil, e => by simp at e
  | _, _, 0, _, .cons r _, e => by simp at e; subst e; exact ⟨_, rfl, r⟩
  | _, _, i + 1, x, .cons _ t, e => by
    obtain ⟨u, h1, h2⟩ := Vals.get (i := i) (x := x) t (by simpa using e)
    exact ⟨u, by simpa using h1, h2⟩
theorem Vals.set {x : V} {u : Value} (r : RelV x u) : ∀ {xs : List V} {us : List Value} (i : Nat), Vals xs us → Vals (xs.set i x) (us.set i u)
  | _, _, _, .nil => .nil
  | _, _, 0, .cons _ t => .cons r t
  | _, _, i + 1, .cons q t => .cons q (Vals.set r i t)
theorem Vals.append : ∀ {xs ys : List V} {us ws : List Value}, Vals xs us → Vals ys ws → Vals (xs ++ ys) (us ++ ws)
  | _, _, _, _, .nil, s => s
  | _, _, _, _, .cons r t, s => .cons r (Vals.append t s)
theorem Vals.take : ∀ {xs : List V} {us : List Value} (n : Nat), Vals xs us → Vals (xs.take n) (us.take n)
  | _, _, 0, _ => .nil
  | _, _, _ + 1, .nil => .nil
  | _, _, n + 1, .cons r t => .cons r (Vals.take n t)
theorem Vals.drop : ∀ {xs : List V} {us : List Value} (n : Nat), Vals xs us → Vals (xs.drop n) (us.drop n)
  | _, _, 0, r => r
  | _, _, _ + 1, .nil => .nil
  | _, _, n + 1, .cons _ t => Vals.drop n t
theorem Vals.none_of : ∀ {xs : List V} {us : List Value} {i : Nat}, Vals xs us → xs[i]? = none → us[i]? = none := fun {xs us i} r e => by
  have h1 := r.length
  have h2 : xs.length ≤ i := List.getElem?_eq_none_iff.mp e
  exact List.getElem?_eq_none_iff.mpr (by omega)
def RelO : Option V → Option Value → Prop
  | some v, some u => RelV v u
  | none, none => True
  | _, _ => False
def KV {κ : Type} : List (κ × V) → List (κ × Value) → Prop := Paired fun (p : κ × V) (q : κ × Value) => p.1 = q.1 ∧ RelV p.2 q.2
def kV : Key → V
  | .inl i => .int i
  | .inr x => .str x
inductive HO where
  | lst (xs : List V)
  | tup (xs : List V)
  | dK (kvs : List (Key × V)) | dT (kvs : List (List Key × V))
  | set (S : Int → Bool) (n : Nat)
  | ins (C dx : Addr) (fs : List (Str × V))
  | own (x : Addr)
  | xd (fs : List (Str × V))
  | met (f x : Addr)
  | rng (lo hi : Int)
  | frz (o : Obj) (u : HO)
  | tbl (ps : Array Value)
  | ext (φ : Heap → Prop)
abbrev Hp := Addr → Option HO
def upd (H : Hp) (a : Addr) (o : HO) : Hp := fun b => if b = a then some o else H b
theorem upd_same {H : Hp} {a : Addr} {o : HO} : upd H a o a = some o := by unfold upd; rw [if_pos rfl]
theorem upd_ne {H : Hp} {a b : Addr} {o : HO} (h : b ≠ a) : upd H a o b = H b := by unfold upd; rw [if_neg h]
theorem ne_of_none {H : Hp} {a b : Addr} {o : HO} (h : H a = some o) (h' : H b = none) : a ≠ b := by
  intro e; subst e; rw [h] at h'; cases h'
section
variable (P : Program) (w : World)
def ObjOk (H : Hp) (h : Heap) (a : Addr) : HO → Prop
  | .lst xs => xs.length ≤ sizeLine ∧ ∃ (its : List Value) (n : Nat), Vals xs its ∧ h.get? a = some { cls := .type "list", data := .seq its.toArray n }
  | .tup xs => xs.length ≤ sizeLine ∧ ∃ its : List Value, Vals xs its ∧ IsTup h a its.toArray
  | .dK kvs => kvs.length ≤ sizeLine ∧ (a == sysModules) = false ∧ ∃ vs, KV kvs vs ∧ h.DictOf (mixKind P w) a vs
  | .dT kvs => kvs.length ≤ sizeLine ∧ (a == sysModules) = false ∧ ∃ xs : List (List Key × Addr × Value),
      Paired (fun (p : List Key × V) (q : List Key × Addr × Value) => p.1 = q.1 ∧ H q.2.1 = some (.tup (p.1.map kV)) ∧ RelV p.2 q.2.2) kvs xs ∧
      ∃ o es ep, h.get? a = some o ∧ o.ExactDict ∧ o.data = .dict es ep ∧ es.toList = xs.map (entryOfKey (tupleKind (mixKind P w))) ∧ (xs.map (·.1)).Nodup
  | .set S n => h.SetOf (intKind P w) a S n
  | .ins C dx fs => H dx = some (.own a) ∧ fs.length ≤ 1000 ∧ dx ≠ a ∧ h.get? a = some (PySem.W.instObj C dx) ∧
      ∃ mA, h.Ns1 dx mA ∧ (∀ f, RelO (fs.lookup f) (mA f)) ∧ PySem.Within mA (fs.map (·.1))
  | .own _ => ∃ o, h.get? a = some o
  | .xd fs => ∃ mA, h.Ns1 a mA ∧ ∀ f, RelO (fs.lookup f) (mA f)
  | .rng lo hi => ∃ t u v, h.get? a = some { cls := .type "range", data := .fields #[.int lo t, .int hi u, .int 1 v] }
  | .frz o u => h.get? a = some o ∧ ObjOk H h a u
  | .tbl ps => h.get? a = some { cls := .none, data := .fields ps }
  | .met f x => h.get? a = some (PySem.W.methodObj (.ref f) (.ref x))
  | .ext φ => φ h ∧ (∃ o, h.get? a = some o) ∧ ∀ h1 h2 : Heap, φ h1 → (∀ o, h1.get? a = some o → h2.get? a = some o) → φ h2
def HOk (H : Hp) (h : Heap) : Prop := ∀ a o, H a = some o → ObjOk P w H h a o
end
section
variable {P : Program} {w : World} {H H' : Hp} {h h' : Heap} {a : Addr} {o : HO}
theorem ObjOk.lt (x : ObjOk P w H h a o) : a < h.objs.size := by
  cases o with
  | lst xs => obtain ⟨_, _, _, _, e⟩ := x; exact Heap.lt_size e
  | tup xs => obtain ⟨_, _, _, p⟩ := x; exact p.lt
  | dK kvs => obtain ⟨_, _, _, _, o, _, _, e, _⟩ := x; exact Heap.lt_size e
  | dT kvs => obtain ⟨_, _, _, _, o, _, _, e, _⟩ := x; exact Heap.lt_size e
  | set S n => obtain ⟨o, _, _, _, e, _⟩ := x; exact Heap.lt_size e
  | ins C dx fs => obtain ⟨_, _, _, e, _⟩ := x; exact Heap.lt_size e
  | own y => obtain ⟨_, e⟩ := x; exact Heap.lt_size e
  | xd fs => obtain ⟨_, ⟨_, _, _, e, _⟩, _⟩ := x; exact Heap.lt_size e
  | rng lo hi => obtain ⟨_, _, _, e⟩ := x; exact Heap.lt_size e
  | frz ob u => obtain ⟨e, _⟩ := x; exact Heap.lt_size e
  | tbl ps => exact Heap.lt_size (show h.get? a = some _ from x)
  | met f y => exact Heap.lt_size (show h.get? a = some _ from x)
  | ext φ => obtain ⟨_, ⟨_, e⟩, _⟩ := x; exact Heap.lt_size e
theorem Paired.mapP {α β : Type} {F G : α → β → Prop} : ∀ {l₁ : List α} {l₂ : List β}, Paired F l₁ l₂ → (∀ a b, F a b → G a b) → Paired G l₁ l₂
  | _, _, .nil, _ => .nil
  | _, _, .cons r t, f => .cons (f _ _ r) (Paired.mapP t f)
theorem ObjOk.stay (x : ObjOk P w H h a o) (k : ∀ b u, (b = a ∨ H b = some (.own a)) → h.get? b = some u → h'.get? b = some u)
    (ho : ∀ b, H b = some (.own a) → H' b = some (.own a)) (ht : ∀ b xs, H b = some (.tup xs) → H' b = some (.tup xs)) : ObjOk P w H' h' a o := by
  induction o with
  | lst xs => obtain ⟨z, its, n, r, e⟩ := x; exact ⟨z, its, n, r, k _ _ (.inl rfl) e⟩
  | tup xs => obtain ⟨z, its, r, ob, e, c⟩ := x; exact ⟨z, its, r, ob, k _ _ (.inl rfl) e, c⟩
  | dK kvs => obtain ⟨z, y, vs, r, ob, es, ep, e, c⟩ := x; exact ⟨z, y, vs, r, ob, es, ep, k _ _ (.inl rfl) e, c⟩
  | dT kvs =>
    obtain ⟨z, y, xs, r, ob, es, ep, e, c⟩ := x
    exact ⟨z, y, xs, Paired.mapP r fun p q z => ⟨z.1, ht _ _ z.2.1, z.2.2⟩, ob, es, ep, k _ _ (.inl rfl) e, c⟩
  | set S n => obtain ⟨ob, es, ep, t, e, c⟩ := x; exact ⟨ob, es, ep, t, k _ _ (.inl rfl) e, c⟩
  | ins C dx fs =>
    obtain ⟨d, z, ne, e, mA, ⟨od, es, ep, e2, c⟩, r⟩ := x
    exact ⟨ho _ d, z, ne, k _ _ (.inl rfl) e, mA, ⟨od, es, ep, k _ _ (.inr d) e2, c⟩, r⟩
  | own y => obtain ⟨ob, e⟩ := x; exact ⟨ob, k _ _ (.inl rfl) e⟩
  | xd fs => obtain ⟨mA, ⟨od, es, ep, e, c⟩, r⟩ := x; exact ⟨mA, ⟨od, es, ep, k _ _ (.inl rfl) e, c⟩, r⟩
  | rng lo hi => obtain ⟨t, u, v, e⟩ := x; exact ⟨t, u, v, k _ _ (.inl rfl) e⟩
  | frz ob u ih => obtain ⟨e, q⟩ := x; exact ⟨k _ _ (.inl rfl) e, ih q⟩
  | tbl ps =>
    have e : h.get? a = some { cls := .none, data := .fields ps } := x
    show h'.get? a = some { cls := .none, data := .fields ps }
    exact k a _ (.inl rfl) e
  | met f y =>
    have e : h.get? a = some (PySem.W.methodObj (.ref f) (.ref y)) := x
    show h'.get? a = some (PySem.W.methodObj (.ref f) (.ref y))
    exact k a _ (.inl rfl) e
  | ext φ => obtain ⟨p, ⟨o, e⟩, st⟩ := x; exact ⟨st _ _ p fun o q => k _ _ (.inl rfl) q, ⟨o, k _ _ (.inl rfl) e⟩, st⟩
theorem HOk.lt (x : HOk P w H h) (e : H a = some o) : a < h.objs.size := (x a o e).lt
theorem HOk.fresh (x : HOk P w H h) (e : h.objs.size ≤ a) : H a = none := by
  cases q : H a with
  | none => rfl
  | some u => exact absurd (Nat.lt_of_lt_of_le (x.lt q) e) (Nat.lt_irrefl _)
theorem HOk.kept (x : HOk P w H h) (k : ∀ b u, h.get? b = some u → h'.get? b = some u) : HOk P w H h' := fun a o e =>
  (x a o e).stay (fun b u _ q => k b u q) (fun _ q => q) fun _ _ q => q
theorem HOk.laid (x : HOk P w H h) (k : ∀ b u, h.get? b = some u → h'.get? b = some u) (hp : h.objs.size ≤ a) (new : ObjOk P w (upd H a o) h' a o) : HOk P w (upd H a o) h' := fun b u e => by
  have hn := x.fresh hp
  by_cases hb : b = a
  · subst hb; rw [upd_same] at e; cases e; exact new
  · rw [upd_ne hb] at e
    exact (x b u e).stay (fun c v _ q => k c v q) (fun c q => by rw [upd_ne (ne_of_none q hn)]; exact q) fun c xs q => by rw [upd_ne (ne_of_none q hn)]; exact q
end
def Rd (H : Hp) (a : Addr) (u : HO) : Prop := H a = some u ∨ ∃ o, H a = some (.frz o u)
theorem Rd.of {H : Hp} {a : Addr} {u : HO} (h : H a = some u) : Rd H a u := .inl h
theorem Rd.ok {P : Program} {w : World} {H : Hp} {h : Heap} {a : Addr} {u : HO} (r : Rd H a u) (x : HOk P w H h) : ObjOk P w H h a u := by
  rcases r with r | ⟨o, r⟩
  · exact x a u r
  · obtain ⟨_, q⟩ := x a _ r
    exact q
def Mut : Option HO → Prop
  | some (.lst _) => True
  | some (.dK _) => True
  | some (.dT _) => True
  | some (.set _ _) => True
  | some (.ins _ _ _) => True
  | some (.ext _) => True
  | _ => False
section
variable {P : Program} {w : World} {H : Hp} {h h' : Heap} {x e : Addr} {o' : HO}
theorem HOk.write (ok : HOk P w H h) (mu : Mut (H x)) (he : e = x ∨ H e = some (.own x)) (k : ∀ b u, b ≠ e → h.get? b = some u → h'.get? b = some u) (heo : ∃ u, h'.get? e = some u)
    (new : ObjOk P w (upd H x o') h' x o') : HOk P w (upd H x o') h' := fun b u q => by
  have nown : ∀ c y, H c = some (.own y) → c ≠ x := fun c y r z => by subst z; rw [r] at mu; exact mu
  have ntup : ∀ c xs, H c = some (.tup xs) → c ≠ x := fun c xs r z => by subst z; rw [r] at mu; exact mu
  by_cases hb : b = x
  · subst hb; rw [upd_same] at q; cases q; exact new
  · rw [upd_ne hb] at q
    by_cases hbe : b = e
    · have q' : H b = some (.own x) := by
        rcases he with z | z
        · exact absurd (hbe.trans z) hb
        · rw [hbe]; exact z
      rw [q] at q'; cases q'
      obtain ⟨v, hv⟩ := heo
      exact ⟨v, by rw [hbe]; exact hv⟩
    · refine (ok b u q).stay (fun c v hc r => k c v ?_ r) (fun c r => by rw [upd_ne (nown c b r)]; exact r) fun c xs r => by rw [upd_ne (ntup c xs r)]; exact r
      rcases hc with rfl | hc
      · exact hbe
      · rintro rfl
        rcases he with z | z
        · exact nown c b hc z
        · rw [hc] at z; cases z; exact hb rfl
end
structure Un (fs ex : List Addr) (H H' : Hp) (h h' : Heap) : Prop where
  keep : ∀ b o, h.get? b = some o → H b = none → b ∉ fs → b ∉ ex → h'.get? b = some o
  slot : ∀ b o, h.get? b = some o → H b = none → b ∈ fs → b ∉ ex → ∃ sl, h'.get? b = some { o with slots := sl }
  free : ∀ b o, h.get? b = some o → H b = none → b ∉ ex → H' b = none
  there : ∀ b o, h.get? b = some o → b ∉ ex → ∃ o', h'.get? b = some o'
  tups : ∀ b xs, H b = some (.tup xs) → H' b = some (.tup xs)
  frzs : ∀ b o u, H b = some (.frz o u) → H' b = some (.frz o u)
  tbls : ∀ b ps, H b = some (.tbl ps) → ∃ more, H' b = some (.tbl (ps ++ more))
section
variable {fs fs' ex ex' : List Addr} {H H1 H2 : Hp} {h h1 h2 h' : Heap} {a x e : Addr} {o : HO}
theorem Un.any (u : Un fs ex H H1 h h1) {b : Addr} {ob : Obj} (q : h.get? b = some ob) (n : H b = none) (hx : b ∉ ex) : ∃ sl, h1.get? b = some { ob with slots := sl } := by
  by_cases hb : b ∈ fs
  · exact u.slot b ob q n hb hx
  · exact ⟨ob.slots, u.keep b ob q n hb hx⟩
theorem Un.trans (a : Un fs ex H H1 h h1) (b : Un fs ex H1 H2 h1 h2) : Un fs ex H H2 h h2 where
  keep := fun c ob q n hc hx => b.keep c ob (a.keep c ob q n hc hx) (a.free c ob q n hx) hc hx
  slot := fun c ob q n hc hx => by
    obtain ⟨sl, e1⟩ := a.slot c ob q n hc hx
    obtain ⟨sl', e2⟩ := b.slot c _ e1 (a.free c ob q n hx) hc hx
    exact ⟨sl', e2⟩
  free := fun c ob q n hx => by
    obtain ⟨o', e1⟩ := a.there c ob q hx
    exact b.free c o' e1 (a.free c ob q n hx) hx
  there := fun c ob q hx => by
    obtain ⟨o', e1⟩ := a.there c ob q hx
    exact b.there c o' e1 hx
  tups := fun c xs q => b.tups c xs (a.tups c xs q)
  frzs := fun c ob xs q => b.frzs c ob xs (a.frzs c ob xs q)
  tbls := fun c ps q => by
    obtain ⟨m1, e1⟩ := a.tbls c ps q
    obtain ⟨m2, e2⟩ := b.tbls c _ e1
    exact ⟨m1 ++ m2, by rw [e2, Array.append_assoc]⟩
theorem Un.kept (k : ∀ b u, h.get? b = some u → h'.get? b = some u) : Un fs ex H H h h' :=
  ⟨fun b ob q _ _ _ => k b ob q, fun b ob q _ _ _ => ⟨ob.slots, k b ob q⟩, fun _ _ _ n _ => n, fun b ob q _ => ⟨ob, k b ob q⟩, fun _ _ q => q, fun _ _ _ q => q, fun _ ps q => ⟨#[], by rw [q]; simp⟩⟩
theorem Un.refl : Un fs ex H H h h := Un.kept fun _ _ q => q
theorem Un.laid (k : ∀ b u, h.get? b = some u → h'.get? b = some u) (hp : h.objs.size ≤ a) (hn : H a = none) : Un fs ex H (upd H a o) h h' where
  keep := fun b u q _ _ _ => k b u q
  slot := fun b u q _ _ _ => ⟨u.slots, k b u q⟩
  free := fun b u q n _ => by rw [upd_ne (Nat.ne_of_lt (Nat.lt_of_lt_of_le (Heap.lt_size q) hp))]; exact n
  there := fun b u q _ => ⟨u, k b u q⟩
  tups := fun b xs q => by rw [upd_ne (ne_of_none q hn)]; exact q
  frzs := fun b u xs q => by rw [upd_ne (ne_of_none q hn)]; exact q
  tbls := fun b ps q => ⟨#[], by rw [upd_ne (ne_of_none q hn), q]; simp⟩
theorem Un.write (mu : Mut (H x)) (he : e = x ∨ H e = some (.own x)) (k : ∀ b u, b ≠ e → h.get? b = some u → h'.get? b = some u) (heo : ∃ u, h'.get? e = some u) : Un fs ex H (upd H x o) h h' := by
  have hx : ∀ b, H b = none → b ≠ x := fun b n z => by subst z; rw [n] at mu; exact mu
  have hb : ∀ b, H b = none → b ≠ e := fun b n z => by
    subst z
    rcases he with r | r
    · exact hx b n r
    · rw [n] at r; cases r
  have hm : ∀ b u, H b = some u → ¬ Mut (some u) → b ≠ x := fun b u q nm z => by subst z; rw [q] at mu; exact nm mu
  refine ⟨fun b u q n _ _ => k b u (hb b n) q, fun b u q n _ _ => ⟨u.slots, k b u (hb b n) q⟩, fun b u q n _ => by rw [upd_ne (hx b n)]; exact n, fun b u q _ => ?_,
    fun b xs q => by rw [upd_ne (hm b _ q fun z => z)]; exact q, fun b u xs q => by rw [upd_ne (hm b _ q fun z => z)]; exact q, fun b ps q => ⟨#[], by rw [upd_ne (hm b _ q fun z => z), q]; simp⟩⟩
  by_cases hbe : b = e
  · subst hbe; exact heo
  · exact ⟨u, k b u hbe q⟩
theorem Un.mono (u : Un fs ex H H1 h h1) (hs : ∀ b ∈ fs, b ∈ fs') (hx : ∀ b ∈ ex, b ∈ ex') : Un fs' ex' H H1 h h1 :=
  ⟨fun b ob q n hb he => u.keep b ob q n (fun z => hb (hs b z)) fun z => he (hx b z), fun _ _ q n _ he => u.any q n fun z => he (hx _ z), fun b ob q n he => u.free b ob q n fun z => he (hx b z), fun b ob q he => u.there b ob q fun z => he (hx b z), u.tups, u.frzs, u.tbls⟩
end
def trk (h : Heap) (H : Hp) : List Addr := (List.range h.objs.size).filter fun a => (H a).isSome
def hidT (h : Heap) (H : Hp) : Heap := PySem.W.hideAll h (trk h H)
theorem hidT_size (h : Heap) (H : Hp) : (hidT h H).objs.size = h.objs.size := PySem.W.hideAll_size _ _
theorem hidT_get {h : Heap} {H : Hp} {b : Addr} {o : Obj} (e : h.get? b = some o) (n : H b = none) : (hidT h H).get? b = some o :=
  PySem.W.hideAll_get _ e fun hm => by
    have q : (H b).isSome = true := (List.mem_filter.mp hm).2
    rw [n] at q; simp at q
theorem of_hidT {h : Heap} {H : Hp} {b : Addr} {o : Obj} (e : (hidT h H).get? b = some o) : h.get? b = some o ∧ H b = none := by
  have e' : h.get? b = some o := PySem.W.of_hideAll (trk h H) e
  refine ⟨e', ?_⟩
  cases q : H b with
  | none => rfl
  | some x =>
    have hm : b ∈ trk h H := List.mem_filter.mpr ⟨List.mem_range.mpr (Heap.lt_size e'), by simp [q]⟩
    have z : (hidT h H).get? b = none := PySem.W.hideAll_none (trk h H) hm
    rw [z] at e; cases e
def allNews (g h : Heap) (L : Addr) : List (Addr × Obj) := (List.range h.objs.size).filterMap fun a => if a = L ∨ (g.get? a).isSome = true then none else (h.get? a).map fun o => (a, o)
def rest (g h : Heap) (L d : Addr) : List (Addr × Obj) := (allNews g h L).filter fun p => decide (p.1 ≠ d)
end L2
namespace L2
open PySem PySem.Spec PyProof.Rows
structure Mod (K : PySem.W.Frag) (mg : Str → Option Value) (base : Heap) : Prop where
  kin : K.In base
  glob : base.Ns mainGlobals mg
  blt : ∃ mb, base.Ns builtinsNs mb ∧ ∀ x : Str, x ≠ "__name__" → mb x = bootBuiltins x
  nolimit : base.NoLimit
structure Cx where
  prog : Program
  w : World
  K : PySem.W.Frag
  mg : Str → Option Value
  base : Heap
  A : Around
  N : List Str
  s₀ : Shared
  H₀ : Hp
  env : Env
  outer : List Env
  stack : List Env
  ex : List Addr
  fn : Str → Bool
  calm : Bool
  pn : List (Addr × Obj)
  xe : Value → Shared → Prop
def frs (l : List Env) : List Addr := l.filterMap (·.frame)
abbrev Cx.fs (X : Cx) : List Addr := frs X.outer
def Vis (sc : Scope) (x : Str) : Prop := sc.names.lookup x = some .local ∨ sc.names.lookup x = some .cell ∨ sc.names.lookup x = some .free
def Loc (sc : Scope) (x : Str) : Prop := sc.names.lookup x = some .local ∨ sc.names.lookup x = some .cell
def Look (env : Env) (h : Heap) (m : Str → Option Value) (x : Str) (u : Value) : Prop :=
  (env.kindOf x = some .local ∧ m x = some u) ∨ ((env.kindOf x = some .cell ∨ env.kindOf x = some .free) ∧ ∃ c, env.cells.lookup x = some c ∧ h.IsCell c (some u))
structure Cx.Ok (X : Cx) : Prop where
  mod : Mod X.K X.mg X.base
  kind : X.env.scope.kind = .function
  glob : X.env.globals = mainGlobals
  blt : X.env.builtins = builtinsNs
  above : X.s₀.heap.objs.size ≤ X.env.locals
  inj : ∀ x y c, X.env.cells.lookup x = some c → X.env.cells.lookup y = some c → x = y
  has : ∀ x, (X.env.kindOf x = some .cell ∨ X.env.kindOf x = some .free) → ∃ c, X.env.cells.lookup x = some c
  cab : ∀ x c, X.fn x = true → X.env.cells.lookup x = some c → X.s₀.heap.objs.size ≤ c
  hd : X.calm = true → X.A.handled = none
  frames : X.A.frames = some X.stack
  stk : X.stack = X.outer ∨ (X.stack = X.env :: X.outer ∧ X.env.frame = some X.env.locals)
  exf : ∀ b ∈ X.ex, b ≠ X.env.locals ∧ ∀ x c, X.env.cells.lookup x = some c → c ≠ b
  bs : ∀ b o, X.base.get? b = some o → X.s₀.heap.get? b = some o ∧ X.H₀ b = none
  bsz : X.base.objs.size ≤ X.s₀.heap.objs.size
  noex : ∀ b o, X.base.get? b = some o → b ∉ X.ex
  exfs : ∀ b ∈ X.ex, b ∉ X.fs
  funs : X.s₀.heap.FunFrames X.base X.outer
  frf : ∀ b ∈ X.fs, X.H₀ b = none
structure Inv (X : Cx) (pins : List (Addr × Obj)) (σ : List (Option V)) (H : Hp) (s : Shared) : Prop where
  ok : X.Ok
  os : s.os = X.s₀.os
  bare : AllBare s.gens
  base : Un X.fs X.ex X.H₀ H X.s₀.heap s.heap
  loc : ∃ m, s.heap.Ns X.env.locals m ∧ ∀ (i : Nat) (x : Str) (v : V), X.N[i]? = some x → σ[i]? = some (some v) → Vis X.env.scope x → ∃ u, RelV v u ∧ Look X.env s.heap m x u
  cell : ∀ x c, X.env.cells.lookup x = some c → ∃ v, s.heap.IsCell c v
  free : H X.env.locals = none
  freeC : ∀ x c, X.env.cells.lookup x = some c → H c = none
  pin : ∀ p ∈ X.pn ++ pins, s.heap.get? p.1 = some p.2 ∧ H p.1 = none ∧ p.1 ≠ X.env.locals ∧ p.1 ∉ X.fs ∧ ∀ v, p.2.data ≠ .cell v
  hok : HOk X.prog X.w H s.heap
  len : σ.length = X.N.length
section
variable {X : Cx} {pins : List (Addr × Obj)} {σ : List (Option V)} {H H' : Hp} {s : Shared} {h' : Heap}
theorem Cx.Ok.nofr (ok : X.Ok) {b : Addr} {o : Obj} (e : X.base.get? b = some o) : b ∉ X.fs := fun hb => by
  have := (ok.funs.mem hb).1
  rw [e] at this; cases this
theorem Inv.bs (I : Inv X pins σ H s) : ∀ b o, X.base.get? b = some o → s.heap.get? b = some o ∧ H b = none := fun b o e =>
  ⟨I.base.keep b o (I.ok.bs b o e).1 (I.ok.bs b o e).2 (I.ok.nofr e) (I.ok.noex b o e), I.base.free b o (I.ok.bs b o e).1 (I.ok.bs b o e).2 (I.ok.noex b o e)⟩
theorem Inv.bk (I : Inv X pins σ H s) : ∀ b o, X.base.get? b = some o → s.heap.get? b = some o := fun b o e => (I.bs b o e).1
theorem Inv.mod (I : Inv X pins σ H s) : Mod X.K X.mg X.base := I.ok.mod
theorem Inv.kIn (I : Inv X pins σ H s) : X.K.In s.heap := I.ok.mod.kin.keeps I.bk
theorem Inv.nolimit (I : Inv X pins σ H s) : s.heap.NoLimit := I.ok.mod.nolimit.keeps I.bk
theorem Inv.fr (I : Inv X pins σ H s) : ∃ m, Fr X.base X.env.locals s.heap m :=
  let ⟨m, hn, _⟩ := I.loc
  ⟨m, hn, I.bk, Nat.le_trans I.ok.bsz I.ok.above⟩
theorem Inv.lt (I : Inv X pins σ H s) : X.env.locals < s.heap.objs.size := let ⟨_, hn, _⟩ := I.loc; hn.lt
theorem Inv.sz (I : Inv X pins σ H s) : X.s₀.heap.objs.size ≤ s.heap.objs.size := Nat.le_trans I.ok.above (Nat.le_of_lt I.lt)
theorem Inv.nofs (I : Inv X pins σ H s) {a : Addr} (h : s.heap.objs.size ≤ a) : a ∉ X.fs := fun hb => by
  obtain ⟨_, o, ho, _⟩ := I.ok.funs.mem hb
  exact absurd (Nat.lt_of_lt_of_le (Heap.lt_size ho) (Nat.le_trans I.sz h)) (Nat.lt_irrefl _)
theorem Inv.cne (I : Inv X pins σ H s) : ∀ x c, X.env.cells.lookup x = some c → c ≠ X.env.locals := fun x c e z => by
  obtain ⟨v, o, ho, hd⟩ := I.cell x c e
  obtain ⟨m, ⟨o', es, ep, ho', hd', _⟩, _⟩ := I.loc
  rw [z, ho'] at ho; cases ho; rw [hd'] at hd; cases hd
theorem Inv.funs (I : Inv X pins σ H s) : s.heap.FunFrames X.base X.outer := by
  have all : ∀ (l : List Env), (∀ b ∈ frs l, b ∈ X.fs) → X.s₀.heap.FunFrames X.base l → s.heap.FunFrames X.base l := by
    intro l
    induction l with
    | nil => intro _ _; trivial
    | cons env r ih =>
      intro hs hl
      obtain ⟨hk, ⟨L, o, hf, hn, ho, hd⟩, hr⟩ := hl
      have hL : L ∈ X.fs := hs L (by unfold frs; rw [List.filterMap_cons, hf]; exact List.mem_cons_self)
      obtain ⟨sl, e⟩ := I.base.slot L o ho (I.ok.frf L hL) hL fun z => I.ok.exfs L z hL
      exact ⟨hk, ⟨L, _, hf, hn, e, hd⟩, ih (fun b hb => hs b (by unfold frs; rw [List.filterMap_cons, hf]; exact List.mem_cons_of_mem _ hb)) hr⟩
  exact all X.outer (fun _ hb => hb) I.ok.funs
theorem Inv.stack (I : Inv X pins σ H s) : s.heap.FunFrames X.base X.stack := by
  rcases I.ok.stk with e | ⟨e, hf⟩
  · rw [e]; exact I.funs
  · rw [e]
    obtain ⟨m, hn, _⟩ := I.loc
    refine .cons (by rw [I.ok.kind]; decide) hf hn ?_ I.funs
    exact Heap.get?_none_of_le (Nat.le_trans I.ok.bsz I.ok.above)
theorem Inv.stkSub (I : Inv X pins σ H s) : ∀ b ∈ frs X.stack, b ∈ X.env.locals :: X.fs := fun b hb => by
  rcases I.ok.stk with e | ⟨e, hf⟩
  · rw [e] at hb; exact List.mem_cons_of_mem _ hb
  · rw [e] at hb
    unfold frs at hb
    rw [List.filterMap_cons, hf] at hb
    exact hb
theorem Inv.stkFree (I : Inv X pins σ H s) : ∀ b ∈ frs X.stack, H b = none := fun b hb => by
  rcases List.mem_cons.mp (I.stkSub b hb) with e | hb
  · rw [e]; exact I.free
  · obtain ⟨_, o, ho, _⟩ := I.ok.funs.mem hb
    exact I.base.free b o ho (I.ok.frf b hb) fun z => I.ok.exfs b z hb
theorem Inv.step {g' : Array GenState} {t' : Nat} {d' : Drawn} {ch : List Addr} (I : Inv X pins σ H s)
    (hch : ∀ b ∈ ch, (b ∈ X.ex ∨ X.s₀.heap.objs.size ≤ b) ∧ b ≠ X.env.locals ∧ (∀ x c, X.env.cells.lookup x = some c → c ≠ b) ∧ ∀ p ∈ X.pn ++ pins, p.1 ≠ b)
    (keep : ∀ b o, b ≠ X.env.locals → b ∉ X.fs → b ∉ ch → s.heap.get? b = some o → H b = none → h'.get? b = some o)
    (slot : ∀ b o, b ≠ X.env.locals → b ∈ X.fs → b ∉ ch → s.heap.get? b = some o → H b = none → ∃ sl, h'.get? b = some { o with slots := sl }) (free : ∀ b o, b ∉ ch → s.heap.get? b = some o → H b = none → H' b = none)
    (there : ∀ b o, b ∉ ch → s.heap.get? b = some o → ∃ o', h'.get? b = some o')
    (tups : ∀ b xs, H b = some (.tup xs) → H' b = some (.tup xs)) (frzs : ∀ b o u, H b = some (.frz o u) → H' b = some (.frz o u)) (tbls : ∀ b ps, H b = some (.tbl ps) → ∃ more, H' b = some (.tbl (ps ++ more)))
    (ns : ∀ m, s.heap.Ns X.env.locals m → h'.Ns X.env.locals m) (hok : HOk X.prog X.w H' h') (hg : AllBare g') :
    Inv X pins σ H' { s with heap := h', gens := g', drawn := d', toks := t' } := by
  have neL : ∀ b o, X.s₀.heap.get? b = some o → b ≠ X.env.locals := fun b o e => Nat.ne_of_lt (Nat.lt_of_lt_of_le (Heap.lt_size e) I.ok.above)
  have neC : ∀ b o, X.s₀.heap.get? b = some o → b ∉ X.ex → b ∉ ch := fun b o e hx hb => by
    rcases (hch b hb).1 with z | z
    · exact hx z
    · exact absurd (Nat.lt_of_lt_of_le (Heap.lt_size e) z) (Nat.lt_irrefl _)
  have cellK : ∀ x c, X.env.cells.lookup x = some c → ∀ v, s.heap.IsCell c v → h'.IsCell c v := fun x c e v ⟨o, ho, hd⟩ => by
    have nch : c ∉ ch := fun z => (hch c z).2.2.1 x c e rfl
    by_cases hc : c ∈ X.fs
    · obtain ⟨sl, q⟩ := slot c o (I.cne x c e) hc nch ho (I.freeC x c e)
      exact ⟨_, q, hd⟩
    · exact ⟨o, keep c o (I.cne x c e) hc nch ho (I.freeC x c e), hd⟩
  refine ⟨I.ok, I.os, hg, ⟨fun b o e n hb hx => ?_, fun b o e n hb hx => ?_, fun b o e n hx => ?_, fun b o e hx => ?_, fun b xs e => tups b xs (I.base.tups b xs e), fun b o xs e => frzs b o xs (I.base.frzs b o xs e), fun b ps e => ?_⟩, ?_, fun x c e => ?_, ?_, fun x c e => ?_, fun p hp => ?_, hok, I.len⟩
  · exact keep b o (neL b o e) hb (neC b o e hx) (I.base.keep b o e n hb hx) (I.base.free b o e n hx)
  · obtain ⟨sl, e1⟩ := I.base.slot b o e n hb hx
    obtain ⟨sl', e2⟩ := slot b _ (neL b o e) hb (neC b o e hx) e1 (I.base.free b o e n hx)
    exact ⟨sl', e2⟩
  · obtain ⟨o', e1⟩ := I.base.there b o e hx
    exact free b o' (neC b o e hx) e1 (I.base.free b o e n hx)
  · obtain ⟨o', e1⟩ := I.base.there b o e hx
    exact there b o' (neC b o e hx) e1
  · obtain ⟨m1, e1⟩ := I.base.tbls b ps e
    obtain ⟨m2, e2⟩ := tbls b _ e1
    exact ⟨m1 ++ m2, by rw [e2, Array.append_assoc]⟩
  · obtain ⟨m, hn, hl⟩ := I.loc
    refine ⟨m, ns m hn, fun i x v e1 e2 e3 => ?_⟩
    obtain ⟨u, r, l⟩ := hl i x v e1 e2 e3
    refine ⟨u, r, ?_⟩
    rcases l with l | ⟨k, c, e, z⟩
    · exact .inl l
    · exact .inr ⟨k, c, e, cellK x c e _ z⟩
  · obtain ⟨v, z⟩ := I.cell x c e
    exact ⟨v, cellK x c e v z⟩
  · obtain ⟨m, ⟨o, _, _, ho, _⟩, _⟩ := I.loc
    exact free _ o (fun z => (hch _ z).2.1 rfl) ho I.free
  · obtain ⟨v, o, ho, hd⟩ := I.cell x c e
    exact free c o (fun z => (hch c z).2.2.1 x c e rfl) ho (I.freeC x c e)
  · obtain ⟨e, n, ne, nf, d⟩ := I.pin p hp
    have nch : p.1 ∉ ch := fun z => (hch p.1 z).2.2.2 p hp rfl
    exact ⟨keep p.1 p.2 ne nf nch e n, free p.1 p.2 nch e n, ne, nf, d⟩
theorem Inv.un {t' : Nat} (I : Inv X pins σ H s) (u : Un X.fs [] H H' s.heap h') (hok : HOk X.prog X.w H' h') : Inv X pins σ H' { s with heap := h', toks := t' } := by
  obtain ⟨m, ⟨o, es, ep, ho, r⟩, _⟩ := id I.loc
  obtain ⟨sl, hL⟩ := u.any ho I.free (by simp)
  exact I.step (g' := s.gens) (d' := s.drawn) (ch := []) (fun _ z => nomatch z) (fun b o _ hb _ e n => u.keep b o e n hb (by simp)) (fun b o _ hb _ e n => u.slot b o e n hb (by simp)) (fun b o _ e n => u.free b o e n (by simp)) (fun b o _ e => u.there b o e (by simp)) u.tups u.frzs u.tbls (fun m' hm => by
    obtain ⟨o', es', ep', ho', r'⟩ := hm
    rw [ho] at ho'; cases ho'
    exact ⟨_, es', ep', hL, r'⟩) hok I.bare
theorem Inv.call {g' : Array GenState} {t' : Nat} {d' : Drawn} {ch : List Addr} (I : Inv X pins σ H s) (u : Un (frs X.stack) ch H H' s.heap h') (hok : HOk X.prog X.w H' h') (hg : AllBare g')
    (hch : ∀ b ∈ ch, (b ∈ X.ex ∨ X.s₀.heap.objs.size ≤ b) ∧ b ≠ X.env.locals ∧ (∀ x c, X.env.cells.lookup x = some c → c ≠ b) ∧ ∀ p ∈ X.pn ++ pins, p.1 ≠ b) :
    Inv X pins σ H' { s with heap := h', gens := g', drawn := d', toks := t' } := by
  obtain ⟨m, ⟨o, es, ep, ho, r⟩, _⟩ := id I.loc
  obtain ⟨sl, hL⟩ := u.any ho I.free fun z => (hch _ z).2.1 rfl
  exact I.step (ch := ch) hch (fun b o hL hb hc e n => u.keep b o e n (fun z => (List.mem_cons.mp (I.stkSub b z)).elim hL hb) hc) (fun b o _ _ hc e n => u.any e n hc) (fun b o hc e n => u.free b o e n hc) (fun b o hc e => u.there b o e hc) u.tups u.frzs u.tbls (fun m' hm => by
    obtain ⟨o', es', ep', ho', r'⟩ := hm
    rw [ho] at ho'; cases ho'
    exact ⟨_, es', ep', hL, r'⟩) hok hg
theorem Inv.turned {t' : Nat} {it : Addr} (I : Inv X pins σ H s) (k : ∀ b o, b ≠ it → s.heap.get? b = some o → h'.get? b = some o) (hn : H it = none) (hL : it ≠ X.env.locals)
    (h1 : it ∈ X.ex ∨ X.s₀.heap.objs.size ≤ it) (h2 : ∀ x c, X.env.cells.lookup x = some c → c ≠ it) (h3 : ∀ p ∈ X.pn ++ pins, p.1 ≠ it) : Inv X pins σ H { s with heap := h', toks := t' } := by
  have nit : ∀ b u, H b = some u → b ≠ it := fun b u e z => by rw [z, hn] at e; cases e
  refine I.step (g' := s.gens) (d' := s.drawn) (ch := [it]) (fun b hb => ?_) (fun b o _ _ hc e _ => k b o (fun z => hc (by simp [z])) e) (fun b o _ _ hc e _ => ⟨o.slots, k b o (fun z => hc (by simp [z])) e⟩) (fun _ _ _ _ n => n)
    (fun b o hc e => ⟨o, k b o (fun z => hc (by simp [z])) e⟩) (fun _ _ e => e) (fun _ _ _ e => e) (fun b ps e => ⟨#[], by rw [e]; simp⟩) (fun m hm => ?_) (fun b u e => ?_) I.bare
  · have e : b = it := by simpa using hb
    subst e
    exact ⟨h1, hL, h2, h3⟩
  · obtain ⟨o, es, ep, ho, r⟩ := hm
    exact ⟨o, es, ep, k _ o (Ne.symm hL) ho, r⟩
  · refine (I.hok b u e).stay (fun c v hc q => k c v ?_ q) (fun _ q => q) fun _ _ q => q
    rcases hc with z | z
    · rw [z]; exact nit b u e
    · exact nit c _ z
theorem Inv.tok (I : Inv X pins σ H s) (t : Nat) : Inv X pins σ H { s with toks := t } := I.un (h' := s.heap) (t' := t) Un.refl I.hok
theorem Inv.kept {t' : Nat} (I : Inv X pins σ H s) (k : ∀ b u, s.heap.get? b = some u → h'.get? b = some u) : Inv X pins σ H { s with heap := h', toks := t' } := I.un (Un.kept k) (I.hok.kept k)
theorem Inv.laid {a : Addr} {o : HO} {t' : Nat} (I : Inv X pins σ H s) (k : ∀ b u, s.heap.get? b = some u → h'.get? b = some u) (hp : s.heap.objs.size ≤ a) (new : ObjOk X.prog X.w (upd H a o) h' a o) :
    Inv X pins σ (upd H a o) { s with heap := h', toks := t' } := I.un (Un.laid k hp (I.hok.fresh hp)) (I.hok.laid k hp new)
theorem Inv.write {x e : Addr} {o : HO} {t' : Nat} (I : Inv X pins σ H s) (mu : Mut (H x)) (he : e = x ∨ H e = some (.own x)) (k : ∀ b u, b ≠ e → s.heap.get? b = some u → h'.get? b = some u) (heo : ∃ u, h'.get? e = some u)
    (new : ObjOk X.prog X.w (upd H x o) h' x o) : Inv X pins σ (upd H x o) { s with heap := h', toks := t' } := I.un (Un.write mu he k heo) (I.hok.write mu he k heo new)
theorem Inv.pins_of {pins' : List (Addr × Obj)} (I : Inv X pins σ H s) (h : ∀ p ∈ pins', s.heap.get? p.1 = some p.2 ∧ H p.1 = none ∧ p.1 ≠ X.env.locals ∧ p.1 ∉ X.fs ∧ ∀ v, p.2.data ≠ .cell v) : Inv X pins' σ H s :=
  ⟨I.ok, I.os, I.bare, I.base, I.loc, I.cell, I.free, I.freeC, fun p hp => (List.mem_append.mp hp).elim (fun z => I.pin p (List.mem_append_left _ z)) (h p), I.hok, I.len⟩
theorem nodup_ix {N : List Str} (hN : N.Nodup) {i j : Nat} {x : Str} (a : N[i]? = some x) (b : N[j]? = some x) : i = j := by
  obtain ⟨h1, e1⟩ := List.getElem?_eq_some_iff.mp a
  obtain ⟨h2, e2⟩ := List.getElem?_eq_some_iff.mp b
  exact (List.getElem_inj hN).mp (e1.trans e2.symm)
theorem store_ok2 {M : Model} {A : Around} {E : Value → Shared → Prop} {i : Nat} {x : Str} {v : V} {u : Value} {Q : Unit → Shared → Prop} (I : Inv X pins σ H s) (hN : X.N.Nodup) (hi : X.N[i]? = some x) (hx : Loc X.env.scope x) (r : RelV v u)
    (h : ∀ s', Inv X pins (σ.set i (some v)) H s' → (∃ a, Heap.SameBut a s.heap s'.heap ∧ (a = X.env.locals ∨ X.env.cells.lookup x = some a)) → Q () s') (hf : X.fn x = true ∨ X.env.scope.names.lookup x = some .local := by first | exact .inl rfl | exact .inr rfl | assumption) : wpAny M A (storeName X.env x u) Q E s := by
  obtain ⟨m, hn, hl⟩ := id I.loc
  have hcls : (X.env.scope.kind == .class || (X.env.scope.kind == .module && X.env.locals != X.env.globals)) = false := by rw [I.ok.kind]; rfl
  have hiσ : i < σ.length := by rw [I.len]; exact (List.getElem?_eq_some_iff.mp hi).1
  have cne := I.cne
  have tracked : ∀ {a : Addr} {h' : Heap}, (∃ o, s.heap.get? a = some o ∧ H a = none) → Heap.SameBut a s.heap h' → HOk X.prog X.w H h' := fun {a h'} ha hs b ob e => by
    obtain ⟨_, _, hfree⟩ := ha
    refine (I.hok b ob e).stay (fun c w' hc q => (hs.2 c ?_).trans q) (fun _ q => q) fun _ _ q => q
    rintro rfl
    rcases hc with rfl | hc
    · rw [hfree] at e; cases e
    · rw [hfree] at hc; cases hc
  rcases hx with hk | hk
  · refine wpAny_storeName_local hk hn (fun h' hn' hs => ?_) hcls
    obtain ⟨oL, _, _, hoL, _⟩ := id hn
    refine h _ ⟨I.ok, I.os, I.bare, ⟨fun b o e n hb hx => ?_, fun b o e n hb hx => ?_, I.base.free, fun b o e hx => ?_, I.base.tups, I.base.frzs, I.base.tbls⟩, ⟨_, hn', fun j y v' e1 e2 e3 => ?_⟩, fun y c e => ?_, I.free, I.freeC, fun p hp => ?_, tracked ⟨oL, hoL, I.free⟩ hs, by simpa using I.len⟩ ⟨_, hs, .inl rfl⟩
    · exact (hs.2 b (Nat.ne_of_lt (Nat.lt_of_lt_of_le (Heap.lt_size e) I.ok.above))).trans (I.base.keep b o e n hb hx)
    · obtain ⟨sl, e1⟩ := I.base.slot b o e n hb hx
      exact ⟨sl, (hs.2 b (Nat.ne_of_lt (Nat.lt_of_lt_of_le (Heap.lt_size e) I.ok.above))).trans e1⟩
    · obtain ⟨o', e1⟩ := I.base.there b o e hx
      exact ⟨o', (hs.2 b (Nat.ne_of_lt (Nat.lt_of_lt_of_le (Heap.lt_size e) I.ok.above))).trans e1⟩
    · by_cases hj : j = i
      · subst hj
        rw [hi] at e1; cases e1
        rw [List.getElem?_set_self hiσ] at e2
        cases e2
        exact ⟨u, r, .inl ⟨hk, by simp⟩⟩
      · rw [List.getElem?_set_ne (Ne.symm hj)] at e2
        obtain ⟨u', r', q⟩ := hl j y v' e1 e2 e3
        refine ⟨u', r', ?_⟩
        rcases q with ⟨k, e⟩ | ⟨k, c, e, z⟩
        · refine .inl ⟨k, ?_⟩
          have : y ≠ x := fun e => hj (nodup_ix hN e1 (e ▸ hi))
          simp [this, e]
        · exact .inr ⟨k, c, e, z.sameBut hs (cne y c e)⟩
    · obtain ⟨w', z⟩ := I.cell y c e
      exact ⟨w', z.sameBut hs (cne y c e)⟩
    · obtain ⟨e, n, ne, nf, d⟩ := I.pin p hp
      exact ⟨(hs.2 p.1 ne).trans e, n, ne, nf, d⟩
  · have hfn : X.fn x = true := by
      rcases hf with z | z
      · exact z
      · rw [z] at hk; cases hk
    obtain ⟨c, hc⟩ := I.ok.has x (.inl hk)
    obtain ⟨w', z⟩ := I.cell x c hc
    refine wpAny_storeName_cell I.ok.kind hk hc z (fun h' hc' hs => ?_)
    obtain ⟨oc, hoc, hocd⟩ := id z
    refine h { s with heap := h' } ⟨I.ok, I.os, I.bare, ⟨fun b o e n hb hx => ?_, fun b o e n hb hx => ?_, I.base.free, fun b o e hx => ?_, I.base.tups, I.base.frzs, I.base.tbls⟩, ⟨m, hn.sameBut hs (Ne.symm (cne x c hc)), fun j y v' e1 e2 e3 => ?_⟩, fun y c' e => ?_, I.free, I.freeC, fun p hp => ?_, tracked ⟨oc, hoc, I.freeC x c hc⟩ hs, by simpa using I.len⟩ ⟨c, hs, .inr hc⟩
    · exact (hs.2 b (Nat.ne_of_lt (Nat.lt_of_lt_of_le (Heap.lt_size e) (I.ok.cab x c hfn hc)))).trans (I.base.keep b o e n hb hx)
    · obtain ⟨sl, e1⟩ := I.base.slot b o e n hb hx
      exact ⟨sl, (hs.2 b (Nat.ne_of_lt (Nat.lt_of_lt_of_le (Heap.lt_size e) (I.ok.cab x c hfn hc)))).trans e1⟩
    · obtain ⟨o', e1⟩ := I.base.there b o e hx
      exact ⟨o', (hs.2 b (Nat.ne_of_lt (Nat.lt_of_lt_of_le (Heap.lt_size e) (I.ok.cab x c hfn hc)))).trans e1⟩
    · by_cases hj : j = i
      · subst hj
        rw [hi] at e1; cases e1
        rw [List.getElem?_set_self hiσ] at e2
        cases e2
        exact ⟨u, r, .inr ⟨.inl hk, c, hc, hc'⟩⟩
      · rw [List.getElem?_set_ne (Ne.symm hj)] at e2
        obtain ⟨u', r', q⟩ := hl j y v' e1 e2 e3
        refine ⟨u', r', ?_⟩
        rcases q with q | ⟨k, c', e, z'⟩
        · exact .inl q
        · refine .inr ⟨k, c', e, z'.sameBut hs ?_⟩
          rintro rfl
          exact hj (nodup_ix hN e1 (I.ok.inj _ _ _ e hc ▸ hi))
    · by_cases hcc : c' = c
      · subst hcc; exact ⟨_, hc'⟩
      · obtain ⟨w2, z2⟩ := I.cell y c' e
        exact ⟨w2, z2.sameBut hs hcc⟩
    · obtain ⟨e, n, ne, nf, d⟩ := I.pin p hp
      refine ⟨(hs.2 p.1 ?_).trans e, n, ne, nf, d⟩
      intro q
      rw [q, hoc] at e
      have q' : oc = p.2 := Option.some.inj e
      exact d w' (by rw [← q']; exact hocd)
theorem store_ok {M : Model} {A : Around} {E : Value → Shared → Prop} {i : Nat} {x : Str} {v : V} {u : Value} {Q : Unit → Shared → Prop} (I : Inv X pins σ H s) (hN : X.N.Nodup) (hi : X.N[i]? = some x) (hx : Loc X.env.scope x) (r : RelV v u)
    (h : ∀ s', Inv X pins (σ.set i (some v)) H s' → Q () s') (hf : X.fn x = true ∨ X.env.scope.names.lookup x = some .local := by first | exact .inl rfl | exact .inr rfl | assumption) : wpAny M A (storeName X.env x u) Q E s :=
  store_ok2 I hN hi hx r (fun s' I' _ => h s' I') hf
theorem Inv.call' {s' : Shared} {ch : List Addr} (I : Inv X pins σ H s) (ho : s'.os = s.os) (u : Un (frs X.stack) ch H H' s.heap s'.heap) (hok : HOk X.prog X.w H' s'.heap) (hg : AllBare s'.gens)
    (hch : ∀ b ∈ ch, (b ∈ X.ex ∨ X.s₀.heap.objs.size ≤ b) ∧ b ≠ X.env.locals ∧ (∀ x c, X.env.cells.lookup x = some c → c ≠ b) ∧ ∀ p ∈ X.pn ++ pins, p.1 ≠ b) : Inv X pins σ H' s' := by
  obtain ⟨h', g', d', t', o'⟩ := s'
  have e : o' = s.os := ho
  subst e
  exact I.call (g' := g') (t' := t') (d' := d') u hok hg hch
end
abbrev XK := Value → Option Addr → Hp → Prop
abbrev St := List (Option V)
abbrev VK := V → Hp → Prop
abbrev TE := St → Hp → VK → Prop
abbrev TT := St → Hp → (Bool → Hp → Prop) → Prop
abbrev TA := St → Hp → (List V → Hp → Prop) → Prop
structure Ends where
  nx : St → Hp → Prop
  rt : VK
  bk : St → Hp → Prop := fun _ _ => False
  ct : St → Hp → Prop := fun _ _ => False
abbrev TS := Ends → St → Hp → Prop
def EP (X : Cx) (pins : List (Addr × Obj)) (σ : St) (Q : VK) (u : Value) (s' : Shared) : Prop := ∃ v H', Inv X pins σ H' s' ∧ RelV v u ∧ Q v H'
def TP (X : Cx) (pins : List (Addr × Obj)) (σ : St) (Q : Bool → Hp → Prop) (b : Bool) (s' : Shared) : Prop := ∃ H', Inv X pins σ H' s' ∧ Q b H'
def AP (X : Cx) (pins : List (Addr × Obj)) (σ : St) (Q : List V → Hp → Prop) (us : List Value) (s' : Shared) : Prop := ∃ vs H', Inv X pins σ H' s' ∧ Vals vs us ∧ Q vs H'
def SP (X : Cx) (pins : List (Addr × Obj)) (D : Ends) (f : Flow) (s' : Shared) : Prop :=
  match f with
  | .next => ∃ σ' H', Inv X pins σ' H' s' ∧ D.nx σ' H'
  | .brk => ∃ σ' H', Inv X pins σ' H' s' ∧ D.bk σ' H'
  | .cont => ∃ σ' H', Inv X pins σ' H' s' ∧ D.ct σ' H'
  | .ret u => ∃ v σ' H', Inv X pins σ' H' s' ∧ RelV v u ∧ D.rt v H'
def PE (X : Cx) (e : Expr) (t : TE) : Prop :=
  ∀ (pins : List (Addr × Obj)) (s : Shared) (σ : St) (H : Hp) (Q : VK), Inv X pins σ H s → t σ H Q → wpAny (model X.prog X.w) X.A (eval e X.env) (EP X pins σ Q) X.xe s
def PT (X : Cx) (e : Expr) (t : TT) : Prop :=
  ∀ (pins : List (Addr × Obj)) (s : Shared) (σ : St) (H : Hp) (Q : Bool → Hp → Prop), Inv X pins σ H s → t σ H Q → wpAny (model X.prog X.w) X.A (isTrue e X.env (eval e X.env)) (TP X pins σ Q) X.xe s
def PW (X : Cx) (e : Expr) (t : TT) : Prop :=
  ∀ (whole : Sem Value) (pins : List (Addr × Obj)) (s : Shared) (σ : St) (H : Hp) (Q : Bool → Hp → Prop), Inv X pins σ H s → t σ H Q → wpAny (model X.prog X.w) X.A (isTrue e X.env whole) (TP X pins σ Q) X.xe s
theorem PW.pt {X : Cx} {e : Expr} {t : TT} (h : PW X e t) : PT X e t := h _
def PA (X : Cx) (es : List Expr) (t : TA) : Prop :=
  ∀ (pos : Pos) (pins : List (Addr × Obj)) (s : Shared) (σ : St) (H : Hp) (Q : List V → Hp → Prop), Inv X pins σ H s → t σ H Q → wpAny (model X.prog X.w) X.A (spliced (backTo pos (starEach es X.env))) (AP X pins σ Q) X.xe s
def PS (X : Cx) (st : Stmt) (t : TS) : Prop :=
  ∀ (pins : List (Addr × Obj)) (s : Shared) (σ : St) (H : Hp) (D : Ends), Inv X pins σ H s → t D σ H → wpAny (model X.prog X.w) X.A (exec st X.env) (SP X pins D) X.xe s
def PSs (X : Cx) (st : List Stmt) (t : TS) : Prop :=
  ∀ (pins : List (Addr × Obj)) (s : Shared) (σ : St) (H : Hp) (D : Ends), Inv X pins σ H s → t D σ H → wpAny (model X.prog X.w) X.A (execs st X.env) (SP X pins D) X.xe s
theorem thn {α : Type} {t : Sem α} {Q Q' : α → Shared → Prop} {M : Model} {A : Around} {E : Value → Shared → Prop} {s : Shared} (h : wpAny M A t Q E s) (hQ : ∀ a s, Q a s → Q' a s) : wpAny M A t Q' E s := wpAny_mono h hQ fun _ _ x => x
end L2
namespace L2
open PySem PySem.Spec PyProof.Rows
section
variable {X : Cx}
def tVar (i : Nat) : TE := fun σ H Q => ∃ v, σ[i]? = some (some v) ∧ Q v H
def tC (v : V) : TE := fun _ H Q => Q v H
theorem pe_var {i : Nat} {x : Str} {pos : Pos} (hN : X.N[i]? = some x) (hv : Vis X.env.scope x) (hd : (x == ("__debug__" : Str)) = false := by decide) (hcd : (x == ("__classdict__" : Str)) = false := by decide) : PE X (.Name x pos) (tVar i) := by
  intro pins s σ H Q I h
  obtain ⟨v, e, h⟩ := h
  obtain ⟨m, hn, hl⟩ := I.loc
  obtain ⟨u, r, l⟩ := hl i x v hN e hv
  have fin : EP X pins σ Q u s := ⟨v, H, I, r, h⟩
  rcases l with ⟨hk, hm⟩ | ⟨hk, c, hc, hcell⟩
  · exact wpAny_Name (wpAny_loadName_local I.ok.kind hk hn hm fin) hd
  · rcases hk with hk | hk
    · exact wpAny_Name (wpAny_loadName_cell I.ok.kind hk hc hcell fin) hd
    · exact wpAny_Name (wpAny_loadName_free I.ok.kind hk hc hcell fin hcd) hd
theorem pe_int {i j pos} : PE X (.Constant (.int i) j pos) (tC (.int i)) := fun _ _ _ H _ I h => wpAny_Constant_int ⟨.int i, H, I.tok _, ⟨_, rfl⟩, h⟩
theorem pe_bl {b j pos} : PE X (.Constant (.bool b) j pos) (tC (.bl b)) := fun _ _ _ H _ I h => Constant_bool ⟨.bl b, H, I, rfl, h⟩
theorem pe_str {x j pos} : PE X (.Constant (.str x) j pos) (tC (.str x)) := fun _ _ _ H _ I h => Calls.Constant_str ⟨.str x, H, I.tok _, ⟨_, rfl⟩, h⟩
def Gl (X : Cx) (x : Str) : Prop := X.env.kindOf x = some .globalImplicit
theorem ld_glob {E : Value → Shared → Prop} {pins : List (Addr × Obj)} {s : Shared} {σ : St} {H : Hp} {x : Str} {u : Value} {pos : Pos} {Q : Value → Shared → Prop} (I : Inv X pins σ H s) (hg : Gl X x) (hm : X.mg x = some u) (h : Q u s)
    (hd : (x == ("__debug__" : Str)) = false := by decide) : wpAny (model X.prog X.w) X.A (eval (.Name x pos) X.env) Q E s :=
  Calls.Name_function_global I.ok.kind hg (Calls.loadGlobal_global (by rw [I.ok.glob]; exact I.mod.glob.keeps I.bk) hm h) hd
theorem ld_blt {E : Value → Shared → Prop} {pins : List (Addr × Obj)} {s : Shared} {σ : St} {H : Hp} {x : Str} {u : Value} {pos : Pos} {Q : Value → Shared → Prop} (I : Inv X pins σ H s) (hg : Gl X x) (hm : X.mg x = none) (hv : bootBuiltins x = some u) (h : Q u s)
    (hn : x ≠ "__name__" := by decide) (hd : (x == ("__debug__" : Str)) = false := by decide) : wpAny (model X.prog X.w) X.A (eval (.Name x pos) X.env) Q E s := by
  obtain ⟨mb, h1, h2⟩ := I.mod.blt
  exact Calls.Name_function_global I.ok.kind hg (Calls.loadGlobal_builtin (by rw [I.ok.glob]; exact I.mod.glob.keeps I.bk) hm (by rw [I.ok.blt]; exact h1.keeps I.bk) ((h2 x hn).trans hv) h) hd
theorem pe_glob {x : Str} {v : V} {u : Value} {pos : Pos} (hg : Gl X x) (hm : X.mg x = some u) (r : RelV v u) (hd : (x == ("__debug__" : Str)) = false := by decide) : PE X (.Name x pos) (tC v) :=
  fun _ _ _ H _ I h => ld_glob I hg hm ⟨v, H, I, r, h⟩ hd
theorem pe_bltn {x : Str} {v : V} {u : Value} {pos : Pos} (hg : Gl X x) (hm : X.mg x = none) (hv : bootBuiltins x = some u) (r : RelV v u) (hn : x ≠ "__name__" := by decide) (hd : (x == ("__debug__" : Str)) = false := by decide) : PE X (.Name x pos) (tC v) :=
  fun _ _ _ H _ I h => ld_blt I hg hm hv ⟨v, H, I, r, h⟩ hn hd
variable {a b : Expr} {ta tb : TE} {pos : Pos}
def tB (t : TE) : TT := fun σ H Q => t σ H fun x H1 => ∃ c, x = .bl c ∧ Q c H1
theorem pt_val {e : Expr} {t : TE} (h : PE X e t) (he : ∀ whole, isTrue e X.env whole = (do let v ← whole; standAt e.pos; holding [v] (truthy v)) := by intro _; rfl) : PT X e (tB t) := by
  intro pins s σ H Q I hw
  refine isTrue_plain (thn (h pins s σ H _ I hw) fun v s1 ⟨x, H1, I1, r1, q1⟩ => ?_) (he _)
  obtain ⟨d, rfl, q⟩ := q1
  cases r1
  exact wpAny_truthy_bool ⟨H1, I1, q⟩
variable {tA tB' : TT} {rest : List Expr}
def tAnd (t u : TT) : TT := fun σ H Q => t σ H fun c H1 => if c = true then u σ H1 Q else Q false H1
def tOr (t u : TT) : TT := fun σ H Q => t σ H fun c H1 => if c = true then Q true H1 else u σ H1 Q
def tNot (t : TT) : TT := fun σ H Q => t σ H fun c H1 => Q (!c) H1
theorem pw_and1 (ha : PT X a tA) : PW X (.BoolOp .And [a] pos) tA := by
  intro wh pins s σ H Q I h
  refine isTrue_and (thn (ha pins s σ H Q I h) fun c s1 e => ?_)
  cases c with
  | true => exact isTrue_and_nil e
  | false => exact e
theorem pw_or1 (ha : PT X a tA) : PW X (.BoolOp .Or [a] pos) tA := by
  intro wh pins s σ H Q I h
  refine isTrue_or (thn (ha pins s σ H Q I h) fun c s1 e => ?_)
  cases c with
  | false => exact isTrue_or_nil e
  | true => exact e
theorem pw_and (ha : PT X a tA) (hb : PW X (.BoolOp .And (b :: rest) pos) tB') : PW X (.BoolOp .And (a :: b :: rest) pos) (tAnd tA tB') := by
  intro wh pins s σ H Q I h
  refine isTrue_and (thn (ha pins s σ H _ I h) fun c s1 ⟨H1, I1, q1⟩ => ?_)
  cases c with
  | true => exact hb wh pins s1 σ H1 Q I1 q1
  | false => exact ⟨H1, I1, q1⟩
theorem pw_or (ha : PT X a tA) (hb : PW X (.BoolOp .Or (b :: rest) pos) tB') : PW X (.BoolOp .Or (a :: b :: rest) pos) (tOr tA tB') := by
  intro wh pins s σ H Q I h
  refine isTrue_or (thn (ha pins s σ H _ I h) fun c s1 ⟨H1, I1, q1⟩ => ?_)
  cases c with
  | true => exact ⟨H1, I1, q1⟩
  | false => exact hb wh pins s1 σ H1 Q I1 q1
theorem pt_not (ha : PT X a tA) : PT X (.UnaryOp .Not a pos) (tNot tA) := by
  intro pins s σ H Q I h
  exact isTrue_not (ha pins s σ H (fun c H1 => Q (!c) H1) I h)
def tAndV (ta tb : TE) : TE := fun σ H Q => ta σ H fun x H1 => ∃ c, x = .bl c ∧ if c = true then tb σ H1 Q else Q (.bl false) H1
def tOrV (ta tb : TE) : TE := fun σ H Q => ta σ H fun x H1 => ∃ c, x = .bl c ∧ if c = true then Q (.bl true) H1 else tb σ H1 Q
def tNotV (ta : TE) : TE := fun σ H Q => ta σ H fun x H1 => ∃ c, x = .bl c ∧ Q (.bl (!c)) H1
def tIf (t : TT) (ta tb : TE) : TE := fun σ H Q => t σ H fun c H1 => if c = true then ta σ H1 Q else tb σ H1 Q
end
end L2
namespace L2
open PySem PySem.Spec PyProof.Rows
def SqL (K : PySem.W.Frag) (H : Hp) (a : Addr) (xs : List V) : Prop :=
  Rd H a (.lst xs) ∨
    ∃ (o : Obj) (its : Array Value) (n : Nat), K.lookup a = some o ∧ o.cls = .type "list" ∧ o.dict = none ∧ o.data = .seq its n ∧ its.size ≤ sizeLine ∧ Vals xs its.toList
def SqT (K : PySem.W.Frag) (H : Hp) (a : Addr) (xs : List V) : Prop :=
  Rd H a (.tup xs) ∨
    ∃ (o : Obj) (its : Array Value) (n : Nat), K.lookup a = some o ∧ o.cls = .type "tuple" ∧ o.data = .seq its n ∧ its.size ≤ sizeLine ∧ Vals xs its.toList
def absV : Value → Option V
  | .none => some .non
  | .bool b => some (.bl b)
  | .int i _ => some (.int i)
  | .str x _ => some (.str x)
  | .bytes b _ => some (.byt b)
  | .float b _ => some (.flt b)
  | .ref a => some (.ref a)
  | .type n => some (.ty n)
  | _ => none
theorem RelV.abs {x : V} {u : Value} (r : RelV x u) : absV u = some x := by
  cases x with
  | non => cases r; rfl
  | bl _ => cases r; rfl
  | int _ => obtain ⟨t, rfl⟩ := r; rfl
  | str _ => obtain ⟨t, rfl⟩ := r; rfl
  | byt _ => obtain ⟨t, rfl⟩ := r; rfl
  | flt _ => obtain ⟨t, rfl⟩ := r; rfl
  | ref _ => cases r; rfl
  | ty _ => cases r; rfl
theorem RelV.inj {x y : V} {u : Value} (r : RelV x u) (q : RelV y u) : x = y := Option.some.inj (r.abs.symm.trans q.abs)
theorem Vals.inj : ∀ {xs ys : List V} {us : List Value}, Vals xs us → Vals ys us → xs = ys
  | _, _, _, .nil, .nil => rfl
  | _, _, _, .cons r t, .cons r' t' => by rw [r.inj r', Vals.inj t t']
section
variable {X : Cx} {pins : List (Addr × Obj)} {σ : St} {H : Hp} {s : Shared} {a : Addr} {xs ys : List V}
theorem SqL.of {K : PySem.W.Frag} (h : H a = some (.lst xs)) : SqL K H a xs := .inl (.inl h)
theorem SqT.of {K : PySem.W.Frag} (h : H a = some (.tup xs)) : SqT K H a xs := .inl (.inl h)
theorem Inv.list (I : Inv X pins σ H s) (h : SqL X.K H a xs) : ∃ its : List Value, Vals xs its ∧ PlainL s.heap a its.toArray ∧ xs.length ≤ sizeLine := by
  rcases h with h | ⟨o, its, n, hk, hc, hd, hs, hz, r⟩
  · obtain ⟨z, its, n, r, e⟩ := h.ok I.hok
    exact ⟨its, r, ⟨_, n, e, rfl, rfl, rfl⟩, z⟩
  · refine ⟨its.toList, r, ⟨o, n, I.kIn a o hk, hc, hd, by simpa using hs⟩, ?_⟩
    have e := r.length
    simp only [Array.length_toList] at e
    omega
theorem Inv.tuple (I : Inv X pins σ H s) (h : SqT X.K H a xs) : ∃ its : List Value, Vals xs its ∧ IsTup s.heap a its.toArray ∧ xs.length ≤ sizeLine := by
  rcases h with h | ⟨o, its, n, hk, hc, hs, hz, r⟩
  · obtain ⟨z, its, r, p⟩ := h.ok I.hok
    exact ⟨its, r, p, z⟩
  · refine ⟨its.toList, r, ⟨o, I.kIn a o hk, hc, n, by simpa using hs⟩, ?_⟩
    have e := r.length
    simp only [Array.length_toList] at e
    omega
theorem Inv.list_inj (I : Inv X pins σ H s) (h : SqL X.K H a xs) (h' : SqL X.K H a ys) : xs = ys := by
  obtain ⟨its, r, ⟨o, n, e, _, _, d⟩, _⟩ := I.list h
  obtain ⟨its', r', ⟨o', n', e', _, _, d'⟩, _⟩ := I.list h'
  rw [e] at e'; cases e'
  rw [d] at d'
  injection d' with d1 _
  have : its = its' := by simpa using congrArg Array.toList d1
  subst this
  exact r.inj r'
theorem Inv.tuple_inj (I : Inv X pins σ H s) (h : SqT X.K H a xs) (h' : SqT X.K H a ys) : xs = ys := by
  obtain ⟨its, r, ⟨o, e, _, n, d⟩, _⟩ := I.tuple h
  obtain ⟨its', r', ⟨o', e', _, n', d'⟩, _⟩ := I.tuple h'
  rw [e] at e'; cases e'
  rw [d] at d'
  injection d' with d1 _
  have : its = its' := by simpa using congrArg Array.toList d1
  subst this
  exact r.inj r'
end
abbrev Cx.wish (X : Cx) (E : Value → Shared → Prop) : Cx := { X with xe := E }
abbrev Cx.nox (X : Cx) : Cx := X.wish fun _ _ => False
theorem Cx.Ok.wish {X : Cx} (ok : X.Ok) (E : Value → Shared → Prop) : (X.wish E).Ok :=
  ⟨ok.mod, ok.kind, ok.glob, ok.blt, ok.above, ok.inj, ok.has, ok.cab, ok.hd, ok.frames, ok.stk, ok.exf, ok.bs, ok.bsz, ok.noex, ok.exfs, ok.funs, ok.frf⟩
theorem Cx.Ok.unwish {X : Cx} {E : Value → Shared → Prop} (ok : (X.wish E).Ok) : X.Ok :=
  ⟨ok.mod, ok.kind, ok.glob, ok.blt, ok.above, ok.inj, ok.has, ok.cab, ok.hd, ok.frames, ok.stk, ok.exf, ok.bs, ok.bsz, ok.noex, ok.exfs, ok.funs, ok.frf⟩
section
variable {X : Cx} {pins : List (Addr × Obj)} {σ : St} {H : Hp} {s : Shared} {E : Value → Shared → Prop}
theorem Inv.wish (I : Inv X pins σ H s) (E : Value → Shared → Prop) : Inv (X.wish E) pins σ H s := ⟨I.ok.wish E, I.os, I.bare, I.base, I.loc, I.cell, I.free, I.freeC, I.pin, I.hok, I.len⟩
theorem Inv.unwish (I : Inv (X.wish E) pins σ H s) : Inv X pins σ H s := ⟨I.ok.unwish, I.os, I.bare, I.base, I.loc, I.cell, I.free, I.freeC, I.pin, I.hok, I.len⟩
theorem SP.unwish {D : Ends} {f : Flow} {s' : Shared} (h : SP (X.wish E) pins D f s') : SP X pins D f s' := by
  cases f with
  | next => obtain ⟨σ', H', I, q⟩ := h; exact ⟨σ', H', I.unwish, q⟩
  | brk => obtain ⟨σ', H', I, q⟩ := h; exact ⟨σ', H', I.unwish, q⟩
  | cont => obtain ⟨σ', H', I, q⟩ := h; exact ⟨σ', H', I.unwish, q⟩
  | ret u => obtain ⟨v, σ', H', I, r, q⟩ := h; exact ⟨v, σ', H', I.unwish, r, q⟩
theorem PE.nox {e : Expr} {t : TE} (h : PE X.nox e t) : PE X e t := fun pins s σ H Q I hw =>
  wpAny_mono (h pins s σ H Q (I.wish _) hw) (fun _ _ ⟨v, H', I', r, q⟩ => ⟨v, H', I'.unwish, r, q⟩) fun _ _ z => False.elim z
theorem PT.nox {e : Expr} {t : TT} (h : PT X.nox e t) : PT X e t := fun pins s σ H Q I hw =>
  wpAny_mono (h pins s σ H Q (I.wish _) hw) (fun _ _ ⟨H', I', q⟩ => ⟨H', I'.unwish, q⟩) fun _ _ z => False.elim z
theorem PSs.nox {st : List Stmt} {t : TS} (h : PSs X.nox st t) : PSs X st t := fun pins s σ H D I hw =>
  wpAny_mono (h pins s σ H D (I.wish _) hw) (fun _ _ q => q.unwish) fun _ _ z => False.elim z
end
section
variable {X : Cx} {st : Stmt} {rest : List Stmt} {t u : TS} {e : Expr} {te : TE} {pos : Pos}
def tNext : TS := fun D σ H => D.nx σ H
def tSeq (t u : TS) : TS := fun D σ H => t { D with nx := u D } σ H
theorem pss_nil : PSs X [] tNext := fun _ _ σ H _ I h => wpAny_execs_nil ⟨σ, H, I, h⟩
theorem pss_cons (h1 : PS X st t) (h2 : PSs X rest u) : PSs X (st :: rest) (tSeq t u) := by
  intro pins s σ H D I h
  refine wpAny_execs_cons (thn (h1 pins s σ H { D with nx := u D } I h) fun f s1 q => ?_)
  cases f with
  | next =>
    obtain ⟨σ', H', I', q⟩ := q
    exact h2 pins s1 σ' H' D I' q
  | ret v => exact q
  | brk => exact q
  | cont => exact q
theorem pss_one (h1 : PS X st t) : PSs X [st] t := by
  intro pins s σ H D I h
  refine wpAny_execs_cons (thn (h1 pins s σ H D I h) fun f s1 q => ?_)
  cases f with
  | next => exact wpAny_execs_nil q
  | ret v => exact q
  | brk => exact q
  | cont => exact q
def tBreak : TS := fun D σ H => D.bk σ H
def tCont : TS := fun D σ H => D.ct σ H
theorem Inv.quiet {pins : List (Addr × Obj)} {σ : St} {H : Hp} {s : Shared} (I : Inv X pins σ H s) : interactive X.env = false := by simp [interactive, I.ok.kind]
def tDrop (te : TE) : TS := fun D σ H => te σ H fun _ H1 => D.nx σ H1
theorem ps_expr (he : PE X e te) (hs : swapsWith e none pos.line X.env = pure false := by rfl) : PS X (.Expr e pos) (tDrop te) := by
  intro pins s σ H D I h
  exact wpAny_Expr_any (thn (he pins s σ H _ I h) fun v s1 ⟨x, H1, I1, r1, q1⟩ => ⟨σ, H1, I1, q1⟩) I.quiet hs
def tRet (te : TE) : TS := fun D σ H => te σ H D.rt
theorem ps_ret (he : PE X e te) : PS X (.Return (some e) pos) (tRet te) := by
  intro pins s σ H D I h
  exact wpAny_Return_some (thn (he pins s σ H _ I h) fun v s1 ⟨x, H1, I1, r1, q1⟩ => ⟨x, σ, H1, I1, r1, q1⟩)
def tRetN : TS := fun D _ H => D.rt .non H
def tIfS (c : TT) (t u : TS) : TS := fun D σ H => c σ H fun b H1 => if b = true then t D σ H1 else u D σ H1
theorem ps_if {c : Expr} {a b : List Stmt} {tc : TT} (hc : PT X c tc) (ha : PSs X a t) (hb : PSs X b u) : PS X (.If c a b pos) (tIfS tc t u) := by
  intro pins s σ H D I h
  refine wpAny_If (thn (hc pins s σ H _ I h) fun d s1 ⟨H1, I1, q1⟩ => ?_)
  cases d with
  | true => exact ha pins s1 σ H1 D I1 q1
  | false => exact hb pins s1 σ H1 D I1 q1
def tNever : TS := fun _ _ _ => False
end
abbrev TG := V → St → Hp → (St → Hp → Prop) → Prop
abbrev TGs := List V → St → Hp → (St → Hp → Prop) → Prop
def PG (X : Cx) (target : Expr) (t : TG) : Prop :=
  ∀ (pins : List (Addr × Obj)) (s : Shared) (σ : St) (H : Hp) (v : V) (u : Value) (Q : St → Hp → Prop), Inv X pins σ H s → RelV v u → t v σ H Q →
    wpAny (model X.prog X.w) X.A (assign target X.env u) (fun _ s' => ∃ σ' H', Inv X pins σ' H' s' ∧ Q σ' H') X.xe s
section
variable {X : Cx} {pos : Pos}
def gName (i : Nat) : TG := fun v σ H Q => Q (σ.set i (some v)) H
theorem pg_name {i : Nat} {x : Str} (hN : X.N.Nodup) (hi : X.N[i]? = some x) (hx : Loc X.env.scope x) (hf : X.fn x = true ∨ X.env.scope.names.lookup x = some .local := by first | exact .inl rfl | exact .inr rfl | assumption) : PG X (.Name x pos) (gName i) := by
  intro pins s σ H v u Q I r h
  exact wpAny_assign_Name (store_ok I hN hi hx r (fun s' I' => ⟨_, H, I', h⟩) hf)
def gNil : TGs := fun vs σ H Q => vs = [] ∧ Q σ H
def gCons (t : TG) (u : TGs) : TGs := fun vs σ H Q => ∃ v r, vs = v :: r ∧ t v σ H fun σ' H' => u r σ' H' Q
def gTup (K : PySem.W.Frag) (n : Nat) (t : TGs) : TG := fun v σ H Q => ∃ a xs, v = .ref a ∧ SqT K H a xs ∧ xs.length = n ∧ t xs σ H Q
def tAsg (te : TE) (g : TG) : TS := fun D σ H => te σ H fun x H1 => g x σ H1 D.nx
theorem ps_set {i : Nat} {x : Str} {e : Expr} {te : TE} {pos' : Pos} (hN : X.N.Nodup) (hi : X.N[i]? = some x) (hx : Loc X.env.scope x) (he : PE X e te) (hs : swapsWith e (some (.Name x pos')) pos.line X.env = pure false := by rfl) (hf : X.fn x = true ∨ X.env.scope.names.lookup x = some .local := by first | exact .inl rfl | exact .inr rfl | assumption) :
    PS X (.Assign [.Name x pos'] e pos) (tAsg te (gName i)) := by
  intro pins s σ H D I h
  refine wpAny_Assign_Name (thn (he pins s σ H _ I h) fun v s1 ⟨y, H1, I1, r1, q1⟩ => ?_) hs
  exact store_ok I1 hN hi hx r1 (fun s2 I2 => ⟨_, H1, I2, q1⟩) hf
end
section
variable {X : Cx} {pos : Pos}
end
structure It where
  go : Nat → Hp → Prop
  yld : Nat → Hp → V → Hp → Prop
  stop : Nat → Hp → Prop
def FpOk (X : Cx) (pins : List (Addr × Obj)) (H : Hp) (b : Addr) : Prop :=
  H b = none ∧ b ≠ X.env.locals ∧ b ∉ X.fs ∧ (b ∈ X.ex ∨ X.s₀.heap.objs.size ≤ b) ∧ (∀ x c, X.env.cells.lookup x = some c → c ≠ b) ∧ ∀ p ∈ X.pn ++ pins, p.1 ≠ b
theorem Inv.fpOk {X : Cx} {pins : List (Addr × Obj)} {σ : St} {H H' : Hp} {s : Shared} {b : Addr} (I : Inv X pins σ H s) (hb : s.heap.objs.size ≤ b) (hn : H' b = none) : FpOk X pins H' b := by
  refine ⟨hn, Nat.ne_of_gt (Nat.lt_of_lt_of_le I.lt hb), I.nofs hb, .inr (Nat.le_trans I.sz hb), fun x c e z => ?_, fun p hp z => ?_⟩
  · obtain ⟨v, q⟩ := I.cell x c e
    exact absurd (Nat.lt_of_lt_of_le q.lt (by rw [z]; exact hb)) (Nat.lt_irrefl _)
  · exact absurd (Nat.lt_of_lt_of_le (Heap.lt_size (I.pin p hp).1) (by rw [z]; exact hb)) (Nat.lt_irrefl _)
structure Turn (P : Program) (w : World) (K : PySem.W.Frag) (tg : Expr) (J : It) (fp : List Addr) (it : Addr) (tn : Nat → Heap → Prop) : Prop where
  mem : it ∈ fp
  obj : ∀ i h, tn i h → ∀ b ∈ fp, ∃ o, h.get? b = some o ∧ ∀ v, o.data ≠ .cell v
  keep : ∀ i h h', tn i h → (∀ b ∈ fp, ∀ o, h.get? b = some o → h'.get? b = some o) → tn i h'
  item : ∀ (X : Cx), X.prog = P → X.w = w → X.K = K → X.calm = true → ∀ (i : Nat) (pins : List (Addr × Obj)) (s : Shared) (σ : St) (H : Hp) (E : Value → Shared → Prop), Inv X pins σ H s → (∀ b ∈ fp, FpOk X pins H b) → tn i s.heap → J.go i H →
    wpAny (model P w) X.A (pyNext (.ref it)) (fun r s1 => ∃ u, r = some u ∧
      wpAny (model P w) X.A (letOwnedTupleGo tg (.ref it) u) (fun _ s2 => ∃ x H', Inv X pins σ H' s2 ∧ RelV x u ∧ J.yld i H x H' ∧ tn (i + 1) s2.heap ∧ ∀ b ∈ fp, H' b = none) E s1) E s
  done : ∀ (X : Cx), X.prog = P → X.w = w → X.K = K → X.calm = true → ∀ (i : Nat) (pins : List (Addr × Obj)) (s : Shared) (σ : St) (H : Hp) (E : Value → Shared → Prop), Inv X pins σ H s → (∀ b ∈ fp, FpOk X pins H b) → tn i s.heap → J.stop i H →
    wpAny (model P w) X.A (pyNext (.ref it)) (fun r s1 => r = none ∧ Inv X pins σ H s1) E s
  self : ∀ (A : Around) (i : Nat) (s : Shared) (Q : Value → Shared → Prop) (E : Value → Shared → Prop), tn i s.heap → Q (.ref it) s → wpAny (model P w) A (pyIter (.ref it)) Q E s
abbrev TI := St → Hp → (It → Hp → Prop) → Prop
def PIE (X : Cx) (pins : List (Addr × Obj)) (σ : St) (tg : Expr) (R : It → Hp → Prop) (itv : Value) (s2 : Shared) : Prop :=
  ∃ (it : Addr) (fp : List Addr) (tn : Nat → Heap → Prop) (J : It) (H' : Hp), itv = .ref it ∧ Inv X pins σ H' s2 ∧ Turn X.prog X.w X.K tg J fp it tn ∧ tn 0 s2.heap ∧ (∀ b ∈ fp, FpOk X pins H' b) ∧ R J H'
def PI (X : Cx) (tg iter : Expr) (wi : TI) : Prop :=
  ∀ (pins : List (Addr × Obj)) (s : Shared) (σ : St) (H : Hp) (R : It → Hp → Prop), Inv X pins σ H s → wi σ H R →
    wpAny (model X.prog X.w) X.A (eval iter X.env) (fun v s1 => wpAny (model X.prog X.w) X.A (pyIter v) (PIE X pins σ tg R) X.xe s1) X.xe s
theorem go_of {M : Model} {A : Around} {E : Value → Shared → Prop} {s : Shared} {tg : Expr} {it : Addr} {u : Value} {o : Obj} {n : String} {vs : Array Value} {Q : Unit → Shared → Prop} (ho : s.heap.get? it = some o) (hc : o.cls = .type n) (hd : o.data = .fields vs)
    (hn : ["enumerate", "zip", "dict_itemiterator", "dict_reverseitemiterator", "odict_iterator", "itertools.zip_longest", "itertools.pairwise"].contains n = false) (hQ : Q () s) : wpAny M A (letOwnedTupleGo tg (.ref it) u) Q E s := by
  unfold letOwnedTupleGo
  cases tg <;> first
    | exact wpAny_pure hQ
    | (cases u <;> first
        | exact wpAny_pure hQ
        | (refine wpAny_bind (wpAny_load ho ?_)
           rw [hc, hd]
           show wpAny M A (if (["enumerate", "zip", "dict_itemiterator", "dict_reverseitemiterator", "odict_iterator", "itertools.zip_longest", "itertools.pairwise"].contains n && vs[0]? == some (rawInt _)) = true then _ else _) Q E s
           rw [if_neg (by intro h; rw [hn, Bool.false_and] at h; cases h)]
           exact wpAny_pure hQ))
def Itl (K : PySem.W.Frag) (a : Addr) : It :=
  ⟨fun i H => ∃ xs x, SqL K H a xs ∧ xs[i]? = some x, fun i H x H' => H' = H ∧ ∀ xs, SqL K H a xs → xs[i]? = some x, fun i H => ∃ xs, SqL K H a xs ∧ xs.length ≤ i⟩
def Itt (K : PySem.W.Frag) (a : Addr) : It :=
  ⟨fun i H => ∃ xs x, SqT K H a xs ∧ xs[i]? = some x, fun i H x H' => H' = H ∧ ∀ xs, SqT K H a xs → xs[i]? = some x, fun i H => ∃ xs, SqT K H a xs ∧ xs.length ≤ i⟩
def Itr (lo : Int) (n : Nat) : It := ⟨fun i _ => i < n, fun i H x H' => H' = H ∧ x = .int (lo + i), fun i _ => n ≤ i⟩
theorem turn_list {P : Program} {w : World} {K : PySem.W.Frag} {tg : Expr} (a it : Addr) : Turn P w K tg (Itl K a) [it] it (fun i h => h.IsListIter it a i) where
  mem := by simp
  obj := fun i h st b hb => by
    have e : b = it := by simpa using hb
    subst e
    obtain ⟨o, e, c, d⟩ := st
    exact ⟨o, e, fun v z => by rw [d] at z; cases z⟩
  keep := fun i h h' st k => st.at fun o e => k it (by simp) o e
  item := by
    intro X hP hw hK hc i pins s σ H E I hf st hg
    subst hP hw hK
    obtain ⟨xs, x, hq, hx⟩ := hg
    obtain ⟨its, rv, p, hz⟩ := I.list hq
    obtain ⟨u, hu, ru⟩ := rv.get hx
    obtain ⟨f0, f1, f2, f3, f4, f5⟩ := hf it (by simp)
    refine wpAny_pyNext_list_item st p.isList (x := u) (by simpa using hu) fun h' st' sb => ?_
    have I1 : Inv X pins σ H { s with heap := h' } := I.turned (t' := s.toks) (fun b o hb e => (sb.2 b hb).trans e) f0 f1 f3 f4 f5
    obtain ⟨o, e, c, d⟩ := id st'
    exact ⟨u, rfl, go_of (s := { s with heap := h' }) e c d (by decide) ⟨x, H, I1, ru, ⟨rfl, fun ys hy => by rw [I.list_inj hy hq]; exact hx⟩, st', fun b hb => (hf b hb).1⟩⟩
  done := by
    intro X hP hw hK hc i pins s σ H E I hf st hg
    subst hP hw hK
    obtain ⟨xs, hq, hx⟩ := hg
    obtain ⟨its, rv, p, hz⟩ := I.list hq
    obtain ⟨f0, f1, f2, f3, f4, f5⟩ := hf it (by simp)
    have hl := rv.length
    exact wpAny_pyNext_list_end (I.ok.hd hc) st p.isList (by simp; omega) fun h' eb => ⟨rfl, I.turned (t' := s.toks) (fun b o hb e => eb b o hb e) f0 f1 f3 f4 f5⟩
  self := fun _ _ _ _ _ st h => wpAny_pyIter_listiter st h
theorem turn_range {P : Program} {w : World} {K : PySem.W.Frag} {tg : Expr} (it : Addr) (lo : Int) (n : Nat) : Turn P w K tg (Itr lo n) [it] it (fun i h => IsRangeIter h it (lo + (i : Nat) * 1) ((n : Int) - (i : Nat)) 1) where
  mem := by simp
  obj := fun i h st b hb => by
    have e : b = it := by simpa using hb
    subst e
    exact ⟨_, st, fun v z => by
      have z' : Data.fields _ = Data.cell v := z
      cases z'⟩
  keep := fun i h h' st k => k it (by simp) _ st
  item := by
    intro X hP hw hK hc i pins s σ H E I hf st hg
    subst hP hw hK
    obtain ⟨f0, f1, f2, f3, f4, f5⟩ := hf it (by simp)
    have W := Walks.range (prog := X.prog) (w := X.w) (I.ok.hd hc) it lo 1 n
    refine W.item i s _ _ hg st fun v h' tk hv st' kk => ?_
    obtain ⟨t, rfl⟩ := hv
    have I1 : Inv X pins σ H { s with heap := h', toks := tk } := I.turned (fun b o hb e => kk b o (by simpa using hb) e) f0 f1 f3 f4 f5
    refine ⟨_, rfl, go_of (s := { s with heap := h', toks := tk }) (n := "range_iterator") st' rfl rfl (by decide) ⟨.int (lo + i), H, I1, ⟨t, ?_⟩, ⟨rfl, rfl⟩, st', fun b hb => (hf b hb).1⟩⟩
    rw [Int.mul_one]
  done := by
    intro X hP hw hK hc i pins s σ H E I hf st hg
    subst hP hw hK
    obtain ⟨f0, f1, f2, f3, f4, f5⟩ := hf it (by simp)
    exact wpAny_pyNext_range_end (I.ok.hd hc) st (by have : n ≤ i := hg; omega) fun h' eb => ⟨rfl, I.turned (t' := s.toks) (fun b o hb e => eb b o hb e) f0 f1 f3 f4 f5⟩
  self := fun _ _ _ _ _ st h => wpAny_pyIter_rangeiter st h
end L2
namespace L2
open PySem PySem.Spec PyProof.Rows
section
variable {X : Cx} {tg : Expr}
def iList (K : PySem.W.Frag) (tl : TE) : TI := fun σ H R => tl σ H fun x H1 => ∃ a, x = .ref a ∧ (∃ xs, SqL K H1 a xs) ∧ R (Itl K a) H1
def iTup (K : PySem.W.Frag) (tl : TE) : TI := fun σ H R => tl σ H fun x H1 => ∃ a, x = .ref a ∧ (∃ xs, SqT K H1 a xs) ∧ R (Itt K a) H1
theorem pi_list {l : Expr} {tl : TE} (hl : PE X l tl) : PI X tg l (iList X.K tl) := by
  intro pins s σ H R I h
  refine thn (hl pins s σ H _ I h) fun v s1 ⟨x, H1, I1, r1, q1⟩ => ?_
  obtain ⟨a, e, ⟨xs, hq⟩, q⟩ := q1
  subst e
  cases r1
  obtain ⟨its, rv, p, hz⟩ := I1.list hq
  refine wpAny_pyIter_list p.isList ?_
  refine ⟨s1.heap.objs.size, [s1.heap.objs.size], _, _, H1, rfl, I1.kept (t' := s1.toks) fun b o e => Heap.get?_push_of_some _ e, turn_list a _, ⟨_, Heap.get?_push_size _ rfl, rfl, rfl⟩, fun b hb => ?_, q⟩
  have e : b = s1.heap.objs.size := by simpa using hb
  subst e
  exact I1.fpOk (Nat.le_refl _) (I1.hok.fresh (Nat.le_refl _))
theorem range_it {pins : List (Addr × Obj)} {σ : St} {H : Hp} {s : Shared} {R : It → Hp → Prop} {E : Value → Shared → Prop} {lo hi : Int} {t u v : Tok} {tk : Nat} (I : Inv X pins σ H s) (h1 : -(2 ^ 62) ≤ lo) (h2 : lo < 2 ^ 62) (h3 : -(2 ^ 62) ≤ hi) (h4 : hi < 2 ^ 62)
    (q : R (Itr lo (hi - lo).toNat) H) : wpAny (model X.prog X.w) X.A (pyIter (.ref s.heap.objs.size)) (PIE X pins σ tg R) E { s with heap := s.heap.push { cls := .type "range", data := .fields #[.int lo t, .int hi u, .int 1 v] }, toks := tk } := by
  refine wpAny_pyIter_range (IsRange.new ..) (small_one h1 h2 h3 h4) ?_
  have I1 : Inv X pins σ H { s with heap := s.heap.push { cls := .type "range", data := .fields #[.int lo t, .int hi u, .int 1 v] }, toks := tk } := I.kept fun b o e => Heap.get?_push_of_some _ e
  refine ⟨(s.heap.push { cls := .type "range", data := .fields #[.int lo t, .int hi u, .int 1 v] }).objs.size, [(s.heap.push { cls := .type "range", data := .fields #[.int lo t, .int hi u, .int 1 v] }).objs.size], _, _, H, rfl,
    I1.kept (t' := tk) fun b o e => Heap.get?_push_of_some _ e, turn_range _ lo (hi - lo).toNat, ?_, fun b hb => ?_, q⟩
  · have e1 : lo + ((0 : Nat) : Int) * 1 = lo := by simp
    have e2 : (((hi - lo).toNat : Nat) : Int) - ((0 : Nat) : Int) = Builtin.Range.rangeSize lo hi 1 := by rw [rangeSize_one]; split <;> omega
    show IsRangeIter _ _ (lo + ((0 : Nat) : Int) * 1) ((((hi - lo).toNat : Nat) : Int) - ((0 : Nat) : Int)) 1
    rw [e1, e2]
    exact Heap.get?_push_size _ rfl
  · have e : b = (s.heap.push { cls := .type "range", data := .fields #[.int lo t, .int hi u, .int 1 v] }).objs.size := by simpa using hb
    subst e
    exact I1.fpOk (Nat.le_refl _) (I1.hok.fresh (Nat.le_refl _))
def iRng1 (ta : TA) : TI := fun σ H R => ta σ H fun vs H1 => ∃ j : Int, vs = [.int j] ∧ -(2 ^ 62) ≤ j ∧ j < 2 ^ 62 ∧ R (Itr 0 j.toNat) H1
def iRng2 (ta : TA) : TI := fun σ H R => ta σ H fun vs H1 => ∃ i j : Int, vs = [.int i, .int j] ∧ (-(2 ^ 62) ≤ i ∧ i < 2 ^ 62 ∧ -(2 ^ 62) ≤ j ∧ j < 2 ^ 62) ∧ R (Itr i (j - i).toNat) H1
theorem pi_range1 {a : Expr} {ta : TA} {p pos : Pos} (hg : Gl X "range") (hm : X.mg "range" = none) (ha : PA X [a] ta) (hs : starEach [a] X.env = [(false, eval a X.env)] := by rfl) : PI X tg (.Call (.Name "range" p) [a] [] pos) (iRng1 ta) := by
  intro pins s σ H R I h
  refine Call_ (ld_blt I hg hm boot_range (PyProof.Rows.callWith_type1 (thn (ha pos pins s σ H _ I h) fun us s1 ⟨vs, H1, I1, r1, q1⟩ => ?_) hs rfl))
  obtain ⟨j, e, q1, q2, q⟩ := q1
  subst e
  cases r1 with
  | cons r rr =>
    cases rr
    obtain ⟨t, rfl⟩ := r
    exact call_range_1 (range_it I1 (by omega) (by omega) q1 q2 (by simpa using q))
def tFor (wi : TI) (g : TG) (tb : TS) : TS := fun D σ H => wi σ H fun J H1 => ∃ W : Nat → Nat → St → Hp → Prop, (∃ m, W 0 m σ H1) ∧ ∀ i m σ H, W i m σ H →
  (J.stop i H ∧ D.nx σ H) ∨ (J.go i H ∧ ∃ N : St → Hp → Prop, (∀ σ' H', N σ' H' → ∃ m', m' < m ∧ W (i + 1) m' σ' H') ∧ ∀ x H', J.yld i H x H' → g x σ H' fun σ2 H2 => tb { D with nx := N, ct := N, bk := D.nx } σ2 H2)
def pinsAt (fp : List Addr) (h : Heap) : List (Addr × Obj) := fp.filterMap fun b => (h.get? b).map fun o => (b, o)
theorem mem_pinsAt {fp : List Addr} {h : Heap} {b : Addr} {o : Obj} (hb : b ∈ fp) (e : h.get? b = some o) : (b, o) ∈ pinsAt fp h := List.mem_filterMap.mpr ⟨b, hb, by rw [e]; rfl⟩
theorem of_pinsAt {fp : List Addr} {h : Heap} {p : Addr × Obj} (hp : p ∈ pinsAt fp h) : p.1 ∈ fp ∧ h.get? p.1 = some p.2 := by
  obtain ⟨b, hb, e⟩ := List.mem_filterMap.mp hp
  cases q : h.get? b with
  | none => rw [q] at e; cases e
  | some o =>
    rw [q] at e
    have e' : (b, o) = p := Option.some.inj e
    subst e'
    exact ⟨hb, q⟩
theorem Inv.pinned {pins : List (Addr × Obj)} {σ : St} {H : Hp} {s : Shared} {fp : List Addr} (I : Inv X pins σ H s) (hf : ∀ b ∈ fp, FpOk X pins H b) (ho : ∀ b ∈ fp, ∃ o, s.heap.get? b = some o ∧ ∀ v, o.data ≠ .cell v) : Inv X (pins ++ pinsAt fp s.heap) σ H s :=
  I.pins_of fun p hp => (List.mem_append.mp hp).elim (fun z => I.pin p (List.mem_append_right _ z)) fun z => by
    obtain ⟨hb, e⟩ := of_pinsAt z
    obtain ⟨f0, f1, f2, _⟩ := hf p.1 hb
    obtain ⟨o, e', d⟩ := ho p.1 hb
    rw [e] at e'; cases e'
    exact ⟨e, f0, f1, f2, d⟩
theorem Inv.unpinned {pins pl : List (Addr × Obj)} {σ : St} {H : Hp} {s : Shared} (I : Inv X (pins ++ pl) σ H s) : Inv X pins σ H s := I.pins_of fun p hp => I.pin p (List.mem_append_right _ (List.mem_append_left _ hp))
theorem ps_for {iter : Expr} {body : List Stmt} {wi : TI} {g : TG} {tb : TS} {pos : Pos} (hp : PassesOwn (model X.prog X.w) X.A X.env X.xe) (hc : X.calm = true) (hi : PI X tg iter wi) (hg : PG X tg g) (hb : PSs X body tb)
    (hs : ∀ x, foldedSetIterable iter X.env x = pure x := by intro _; rfl) : PS X (.For tg iter body [] pos) (tFor wi g tb) := by
  intro pins s σ H D I h
  refine wpAny_For (thn (hi pins s σ H _ I h) fun v s1 h1 => thn h1 fun itv s2 h2 => ?_) hs
  obtain ⟨it, fp, tn, J, H2, e, I2, T, st2, f2, W, ⟨m0, w0⟩, turn⟩ := h2
  subst e
  have stat : ∀ {H' : Hp}, (∀ b ∈ fp, H' b = none) → ∀ b ∈ fp, FpOk X pins H' b := fun hn b hb => ⟨hn b hb, (f2 b hb).2⟩
  refine codeAny_forLoop_any (fun n s' => ∃ i σ' H', Inv X pins σ' H' s' ∧ tn i s'.heap ∧ (∀ b ∈ fp, H' b = none) ∧ W i n σ' H') ?_ m0 ⟨0, σ, H2, I2, st2, fun b hb => (f2 b hb).1, w0⟩
  rintro n s3 ⟨i, σ3, H3, I3, st3, fr3, w3⟩
  rcases turn i n σ3 H3 w3 with ⟨stop, qn⟩ | ⟨go, N, hN, step⟩
  · refine wpAny_passesOwn hp (thn (T.done X rfl rfl rfl hc i pins s3 σ3 H3 X.xe I3 (stat fr3) st3 stop) fun r s4 ⟨hr, I4⟩ => ?_)
    subst hr
    exact wpAny_execs_nil ⟨σ3, H3, I4, qn⟩
  · refine wpAny_passesOwn hp (thn (T.item X rfl rfl rfl hc i pins s3 σ3 H3 X.xe I3 (stat fr3) st3 go) fun r s4 ⟨u, hr, h4⟩ => ?_)
    subst hr
    refine wpAny_passesOwn hp (thn h4 fun _ s5 ⟨x, H5, I5, r5, y5, st5, fr5⟩ => ?_)
    have I5' := I5.pinned (stat fr5) (T.obj _ _ st5)
    refine wpAny_passesOwn hp (thn (hg _ s5 σ3 H5 x u _ I5' r5 (step x H5 y5)) fun _ s6 ⟨σ6, H6, I6, q6⟩ => ?_)
    refine wpAny_passesOwn hp (thn (hb _ s6 σ6 H6 _ I6 q6) fun f s7 q7 => ?_)
    have again : ∀ {σ7 : St} {H7 : Hp}, Inv X (pins ++ pinsAt fp s5.heap) σ7 H7 s7 → N σ7 H7 → ∃ m, m < n ∧ ∃ i σ' H', Inv X pins σ' H' s7 ∧ tn i s7.heap ∧ (∀ b ∈ fp, H' b = none) ∧ W i m σ' H' := fun {σ7 H7} I7 n7 => by
      obtain ⟨m', hm, w7⟩ := hN σ7 H7 n7
      refine ⟨m', hm, i + 1, σ7, H7, I7.unpinned, T.keep _ _ _ st5 fun b hb o e => (I7.pin (b, o) (List.mem_append_right _ (List.mem_append_right _ (mem_pinsAt hb e)))).1, fun b hb => ?_, w7⟩
      obtain ⟨o, e, d⟩ := T.obj _ _ st5 b hb
      exact (I7.pin (b, o) (List.mem_append_right _ (List.mem_append_right _ (mem_pinsAt hb e)))).2.1
    cases f with
    | next => obtain ⟨σ7, H7, I7, n7⟩ := q7; exact again I7 n7
    | cont => obtain ⟨σ7, H7, I7, n7⟩ := q7; exact again I7 n7
    | brk => obtain ⟨σ7, H7, I7, q7⟩ := q7; exact ⟨σ7, H7, I7.unpinned, q7⟩
    | ret v => obtain ⟨x7, σ7, H7, I7, r7, q7⟩ := q7; exact ⟨x7, σ7, H7, I7.unpinned, r7, q7⟩
end
theorem for_list {K : PySem.W.Frag} {a : Addr} {xs : List V} {g : TG} {tb : TS} {D : Ends} {σ : St} {H : Hp} (Pv : Nat → St → Hp → Prop) (h0 : Pv 0 σ H) (hl : ∀ i σ H, i ≤ xs.length → Pv i σ H → SqL K H a xs)
    (hs : ∀ i x σ H, xs[i]? = some x → Pv i σ H → g x σ H fun σ2 H2 => tb { D with nx := Pv (i + 1), ct := Pv (i + 1), bk := D.nx } σ2 H2) (hd : ∀ σ H, Pv xs.length σ H → D.nx σ H) :
    ∃ W : Nat → Nat → St → Hp → Prop, (∃ m, W 0 m σ H) ∧ ∀ i m σ H, W i m σ H →
      ((Itl K a).stop i H ∧ D.nx σ H) ∨ ((Itl K a).go i H ∧ ∃ N : St → Hp → Prop, (∀ σ' H', N σ' H' → ∃ m', m' < m ∧ W (i + 1) m' σ' H') ∧ ∀ x H', (Itl K a).yld i H x H' → g x σ H' fun σ2 H2 => tb { D with nx := N, ct := N, bk := D.nx } σ2 H2) := by
  refine ⟨fun i m σ H => m = xs.length - i ∧ i ≤ xs.length ∧ Pv i σ H, ⟨xs.length, by simp, Nat.zero_le _, h0⟩, ?_⟩
  rintro i m σ H ⟨rfl, hi, p⟩
  have q := hl i σ H hi p
  by_cases hlt : i < xs.length
  · refine .inr ⟨⟨xs, xs[i], q, by simp [hlt]⟩, Pv (i + 1), fun σ' H' p' => ⟨xs.length - (i + 1), by omega, rfl, hlt, p'⟩, fun x H' y => ?_⟩
    obtain ⟨e, y⟩ := y
    subst e
    exact hs i x σ _ (y xs q) p
  · have e : i = xs.length := by omega
    subst e
    exact .inl ⟨⟨xs, q, Nat.le_refl _⟩, hd σ H p⟩
theorem for_tup {K : PySem.W.Frag} {a : Addr} {xs : List V} {g : TG} {tb : TS} {D : Ends} {σ : St} {H : Hp} (Pv : Nat → St → Hp → Prop) (h0 : Pv 0 σ H) (hl : ∀ i σ H, i ≤ xs.length → Pv i σ H → SqT K H a xs)
    (hs : ∀ i x σ H, xs[i]? = some x → Pv i σ H → g x σ H fun σ2 H2 => tb { D with nx := Pv (i + 1), ct := Pv (i + 1), bk := D.nx } σ2 H2) (hd : ∀ σ H, Pv xs.length σ H → D.nx σ H) :
    ∃ W : Nat → Nat → St → Hp → Prop, (∃ m, W 0 m σ H) ∧ ∀ i m σ H, W i m σ H →
      ((Itt K a).stop i H ∧ D.nx σ H) ∨ ((Itt K a).go i H ∧ ∃ N : St → Hp → Prop, (∀ σ' H', N σ' H' → ∃ m', m' < m ∧ W (i + 1) m' σ' H') ∧ ∀ x H', (Itt K a).yld i H x H' → g x σ H' fun σ2 H2 => tb { D with nx := N, ct := N, bk := D.nx } σ2 H2) := by
  refine ⟨fun i m σ H => m = xs.length - i ∧ i ≤ xs.length ∧ Pv i σ H, ⟨xs.length, by simp, Nat.zero_le _, h0⟩, ?_⟩
  rintro i m σ H ⟨rfl, hi, p⟩
  have q := hl i σ H hi p
  by_cases hlt : i < xs.length
  · refine .inr ⟨⟨xs, xs[i], q, by simp [hlt]⟩, Pv (i + 1), fun σ' H' p' => ⟨xs.length - (i + 1), by omega, rfl, hlt, p'⟩, fun x H' y => ?_⟩
    obtain ⟨e, y⟩ := y
    subst e
    exact hs i x σ _ (y xs q) p
  · have e : i = xs.length := by omega
    subst e
    exact .inl ⟨⟨xs, q, Nat.le_refl _⟩, hd σ H p⟩
theorem for_range {lo : Int} {n : Nat} {g : TG} {tb : TS} {D : Ends} {σ : St} {H : Hp} (Pv : Nat → St → Hp → Prop) (h0 : Pv 0 σ H)
    (hs : ∀ i σ H, i < n → Pv i σ H → g (.int (lo + i)) σ H fun σ2 H2 => tb { D with nx := Pv (i + 1), ct := Pv (i + 1), bk := D.nx } σ2 H2) (hd : ∀ σ H, Pv n σ H → D.nx σ H) :
    ∃ W : Nat → Nat → St → Hp → Prop, (∃ m, W 0 m σ H) ∧ ∀ i m σ H, W i m σ H →
      ((Itr lo n).stop i H ∧ D.nx σ H) ∨ ((Itr lo n).go i H ∧ ∃ N : St → Hp → Prop, (∀ σ' H', N σ' H' → ∃ m', m' < m ∧ W (i + 1) m' σ' H') ∧ ∀ x H', (Itr lo n).yld i H x H' → g x σ H' fun σ2 H2 => tb { D with nx := N, ct := N, bk := D.nx } σ2 H2) := by
  refine ⟨fun i m σ H => m = n - i ∧ i ≤ n ∧ Pv i σ H, ⟨n, by simp, Nat.zero_le _, h0⟩, ?_⟩
  rintro i m σ H ⟨rfl, hi, p⟩
  by_cases hlt : i < n
  · refine .inr ⟨hlt, Pv (i + 1), fun σ' H' p' => ⟨n - (i + 1), by omega, rfl, hlt, p'⟩, fun x H' y => ?_⟩
    obtain ⟨e, y⟩ := y
    subst e y
    exact hs i σ _ hlt p
  · have e : i = n := by omega
    subst e
    exact .inl ⟨Nat.le_refl _, hd σ H p⟩
end L2
namespace L2
open PySem PySem.Spec PyProof.Rows
abbrev R2 := V → V → Hp → VK → Prop
def OpR (X : Cx) (f : Value → Value → Sem Value) (r : R2) : Prop :=
  ∀ (pins : List (Addr × Obj)) (s : Shared) (σ : St) (H : Hp) (x y : V) (v u : Value) (Q : VK), Inv X pins σ H s → RelV x v → RelV y u → r x y H Q →
    wpAny (model X.prog X.w) X.A (f v u) (EP X pins σ Q) X.xe s
def CallR (X : Cx) (f : Value) (r : List V → Hp → VK → Prop) : Prop :=
  ∀ (pins : List (Addr × Obj)) (s : Shared) (σ : St) (H : Hp) (xs : List V) (us : List Value) (Q : VK), Inv X pins σ H s → Vals xs us → r xs H Q →
    wpAny (model X.prog X.w) X.A (call f us) (EP X pins σ Q) X.xe s
def tOp (r : R2) (ta tb : TE) : TE := fun σ H Q => ta σ H fun x H1 => tb σ H1 fun y H2 => r x y H2 Q
def tUn (r : V → Hp → VK → Prop) (ta : TE) : TE := fun σ H Q => ta σ H fun x H1 => r x H1 Q
def rI (C : Int → Int → Prop) (g : Int → Int → V) : R2 := fun x y H Q => ∃ i j, x = .int i ∧ y = .int j ∧ C i j ∧ Q (g i j) H
def rI0 (g : Int → Int → V) : R2 := fun x y H Q => ∃ i j, x = .int i ∧ y = .int j ∧ Q (g i j) H
def rU (g : Int → V) : V → Hp → VK → Prop := fun x H Q => ∃ i, x = .int i ∧ Q (g i) H
section
variable {X : Cx} {a b c : Expr} {ta tb tc : TE} {pos : Pos}
theorem binT (ha : PE X a ta) (hb : PE X b tb) {pins : List (Addr × Obj)} {s : Shared} {σ : St} {H : Hp} {R : V → V → Hp → Prop} (I : Inv X pins σ H s)
    (h : ta σ H fun x H1 => tb σ H1 fun y H2 => R x y H2) {Q : Value → Shared → Prop} {f : Value → Value → Sem Value}
    (hf : ∀ v u s2 x y H2, Inv X pins σ H2 s2 → RelV x v → RelV y u → R x y H2 → wpAny (model X.prog X.w) X.A (f v u) Q X.xe s2) :
    wpAny (model X.prog X.w) X.A (eval a X.env) (fun v s₁ => wpAny (model X.prog X.w) X.A (eval b X.env) (fun u s₂ => wpAny (model X.prog X.w) X.A (f v u) Q X.xe s₂) X.xe s₁) X.xe s := by
  refine thn (ha pins s σ H _ I h) fun v s1 ⟨x, H1, I1, r1, q1⟩ => ?_
  refine thn (hb pins s1 σ H1 _ I1 q1) fun u s2 ⟨y, H2, I2, r2, q2⟩ => ?_
  exact hf v u s2 x y H2 I2 r1 r2 q2
theorem pe_op {op : Operator} {r : R2} (ho : OpR X (binaryOp op) r) (ha : PE X a ta) (hb : PE X b tb) : PE X (.BinOp a op b pos) (tOp r ta tb) := by
  intro pins s σ H Q I h
  exact wpAny_BinOp (binT ha hb I h fun v u s2 x y H2 I2 rx ry q => ho pins s2 σ H2 x y v u Q I2 rx ry q)
theorem opI {f : Value → Value → Sem Value} {C : Int → Int → Prop} {g : Int → Int → Int}
    (rule : ∀ (i j : Int) (t u : Tok) (s : Shared) (Q : Value → Shared → Prop) (E : Value → Shared → Prop), C i j → Q (.int (g i j) s.toks) { s with toks := s.toks + 1 } → wpAny (model X.prog X.w) X.A (f (.int i t) (.int j u)) Q E s) :
    OpR X f (rI C fun i j => .int (g i j)) := by
  intro pins s σ H x y v u Q I rx ry h
  obtain ⟨i, j, rfl, rfl, hc, q⟩ := h
  obtain ⟨t, rfl⟩ := rx
  obtain ⟨t', rfl⟩ := ry
  exact rule i j t t' s _ _ hc ⟨.int (g i j), H, I.tok _, ⟨_, rfl⟩, q⟩
theorem opI0 {f : Value → Value → Sem Value} {g : Int → Int → Int}
    (rule : ∀ (i j : Int) (t u : Tok) (s : Shared) (Q : Value → Shared → Prop) (E : Value → Shared → Prop), Q (.int (g i j) s.toks) { s with toks := s.toks + 1 } → wpAny (model X.prog X.w) X.A (f (.int i t) (.int j u)) Q E s) :
    OpR X f (rI0 fun i j => .int (g i j)) := by
  intro pins s σ H x y v u Q I rx ry h
  obtain ⟨i, j, rfl, rfl, q⟩ := h
  obtain ⟨t, rfl⟩ := rx
  obtain ⟨t', rfl⟩ := ry
  exact rule i j t t' s _ _ ⟨.int (g i j), H, I.tok _, ⟨_, rfl⟩, q⟩
theorem opB0 {f : Value → Value → Sem Value} {g : Int → Int → Bool}
    (rule : ∀ (i j : Int) (t u : Tok) (s : Shared) (Q : Value → Shared → Prop) (E : Value → Shared → Prop), Q (.bool (g i j)) s → wpAny (model X.prog X.w) X.A (f (.int i t) (.int j u)) Q E s) :
    OpR X f (rI0 fun i j => .bl (g i j)) := by
  intro pins s σ H x y v u Q I rx ry h
  obtain ⟨i, j, rfl, rfl, q⟩ := h
  obtain ⟨t, rfl⟩ := rx
  obtain ⟨t', rfl⟩ := ry
  exact rule i j t t' s _ _ ⟨.bl (g i j), H, I, rfl, q⟩
def CMul (i j : Int) : Prop := (-(2 ^ 64) < i ∧ i < 2 ^ 64) ∨ (-(2 ^ 64) < j ∧ j < 2 ^ 64)
theorem CMul.ok {i j : Int} (h : CMul i j) : IntMulOk i j := by
  rcases h with ⟨h1, h2⟩ | ⟨h1, h2⟩
  · exact .of_left (intBits_le_64 h1 h2)
  · exact .of_right (intBits_le_64 h1 h2)
theorem op_add : OpR X (binaryOp .Add) (rI0 fun i j => .int (i + j)) := opI0 fun _ _ _ _ _ _ _ q => add_int q
theorem op_mod : OpR X (binaryOp .Mod) (rI (fun _ j => 0 < j) fun i j => .int (i % j)) := opI fun i j _ _ _ _ _ hc q => by
  have h1 : (0 : Int) < j := hc
  exact mod_int' (by omega) (by rw [Int.fmod_eq_emod_of_nonneg i (by omega)]; exact q)
end
def scal : V → V → Bool
  | .non, .non => true | .non, .int _ => true | .int _, .non => true | .non, .bl _ => true | .bl _, .non => true | .non, .str _ => true | .str _, .non => true
  | .int _, .int _ => true | .bl _, .bl _ => true | .str _, .str _ => true | .byt _, .byt _ => true
  | .int _, .str _ => true | .str _, .int _ => true | .bl _, .str _ => true | .str _, .bl _ => true
  | _, _ => false
def rEq : R2 := fun x y H Q => scal x y = true ∧ Q (.bl (decide (x = y))) H
def rNe : R2 := fun x y H Q => scal x y = true ∧ Q (.bl (!decide (x = y))) H
theorem dec_int {i j : Int} : decide (V.int i = V.int j) = (i == j) := by
  rw [Bool.eq_iff_iff]
  simp
theorem dec_bl {i j : Bool} : decide (V.bl i = V.bl j) = (i == j) := by
  rw [Bool.eq_iff_iff]
  simp
theorem dec_str {i j : Str} : decide (V.str i = V.str j) = (i == j) := by
  rw [Bool.eq_iff_iff]
  simp
theorem dec_byt {i j : Array UInt8} : decide (V.byt i = V.byt j) = (i.toList == j.toList) := by
  rw [Bool.eq_iff_iff]
  cases i
  cases j
  simp
section
variable {X : Cx} {a b c : Expr} {ta tb tc : TE} {pos : Pos}
theorem fin_bl {pins : List (Addr × Obj)} {σ : St} {H : Hp} {s : Shared} {Q : VK} {k k' : Bool} (I : Inv X pins σ H s) (q : Q (.bl k) H) (e : k = k') : EP X pins σ Q (.bool k') s := by
  subst e
  exact ⟨.bl k, H, I, rfl, q⟩
theorem op_eq : OpR X (compareOp .Eq) rEq := by
  intro pins s σ H x y v u Q I rx ry h
  obtain ⟨hs, q⟩ := h
  cases x with
  | non =>
    cases rx
    cases y with
    | non => cases ry; exact PySem.EqNone.eq_none_none (fin_bl I q (by simp))
    | bl j => cases ry; exact PySem.EqNone.eq_none_bool (fin_bl I q (by simp))
    | int j => obtain ⟨t', rfl⟩ := ry; exact PySem.EqNone.eq_none_int (fin_bl I q (by simp))
    | str j => obtain ⟨t', rfl⟩ := ry; exact PySem.EqNone.eq_none_str (fin_bl I q (by simp))
    | _ => exact absurd (show false = true from hs) Bool.false_ne_true
  | bl i =>
    cases rx
    cases y with
    | non => cases ry; exact PySem.EqNone.eq_bool_none (fin_bl I q (by simp))
    | bl j => cases ry; exact eq_bool (fin_bl I q dec_bl)
    | str j => obtain ⟨t', rfl⟩ := ry; exact PySem.EqMixed.eq_bool_str (fin_bl I q (by simp))
    | _ => exact absurd (show false = true from hs) Bool.false_ne_true
  | int i =>
    obtain ⟨t, rfl⟩ := rx
    cases y with
    | non => cases ry; exact PySem.EqNone.eq_int_none (fin_bl I q (by simp))
    | int j => obtain ⟨t', rfl⟩ := ry; exact eq_int (fin_bl I q dec_int)
    | str j => obtain ⟨t', rfl⟩ := ry; exact PySem.EqMixed.eq_int_str (fin_bl I q (by simp))
    | _ => exact absurd (show false = true from hs) Bool.false_ne_true
  | str i =>
    obtain ⟨t, rfl⟩ := rx
    cases y with
    | non => cases ry; exact PySem.EqNone.eq_str_none (fin_bl I q (by simp))
    | bl j => cases ry; exact PySem.EqMixed.eq_str_bool (fin_bl I q (by simp))
    | int j => obtain ⟨t', rfl⟩ := ry; exact PySem.EqMixed.eq_str_int (fin_bl I q (by simp))
    | str j => obtain ⟨t', rfl⟩ := ry; exact eq_str (fin_bl I q dec_str)
    | _ => exact absurd (show false = true from hs) Bool.false_ne_true
  | byt i =>
    obtain ⟨t, rfl⟩ := rx
    cases y with
    | byt j => obtain ⟨t', rfl⟩ := ry; exact PySem.W.eq_bytes (fin_bl I q dec_byt)
    | _ => exact absurd (show false = true from hs) Bool.false_ne_true
  | _ => cases y <;> exact absurd (show false = true from hs) Bool.false_ne_true
theorem op_ne : OpR X (compareOp .NotEq) rNe := by
  intro pins s σ H x y v u Q I rx ry h
  obtain ⟨hs, q⟩ := h
  cases x with
  | non =>
    cases rx
    cases y with
    | non => cases ry; exact PySem.EqNone.ne_none_none (fin_bl I q (by simp))
    | bl j => cases ry; exact PySem.EqNone.ne_none_bool (fin_bl I q (by simp))
    | int j => obtain ⟨t', rfl⟩ := ry; exact PySem.EqNone.ne_none_int (fin_bl I q (by simp))
    | str j => obtain ⟨t', rfl⟩ := ry; exact PySem.EqNone.ne_none_str (fin_bl I q (by simp))
    | _ => exact absurd (show false = true from hs) Bool.false_ne_true
  | bl i =>
    cases rx
    cases y with
    | non => cases ry; exact PySem.EqNone.ne_bool_none (fin_bl I q (by simp))
    | bl j => cases ry; exact ne_bool (fin_bl I q (congrArg not dec_bl))
    | str j => obtain ⟨t', rfl⟩ := ry; exact PySem.EqMixed.ne_bool_str (fin_bl I q (by simp))
    | _ => exact absurd (show false = true from hs) Bool.false_ne_true
  | int i =>
    obtain ⟨t, rfl⟩ := rx
    cases y with
    | non => cases ry; exact PySem.EqNone.ne_int_none (fin_bl I q (by simp))
    | int j => obtain ⟨t', rfl⟩ := ry; exact ne_int (fin_bl I q (congrArg not dec_int))
    | str j => obtain ⟨t', rfl⟩ := ry; exact PySem.EqMixed.ne_int_str (fin_bl I q (by simp))
    | _ => exact absurd (show false = true from hs) Bool.false_ne_true
  | str i =>
    obtain ⟨t, rfl⟩ := rx
    cases y with
    | non => cases ry; exact PySem.EqNone.ne_str_none (fin_bl I q (by simp))
    | bl j => cases ry; exact PySem.EqMixed.ne_str_bool (fin_bl I q (by simp))
    | int j => obtain ⟨t', rfl⟩ := ry; exact PySem.EqMixed.ne_str_int (fin_bl I q (by simp))
    | str j => obtain ⟨t', rfl⟩ := ry; exact ne_str (fin_bl I q (congrArg not dec_str))
    | _ => exact absurd (show false = true from hs) Bool.false_ne_true
  | byt i =>
    obtain ⟨t, rfl⟩ := rx
    cases y with
    | byt j => obtain ⟨t', rfl⟩ := ry; exact PySem.W.ne_bytes (fin_bl I q (congrArg not dec_byt))
    | _ => exact absurd (show false = true from hs) Bool.false_ne_true
  | _ => cases y <;> exact absurd (show false = true from hs) Bool.false_ne_true
theorem op_lt : OpR X (compareOp .Lt) (rI0 fun i j => .bl (decide (i < j))) := opB0 fun _ _ _ _ _ _ _ q => lt_int q
theorem nomark (b : Expr) {op : CmpOp} (h : op ≠ .In := by decide) (h2 : op ≠ .NotIn := by decide) : behindInMarks op b = false := by
  have e1 : (op == CmpOp.In) = false := by cases op <;> first | rfl | exact absurd rfl h
  have e2 : (op == CmpOp.NotIn) = false := by cases op <;> first | rfl | exact absurd rfl h2
  cases b <;> simp [behindInMarks, e1, e2]
theorem pe_cmpR {op : CmpOp} {r : R2} (ho : OpR X (compareOp op) r) (ha : PE X a ta) (hb : PE X b tb) (hm : behindInMarks op b = false) : PE X (.Compare a [op] [b] pos) (tOp r ta tb) := by
  intro pins s σ H Q I h
  exact wpAny_Compare1 (binT ha hb I h fun v u s2 x y H2 I2 rx ry q => ho pins s2 σ H2 x y v u Q I2 rx ry q) hm
def tTest (t : TE) : TT := fun σ H Q => t σ H fun x H' => ∃ k, x = .bl k ∧ Q k H'
theorem pt_cmpR {op : CmpOp} {r : R2} (ho : OpR X (compareOp op) r) (ha : PE X a ta) (hb : PE X b tb) (hm : behindInMarks op b = false) : PT X (.Compare a [op] [b] pos) (tTest (tOp r ta tb)) := by
  intro pins s σ H Q I h
  refine wpAny_isTrue_Compare1 (thn (ha pins s σ H _ I h) fun v s1 ⟨x, H1, I1, r1, q1⟩ => thn (hb pins s1 σ H1 _ I1 q1) fun u s2 ⟨y, H2, I2, r2, q2⟩ =>
    thn (ho pins s2 σ H2 x y v u _ I2 r1 r2 q2) fun c s3 ⟨z, H3, I3, r3, k, e, q3⟩ => ?_) hm
  subst e
  cases r3
  exact wpAny_truthy_bool ⟨H3, I3, q3⟩
def tChain (r r' : R2) (ta tb tc : TE) : TE := fun σ H Q => ta σ H fun x H1 => tb σ H1 fun y H2 => r x y H2 fun z H3 => ∃ k, z = .bl k ∧
  (if k = true then tc σ H3 fun w' H4 => r' y w' H4 Q else Q (.bl false) H3)
theorem line63 : (sizeLine : Nat) < 2 ^ 63 := by rw [sizeLine_eq]; decide
theorem op_add_str : OpR X (binaryOp .Add) (fun x y H Q => ∃ i j, x = .str i ∧ y = .str j ∧ i.length + j.length ≤ sizeLine ∧ Q (.str (i ++ j)) H) := by
  intro pins s σ H x y v u Q I rx ry h
  obtain ⟨i, j, rfl, rfl, hz, q⟩ := h
  obtain ⟨t, rfl⟩ := rx
  obtain ⟨t', rfl⟩ := ry
  exact add_str (fun t' tk => ⟨.str (i ++ j), H, I.tok _, ⟨_, rfl⟩, q⟩) hz
theorem vals1 {x : V} {us : List Value} (r : Vals [x] us) : ∃ u, us = [u] ∧ RelV x u := by
  cases r with
  | cons r1 r2 => cases r2; exact ⟨_, rfl, r1⟩
theorem vals2 {x y : V} {us : List Value} (r : Vals [x, y] us) : ∃ u w', us = [u, w'] ∧ RelV x u ∧ RelV y w' := by
  cases r with
  | cons r1 r2 =>
    cases r2 with
    | cons r3 r4 => cases r4; exact ⟨_, _, rfl, r1, r3⟩
end
end L2
namespace L2
open PySem PySem.Spec PyProof.Rows
structure ObjM (h : Heap) (x dx C : Addr) (mA : Str → Option Value) : Prop where
  obj : h.get? x = some (PySem.W.instObj C dx)
  ns : h.Ns1 dx mA
  ne : dx ≠ x
theorem lookIn_ns {h : Heap} {dx : Addr} {mA : Str → Option Value} (n : h.Ns1 dx mA) : ∃ od, h.get? dx = some od ∧ ∀ name, PySem.W.lookIn name od = some (mA name) := by
  obtain ⟨o, es, ep, ho, hd, hk, _, hm⟩ := n
  refine ⟨o, ho, fun name => ?_⟩
  have e := hm name
  unfold nsFind findBy at e
  rw [← Array.find?_toList] at e
  unfold PySem.W.lookIn
  rw [hd]
  dsimp only
  split
  · rename_i y q
    rw [q] at e
    exact congrArg some e
  · rename_i q
    rw [q] at e
    have a : es.toList.any (·.refKey) = false := by
      rw [List.any_eq_false]
      intro y hy
      obtain ⟨z, t, hkey⟩ := hk y (Array.mem_toList_iff.mp hy)
      simp [DictEntry.refKey, hkey]
    have a' : ¬ es.toList.any (·.refKey) = true := by rw [a]; exact Bool.false_ne_true
    rw [if_neg a']
    exact congrArg some e
theorem ObjM.look {h : Heap} {x dx C : Addr} {mA : Str → Option Value} (I : ObjM h x dx C mA) : ∃ od, PySem.W.InstAt h x (PySem.W.instObj C dx) C (some od) ∧ ∀ name, PySem.W.lookIn name od = some (mA name) :=
  let ⟨od, ho, hl⟩ := lookIn_ns I.ns
  ⟨od, ⟨I.obj, rfl, rfl, ho⟩, hl⟩
section
variable {prog : Program} {w : World} {A : Around} {E : Value → Shared → Prop} {s : Shared} {K : PySem.W.Frag} {x dx C f : Addr} {mA : Str → Option Value} {name : Str} {v : Value}
theorem get_meth {pl : Sem Bool} {Q : Value × List Value → Shared → Prop} (X : K.In s.heap) (I : ObjM s.heap x dx C mA) (hg : PySem.W.plainGet K C name = true)
    (hf : PySem.W.findIn K (.ref C) name = some (some (.ref f))) (ht : PySem.W.isFn K (.ref f) = true) (hv : mA name = none) (h : Q (.ref f, [.ref x]) s) :
    wpAny (model prog w) A (getMethod (.ref x) name pl) Q E s := by
  obtain ⟨od, J, hl⟩ := I.look
  exact PySem.W.method_fn X J (PySem.W.plainGet_of hg).1 (PySem.W.plainGet_of hg).2 hf (beq_iff_eq.mp ht) (by show (PySem.W.lookIn name od).map (·.isSome) = some false; rw [hl, hv]; rfl) h
theorem make_map0 {R : Result → Shared → Prop} (X : K.In s.heap) (hm : PySem.W.makesIn K C = true)
    (hi : PySem.W.findIn K (.ref C) "__init__" = some (some (.builtin "object.__init__")))
    (hb : ∀ self, PySem.W.Looks (model prog w) s.heap (bindSpecial (.builtin "object.__init__") self) (.builtin "object.__init__", [self]))
    (h : codeAny (model prog w) (A.under (.builtin "type.__call__" ⟨[.ref C], []⟩)) (.call (.builtin "object.__init__") ⟨[.ref (s.heap.objs.size + 1)], []⟩) (PySem.W.InitBack (s.heap.objs.size + 1) R)
      { s with heap := (s.heap.push PySem.W.emptyDict).push (PySem.W.instObj C s.heap.objs.size) }) :
    codeAny (model prog w) A (.call (.ref C) ⟨[], []⟩) R s := by
  obtain ⟨hh, g, d, t, os⟩ := s
  exact PySem.W.make_core (PySem.W.makes_of X hm) (PySem.W.looks_findIn X hi) hb (.inr ⟨rfl, rfl⟩) h
end
def putF (f : Str) (v : V) : List (Str × V) → List (Str × V)
  | [] => [(f, v)]
  | (g, x) :: r => if g = f then (g, v) :: r else (g, x) :: putF f v r
theorem RelO.some_of {v : V} {o : Option Value} (r : RelO (some v) o) : ∃ u, o = some u ∧ RelV v u := by
  cases o with
  | none => exact (show False from r).elim
  | some u => exact ⟨u, rfl, r⟩
theorem RelO.none_of {o : Option Value} (r : RelO none o) : o = none := by
  cases o with
  | none => rfl
  | some u => exact (show False from r).elim
section
variable {P : Program} {w : World} {H H' : Hp} {h h' : Heap} {a C dx : Addr} {fs fs' : List (Str × V)}
theorem ins_get (hok : HOk P w H h) (e : H a = some (.ins C dx fs)) : ∃ mA, ObjM h a dx C mA ∧ (∀ f, RelO (fs.lookup f) (mA f)) ∧ PySem.Within mA (fs.map (·.1)) ∧ fs.length ≤ 1000 ∧ H dx = some (.own a) := by
  obtain ⟨d, z, ne, ob, mA, n, r, q⟩ := (show ObjOk P w H h a (.ins C dx fs) from hok a _ e)
  exact ⟨mA, ⟨ob, n, ne⟩, r, q, z, d⟩
end
structure Cls (K : PySem.W.Frag) (C : Addr) : Prop where
  pg : PySem.W.plainGet K C Str.empty = true
  hd : PySem.W.hasDictIn K C = true
  po : PySem.W.plainOver K C = true
  sa : PySem.W.findIn K (.ref C) "__setattr__" = some (some (.builtin "object.__setattr__"))
theorem Cls.get {K : PySem.W.Frag} {C : Addr} (c : Cls K C) (f : Str) : PySem.W.plainGet K C f = true := c.pg
def NoAttr (K : PySem.W.Frag) (C : Addr) (f : Str) : Prop := PySem.W.findIn K (.ref C) f = some none
structure Con (K : PySem.W.Frag) (C : Addr) (f : Str) (v : V) (u : Value) : Prop where
  at_ : PySem.W.findIn K (.ref C) f = some (some u)
  rel : RelV v u
  get : PySem.W.specialIn K u "__get__" = some none
  cp : PySem.W.copiedNames.contains f = false
structure Meth (K : PySem.W.Frag) (C : Addr) (m : Str) (f : Addr) : Prop where
  at_ : PySem.W.findIn K (.ref C) m = some (some (.ref f))
  fn : PySem.W.isFn K (.ref f) = true
  kp : PySem.W.keepIn K (.ref f) = true
section
variable {X : Cx} {pins : List (Addr × Obj)} {σ : St} {H : Hp} {s : Shared} {a C dx : Addr} {fs : List (Str × V)} {f : Str} {v : V} {A : Around} {E : Value → Shared → Prop}
theorem getmeth_ok {m : Str} {g : Addr} {pl : Sem Bool} {Q : Value × List Value → Shared → Prop} (I : Inv X pins σ H s) (e : H a = some (.ins C dx fs)) (c : Cls X.K C) (k : Meth X.K C m g) (l : fs.lookup m = none)
    (h : Q (.ref g, [.ref a]) s) : wpAny (model X.prog X.w) A (getMethod (.ref a) m pl) Q E s := by
  obtain ⟨mA, O, r, _, _, _⟩ := ins_get I.hok e
  have hn : mA m = none := RelO.none_of (by rw [← l]; exact r m)
  exact get_meth I.kIn O (c.get m) k.at_ k.fn hn h
theorem Inv.made (I : Inv X pins σ H s) : Inv X pins σ (upd (upd H s.heap.objs.size (.own (s.heap.objs.size + 1))) (s.heap.objs.size + 1) (.ins C s.heap.objs.size []))
    { s with heap := (s.heap.push PySem.W.emptyDict).push (PySem.W.instObj C s.heap.objs.size) } := by
  have e1 : (s.heap.push PySem.W.emptyDict).get? s.heap.objs.size = some PySem.W.emptyDict := Heap.get?_push_size s.heap rfl
  have e2 : ((s.heap.push PySem.W.emptyDict).push (PySem.W.instObj C s.heap.objs.size)).get? (s.heap.objs.size + 1) = some (PySem.W.instObj C s.heap.objs.size) := by
    have := Heap.get?_push_size (s.heap.push PySem.W.emptyDict) (o := PySem.W.instObj C s.heap.objs.size) rfl
    rwa [Heap.size_push] at this
  have e3 : (s.heap.push PySem.W.emptyDict).Ns s.heap.objs.size (fun _ => none) := ⟨PySem.W.emptyDict, #[], _, e1, rfl, (fun e he => absurd he (by simp)), fun _ => rfl⟩
  have I1 := I.laid (a := s.heap.objs.size) (o := .own (s.heap.objs.size + 1)) (h' := s.heap.push PySem.W.emptyDict) (t' := s.toks) (fun b u q => Heap.get?_push_of_some _ q) (Nat.le_refl _) ⟨_, e1⟩
  refine I1.laid (a := s.heap.objs.size + 1) (o := .ins C s.heap.objs.size []) (t' := s.toks) (fun b u q => Heap.get?_push_of_some _ q) (Nat.le_of_eq (Heap.size_push _ _)) ?_
  have ne : s.heap.objs.size ≠ s.heap.objs.size + 1 := Nat.ne_of_lt (Nat.lt_succ_self _)
  refine ⟨by rw [upd_ne ne, upd_same], Nat.zero_le _, ne, e2, fun _ => none, (Heap.Ns1.of_empty e3).at fun o q => Heap.get?_push_of_some _ q, fun _ => True.intro, fun y hy => absurd rfl hy⟩
end
def tFld (K : PySem.W.Frag) (ta : TE) (f : Str) : TE := fun σ H Q => ta σ H fun x H1 => ∃ a C dx fs v, x = .ref a ∧ H1 a = some (.ins C dx fs) ∧ Cls K C ∧ NoAttr K C f ∧ fs.lookup f = some v ∧ Q v H1
def sFld (K : PySem.W.Frag) (ta tv : TE) (f : Str) : TS := fun D σ H => tv σ H fun y H1 => ta σ H1 fun x H2 => ∃ a C dx fs, x = .ref a ∧ H2 a = some (.ins C dx fs) ∧ Cls K C ∧ NoAttr K C f ∧ fs.length < 1000 ∧
  D.nx σ (upd H2 a (.ins C dx (putF f y fs)))
section
variable {X : Cx} {o e value : Expr} {f : Str} {pos pos' tpos : Pos} {ta tv : TE}
end
section
variable {X : Cx} {pins : List (Addr × Obj)} {σ : St} {H : Hp} {s : Shared} {A : Around} {E : Value → Shared → Prop} {Q : Value → Shared → Prop} {c : Value} {b : Bool}
inductive TyOf (K : PySem.W.Frag) (H : Hp) : V → Value → Prop where
  | non : TyOf K H .non (.type "NoneType")
  | bl (x : Bool) : TyOf K H (.bl x) (.type "bool")
  | int (i : Int) : TyOf K H (.int i) (.type "int")
  | str (x : Str) : TyOf K H (.str x) (.type "str")
  | flt (x : UInt64) : TyOf K H (.flt x) (.type "float")
  | lst {a : Addr} {xs : List V} (e : H a = some (.lst xs)) : TyOf K H (.ref a) (.type "list")
  | frz {a : Addr} {o : Obj} {xs : List V} (e : H a = some (.frz o (.lst xs))) : TyOf K H (.ref a) (.type "list")
  | tup {a : Addr} {xs : List V} (e : H a = some (.tup xs)) : TyOf K H (.ref a) (.type "tuple")
  | dK {a : Addr} {kvs : List (Key × V)} (e : H a = some (.dK kvs)) : TyOf K H (.ref a) (.type "dict")
  | dT {a : Addr} {kvs : List (List Key × V)} (e : H a = some (.dT kvs)) : TyOf K H (.ref a) (.type "dict")
  | ins {a C dx : Addr} {fs : List (Str × V)} (e : H a = some (.ins C dx fs)) (cl : Cls K C) (ha : PySem.W.findIn K (.ref C) "__class__" = some (some (.builtin "object.__class__")))
      (hn : PySem.W.specialIn K (.builtin "object.__class__") "__get__" = some (some (.builtin "getset_descriptor.__get__"))) (htk : PySem.W.takesIn K (.builtin "object.__class__") = some true)
      (hm : PySem.W.mroIn K C (.type "object") = some true) : TyOf K H (.ref a) (.ref C)
theorem isinst_ok {x : V} {u t : Value} (I : Inv X pins σ H s) (rx : RelV x u) (ty : TyOf X.K H x t) (e : PySem.W.kitOne X.K t c = some b) (h : ∀ tk, Q (.bool b) { s with toks := tk }) :
    wpAny (model X.prog X.w) A (call (.builtin "isinstance") [u, c]) Q E s := by
  cases ty with
  | non => cases (show u = Value.none from rx); exact PySem.W.kia_one PySem.W.kitx_none I.kIn True.intro e (fun z => nomatch z) h
  | bl y => cases (show u = Value.bool y from rx); exact PySem.W.kia_one PySem.W.kitx_bool I.kIn True.intro e (fun z => nomatch z) h
  | int i => obtain ⟨t, q⟩ := (show ∃ t, u = Value.int i t from rx); cases q; exact PySem.W.kia_one PySem.W.kitx_int I.kIn True.intro e (fun z => nomatch z) h
  | str y => obtain ⟨t, q⟩ := (show ∃ t, u = Value.str y t from rx); cases q; exact PySem.W.kia_one PySem.W.kitx_str I.kIn True.intro e (fun z => nomatch z) h
  | flt y => obtain ⟨t, q⟩ := (show ∃ t, u = Value.float y t from rx); cases q; exact PySem.W.kia_one PySem.W.kitx_float I.kIn True.intro e (fun z => nomatch z) h
  | @lst a xs ea =>
    cases (show u = Value.ref a from rx)
    obtain ⟨_, _, n, _, h1⟩ := (show ObjOk X.prog X.w H s.heap a (.lst xs) from I.hok a _ ea)
    exact PySem.W.kia_one PySem.W.kitx_list I.kIn ⟨_, h1, rfl⟩ e (fun z => nomatch z) h
  | @frz a ob xs ea =>
    cases (show u = Value.ref a from rx)
    obtain ⟨_, _, _, n, _, h1⟩ := (show ObjOk X.prog X.w H s.heap a (.frz ob (.lst xs)) from I.hok a _ ea)
    exact PySem.W.kia_one PySem.W.kitx_list I.kIn ⟨_, h1, rfl⟩ e (fun z => nomatch z) h
  | @tup a xs ea =>
    cases (show u = Value.ref a from rx)
    obtain ⟨_, _, _, p⟩ := (show ObjOk X.prog X.w H s.heap a (.tup xs) from I.hok a _ ea)
    obtain ⟨o, h1, h2, _⟩ := p
    exact PySem.W.kia_one PySem.W.kitx_tuple I.kIn ⟨o, h1, h2⟩ e (fun z => nomatch z) h
  | @dK a kvs ea =>
    cases (show u = Value.ref a from rx)
    obtain ⟨_, _, vs, _, p⟩ := (show ObjOk X.prog X.w H s.heap a (.dK kvs) from I.hok a _ ea)
    obtain ⟨o, es, ep, h1, h2, _⟩ := p
    exact PySem.W.kia_one PySem.W.kitx_dict I.kIn ⟨o, h1, h2.1⟩ e (fun z => nomatch z) h
  | @dT a kvs ea =>
    cases (show u = Value.ref a from rx)
    obtain ⟨_, _, xs, _, o, es, ep, h1, h2, _⟩ := (show ObjOk X.prog X.w H s.heap a (.dT kvs) from I.hok a _ ea)
    exact PySem.W.kia_one PySem.W.kitx_dict I.kIn ⟨o, h1, h2.1⟩ e (fun z => nomatch z) h
  | @ins a C dx fs ea cl ha hn htk hm =>
    cases (show u = Value.ref a from rx)
    obtain ⟨mA, O, _⟩ := ins_get I.hok ea
    obtain ⟨od, J, _⟩ := O.look
    exact PySem.W.kia_one (PySem.W.kitx_own (cl.get _) cl.hd ha hn htk hm) I.kIn J e (fun z => nomatch z) h
end
end L2
namespace L2
open PySem PySem.Spec PyProof.Rows
structure Room (k : Nat) (A : Around) : Prop where
  hd : A.handled = none
  dp : A.depth + 3 * k + 5 < recursionLimit
  un : A.units + 16 * k + 200 < cLine
theorem Room.mono {j k : Nat} {A : Around} (r : Room k A) (h : j ≤ k) : Room j A := ⟨r.hd, by have := r.dp; omega, by have := r.un; omega⟩
theorem Room.deeper {k : Nat} {A : Around} (r : Room (k + 1) A) (env : Env) : Room k (A.deeper env) :=
  ⟨r.hd, by have := r.dp; show A.depth + 1 + 3 * k + 5 < _; omega, by have := r.un; show A.units + 3 + 16 * k + 200 < _; omega⟩
theorem Room.in1 {k : Nat} {A : Around} (r : Room (k + 1) A) : Room k A.in1 :=
  ⟨r.hd, by have := r.dp; show A.depth + 3 * k + 5 < _; omega, by have := r.un; show A.units + 1 + 16 * k + 200 < _; omega⟩
theorem Room.depth {k : Nat} {A : Around} (r : Room k A) : A.depth < recursionLimit := by have := r.dp; omega
theorem Room.units {k : Nat} {A : Around} (r : Room k A) : A.units + 64 < cLine := by have := r.un; omega
def tNil : TA := fun _ H Q => Q [] H
def tCons (ta : TE) (tr : TA) : TA := fun σ H Q => ta σ H fun x H1 => tr σ H1 fun xs H2 => Q (x :: xs) H2
section
variable {X : Cx} {e : Expr} {es : List Expr} {te : TE} {t : TA} {pos : Pos}
theorem pa_nil : PA X [] tNil := fun _ _ _ _ H Q I h => Calls.spliced_nil ⟨[], H, I, .nil, h⟩
theorem pa_cons (ha : PE X e te) (hr : PA X es t) (hs : starEach (e :: es) X.env = (false, eval e X.env) :: starEach es X.env := by rfl) : PA X (e :: es) (tCons te t) := by
  intro pos pins s σ H Q I h
  rw [hs]
  show wpAny _ _ (spliced ((false, eval e X.env) :: backTo pos (starEach es X.env))) _ _ s
  refine Calls.spliced_cons (thn (ha pins s σ H _ I h) fun u s1 ⟨x, H1, I1, r1, q1⟩ => ?_)
  exact thn (hr pos pins s1 σ H1 _ I1 q1) fun us s2 ⟨xs, H2, I2, r2, q2⟩ => ⟨x :: xs, H2, I2, .cons r1 r2, q2⟩
def tTup (t : TA) : TE := fun σ H Q => t σ H fun xs H1 => xs.length ≤ sizeLine ∧ ∀ p, H1 p = none → Q (.ref p) (upd H1 p (.tup xs))
def tLst (t : TA) : TE := fun σ H Q => t σ H fun xs H1 => xs.length ≤ sizeLine ∧ ∀ p, H1 p = none → Q (.ref p) (upd H1 p (.lst xs))
theorem pe_tup {x1} (h : PA X es t) : PE X (.Tuple es x1 pos) (tTup t) := by
  intro pins s σ H Q I hq
  refine wpAny_Tuple_spliced (thn (h pos pins s σ H _ I hq) fun us s1 ⟨xs, H1, I1, r, z, q⟩ => ⟨by rw [← r.length]; exact z, ?_⟩)
  have hf : H1 s1.heap.objs.size = none := I1.hok.fresh (Nat.le_refl _)
  refine ⟨.ref s1.heap.objs.size, upd H1 s1.heap.objs.size (.tup xs), I1.laid (t' := s1.toks) (fun b u e => Heap.get?_push_of_some _ e) (Nat.le_refl _) ?_, rfl, q _ hf⟩
  exact ⟨z, us, r, ⟨_, Heap.get?_push_size _ rfl, rfl, _, rfl⟩⟩
theorem pe_lst (h : PA X es t) : PE X (.List es pos) (tLst t) := by
  intro pins s σ H Q I hq
  refine wpAny_List_spliced (thn (h pos pins s σ H _ I hq) fun us s1 ⟨xs, H1, I1, r, z, q⟩ => ⟨by rw [← r.length]; exact z, ?_⟩)
  have hf : H1 s1.heap.objs.size = none := I1.hok.fresh (Nat.le_refl _)
  refine ⟨.ref s1.heap.objs.size, upd H1 s1.heap.objs.size (.lst xs), I1.laid (t' := s1.toks) (fun b u e => Heap.get?_push_of_some _ e) (Nat.le_refl _) ?_, rfl, q _ hf⟩
  exact ⟨z, us, 0, r, Heap.get?_push_size _ rfl⟩
end
abbrev Sp := List V → Hp → VK → XK → Prop
abbrev CXT := List Env → Hp → Shared → XK → Value → Shared → Prop
structure Env0 (P : Program) (w : World) (K : PySem.W.Frag) (mg : Str → Option Value) (base : Heap) (A : Around) (outer : List Env) (s : Shared) (H : Hp) : Prop where
  frames : A.frames = some outer
  mod : Mod K mg base
  bs : ∀ b o, base.get? b = some o → s.heap.get? b = some o ∧ H b = none
  bsz : base.objs.size ≤ s.heap.objs.size
  funs : s.heap.FunFrames base outer
  frf : ∀ b ∈ frs outer, H b = none
  hok : HOk P w H s.heap
  bare : AllBare s.gens
def CE (outer : List Env) (P : Program) (w : World) (H : Hp) (s : Shared) (Q : VK) (u : Value) (s' : Shared) : Prop :=
  ∃ v H', s'.os = s.os ∧ AllBare s'.gens ∧ Un (frs outer) [] H H' s.heap s'.heap ∧ HOk P w H' s'.heap ∧ RelV v u ∧ Q v H'
def CR (CX : CXT) (outer : List Env) (P : Program) (w : World) (H : Hp) (s : Shared) (Q : VK) (E : XK) (r : Result) (s' : Shared) : Prop :=
  match r with
  | .ok (.ret u) => CE outer P w H s Q u s'
  | .ok _ => False
  | .error e => CX outer H s E e s'
structure FnOk (P : Program) (w : World) (K : PySem.W.Frag) (mg : Str → Option Value) (base : Heap) (CX : CXT) (k : Nat) (f : Addr) (fd : FuncData) (ps : List Str) (sp : Sp) : Prop where
  len : ∀ vs H Q E, sp vs H Q E → vs.length = ps.length
  run : ∀ (A : Around) (outer : List Env) (s : Shared) (H : Hp) (args : Args) (us : List Value) (vs : List V) (Q : VK) (E : XK), Room k A → Env0 P w K mg base A outer s H → BindsTo s fd args (ps.zip us) → Vals vs us → sp vs H Q E →
    codeAny (model P w) A (.call (.ref f) args) (CR CX outer P w H s Q E) s
theorem FnOk.mono {P : Program} {w : World} {K : PySem.W.Frag} {mg : Str → Option Value} {base : Heap} {CX : CXT} {j k : Nat} {f : Addr} {fd : FuncData} {ps : List Str} {sp : Sp} (F : FnOk P w K mg base CX j f fd ps sp) (h : j ≤ k) :
    FnOk P w K mg base CX k f fd ps sp := ⟨F.len, fun A outer s H args us vs Q E hr => F.run A outer s H args us vs Q E (hr.mono h)⟩
theorem FnOk.imp {P : Program} {w : World} {K : PySem.W.Frag} {mg : Str → Option Value} {base : Heap} {CX : CXT} {k : Nat} {f : Addr} {fd : FuncData} {ps : List Str} {sp sp' : Sp} (F : FnOk P w K mg base CX k f fd ps sp)
    (h : ∀ vs H Q E, sp' vs H Q E → sp vs H Q E) : FnOk P w K mg base CX k f fd ps sp' :=
  ⟨fun vs H Q E q => F.len vs H Q E (h _ _ _ _ q), fun A outer s H args us vs Q E hr he hb hv hs => F.run A outer s H args us vs Q E hr he hb hv (h _ _ _ _ hs)⟩
theorem Env0.in1 {P : Program} {w : World} {K : PySem.W.Frag} {mg : Str → Option Value} {base : Heap} {A : Around} {outer : List Env} {s : Shared} {H : Hp} (e : Env0 P w K mg base A outer s H) :
    Env0 P w K mg base A.in1 outer s H := ⟨e.frames, e.mod, e.bs, e.bsz, e.funs, e.frf, e.hok, e.bare⟩
section
variable {X : Cx} {pins : List (Addr × Obj)} {σ : St} {H : Hp} {s s' : Shared}
theorem Inv.env0 (I : Inv X pins σ H s) : Env0 X.prog X.w X.K X.mg X.base X.A X.stack s H :=
  ⟨I.ok.frames, I.ok.mod, I.bs, Nat.le_trans I.ok.bsz I.sz, I.stack, I.stkFree, I.hok, I.bare⟩
theorem Inv.after {Q : VK} {u : Value} (I : Inv X pins σ H s) (h : CE X.stack X.prog X.w H s Q u s') : EP X pins σ Q u s' := by
  obtain ⟨v, H', os, bare, un, hok, r, q⟩ := h
  obtain ⟨hh, g, d, t, os'⟩ := s'
  obtain rfl : os' = s.os := os
  exact ⟨v, H', I.call (h' := hh) (g' := g) (d' := d) (t' := t) (ch := []) un hok bare (fun b z => absurd z (by simp)), r, q⟩
end
def tCall (sp : Sp) (dvs : List V) (E : XK) (t : TA) : TE := fun σ H Q => t σ H fun vs H1 => sp (vs ++ dvs) H1 Q E
def tMake (C : Addr) (sp : Sp) (dvs : List V) (E : XK) (t : TA) : TE := fun σ H Q => t σ H fun vs H1 => ∀ x dx, H1 x = none → H1 dx = none → dx ≠ x →
  sp (.ref x :: (vs ++ dvs)) (upd (upd H1 dx (.own x)) x (.ins C dx [])) (fun v H2 => v = .non ∧ Q (.ref x) H2) E
def Binds (K : PySem.W.Frag) (fd : FuncData) (ps : List Str) (ds : List Value) : Prop :=
  ∀ (s : Shared) (us : List Value), K.In s.heap → (us ++ ds).length = ps.length → BindsTo s fd ⟨us, []⟩ (ps.zip (us ++ ds))
theorem Binds.all {K : PySem.W.Frag} {fd : FuncData} {ps : List Str} (h : ∀ us : List Value, us.length = ps.length → bindArgs fd ⟨us, []⟩ = pure (ps.zip us)) : Binds K fd ps [] := fun s us _ hl => by
  rw [List.append_nil] at hl ⊢
  exact .of_eq (h us hl)
def Passes (CX : CXT) (X : Cx) (E : XK) : Prop := ∀ (pins : List (Addr × Obj)) (σ : St) (H : Hp) (s : Shared) (e : Value) (s' : Shared), Inv X pins σ H s → CX X.stack H s E e s' → X.xe e s'
section
variable {X : Cx} {CX : CXT} {k : Nat} {f C : Addr} {fd : FuncData} {ps : List Str} {sp : Sp} {dvs : List V} {ds : List Value} {E : XK} {x m : Str} {p pos apos : Pos} {e o : Expr} {es : List Expr} {ta : TE} {t : TA}
theorem run_fn {pins : List (Addr × Obj)} {σ : St} {H : Hp} {s : Shared} {Q : VK} {us : List Value} {vs : List V} (F : FnOk X.prog X.w X.K X.mg X.base CX k f fd ps sp) (hr : Room k X.A) (hb : Binds X.K fd ps ds) (hd : Vals dvs ds) (hx : Passes CX X E)
    (I : Inv X pins σ H s) (r : Vals vs us) (h : sp (vs ++ dvs) H Q E) : wpAny (model X.prog X.w) X.A (call (.ref f) us) (EP X pins σ Q) X.xe s := by
  have r2 : Vals (vs ++ dvs) (us ++ ds) := r.append hd
  have hl : (us ++ ds).length = ps.length := by rw [← r2.length]; exact F.len _ _ _ _ h
  refine wpAny_call (codeAny_mono (F.run X.A X.stack s H ⟨us, []⟩ (us ++ ds) (vs ++ dvs) Q E hr I.env0 (hb s us I.kIn hl) r2 h) fun r s' hq => ?_)
  cases r with
  | error e => exact hx pins σ H s e s' I hq
  | ok fl =>
    cases fl with
    | ret u => exact I.after hq
    | next => exact False.elim hq
    | brk => exact False.elim hq
    | cont => exact False.elim hq
theorem pe_call (F : FnOk X.prog X.w X.K X.mg X.base CX k f fd ps sp) (hr : Room k X.A) (hg : Gl X x) (hm : X.mg x = some (.ref f)) (hk : PySem.W.keepIn X.K (.ref f) = true) (hb : Binds X.K fd ps ds) (hd : Vals dvs ds) (hx : Passes CX X E)
    (ha : PA X (e :: es) t) (hdb : (x == ("__debug__" : Str)) = false := by decide) (he : starEach (e :: es) X.env = (false, eval e X.env) :: starEach es X.env := by rfl) (hpl : (backTo pos (starEach es X.env)).any (·.1) = false := by rfl) :
    PE X (.Call (.Name x p) (e :: es) [] pos) (tCall sp dvs E t) := by
  intro pins s σ H Q I h
  refine wpAny_Call_Name_kw (ld_glob I hg hm ?_ hdb)
  refine PySem.W.callWith_K (h₀ := X.base) I.ok.mod.kin hk (thn (ha pos pins s σ H _ I h) fun us s1 ⟨vs, H1, I1, r, q⟩ => ⟨I1.kIn, ?_⟩) he hpl
  exact run_fn F hr hb hd hx I1 r q
structure Mk (K : PySem.W.Frag) (C f : Addr) : Prop where
  makes : PySem.W.makesIn K C = true
  init : PySem.W.findIn K (.ref C) "__init__" = some (some (.ref f))
  fn : PySem.W.isFn K (.ref f) = true
  kp : PySem.W.keepIn K (.ref C) = true
end
section
variable {X : Cx} {CX : CXT} {k : Nat} {f C : Addr} {fd : FuncData} {ps ks : List Str} {sp : Sp} {E : XK} {x m : Str} {p pos apos kpos : Pos} {e o : Expr} {es : List Expr} {kws : List Keyword} {te ta : TE} {t tk : TA} {nm : Option Str}
structure KBinds (K : PySem.W.Frag) (fd : FuncData) (ps ks : List Str) (g : List Value → List Value → List Value) (gV : List V → List V → List V) : Prop where
  to : ∀ (s : Shared) (us ws : List Value), K.In s.heap → (g us ws).length = ps.length → BindsTo s fd ⟨us, ks.zip ws⟩ (ps.zip (g us ws))
  rel : ∀ {vs : List V} {us : List Value} {zs : List V} {ws : List Value}, Vals vs us → Vals zs ws → Vals (gV vs zs) (g us ws)
variable {g : List Value → List Value → List Value} {gV : List V → List V → List V}
end
structure FnScope (N P : List Str) (sc : Scope) : Prop where
  kind : sc.kind = .function
  co : sc.isCoroutine = false
  gen : sc.isGenerator = false
  nd : N.Nodup
  pre : N.take P.length = P
  par : ∀ x ∈ P, sc.names.lookup x = some .local ∨ sc.names.lookup x = some .cell
  nofree : ∀ y ∈ sc.names, y.2 ≠ .free
theorem bindL_out {kindOf : Str → Option NameKind} {x : Str} : ∀ {binds : List (Str × Value)} {m : Str → Option Value}, (∀ v, (x, v) ∉ binds) → bindL kindOf binds m x = m x
  | [], _, _ => rfl
  | (n, v) :: r, m, h => by
    unfold bindL
    rw [bindL_out fun w hw => h w (List.mem_cons_of_mem _ hw)]
    split
    · have : x ≠ n := by rintro rfl; exact h v List.mem_cons_self
      simp [this]
    · rfl
theorem bindC_out {kindOf : Str → Option NameKind} {x : Str} : ∀ {binds : List (Str × Value)} {m : Str → Option Value}, (∀ v, (x, v) ∉ binds) → bindC kindOf binds m x = m x
  | [], _, _ => rfl
  | (n, v) :: r, m, h => by
    unfold bindC
    rw [bindC_out fun w hw => h w (List.mem_cons_of_mem _ hw)]
    split
    · rfl
    · have : x ≠ n := by rintro rfl; exact h v List.mem_cons_self
      simp [this]
theorem bindL_get {kindOf : Str → Option NameKind} {x : Str} {v : Value} : ∀ {P : List Str} {vs : List Value} {i : Nat} {m : Str → Option Value}, P.Nodup → P[i]? = some x → vs[i]? = some v → kindOf x = some .local →
    bindL kindOf (P.zip vs) m x = some v
  | [], _, _, _, _, h, _, _ => by simp at h
  | _ :: _, [], _, _, _, _, h, _ => by simp at h
  | p :: P, w :: vs, 0, m, nd, h1, h2, hk => by
    simp at h1 h2; subst h1; subst h2
    show bindL kindOf ((p, w) :: P.zip vs) m p = _
    unfold bindL
    rw [bindL_out fun v hv => (List.nodup_cons.mp nd).1 (List.of_mem_zip hv).1, if_pos hk]
    simp
  | p :: P, w :: vs, i + 1, m, nd, h1, h2, hk => by
    show bindL kindOf ((p, w) :: P.zip vs) m x = _
    unfold bindL
    exact bindL_get (i := i) (List.nodup_cons.mp nd).2 (by simpa using h1) (by simpa using h2) hk
theorem bindC_get {kindOf : Str → Option NameKind} {x : Str} {v : Value} : ∀ {P : List Str} {vs : List Value} {i : Nat} {m : Str → Option Value}, P.Nodup → P[i]? = some x → vs[i]? = some v → kindOf x ≠ some .local →
    bindC kindOf (P.zip vs) m x = some v
  | [], _, _, _, _, h, _, _ => by simp at h
  | _ :: _, [], _, _, _, _, h, _ => by simp at h
  | p :: P, w :: vs, 0, m, nd, h1, h2, hk => by
    simp at h1 h2; subst h1; subst h2
    show bindC kindOf ((p, w) :: P.zip vs) m p = _
    unfold bindC
    rw [bindC_out fun v hv => (List.nodup_cons.mp nd).1 (List.of_mem_zip hv).1, if_neg hk]
    simp
  | p :: P, w :: vs, i + 1, m, nd, h1, h2, hk => by
    show bindC kindOf ((p, w) :: P.zip vs) m x = _
    unfold bindC
    exact bindC_get (i := i) (List.nodup_cons.mp nd).2 (by simpa using h1) (by simpa using h2) hk
def start (N : List Str) (vs : List V) : St := vs.map some ++ List.replicate (N.length - vs.length) none
def cxOf (CX : CXT) (P : Program) (w : World) (K : PySem.W.Frag) (mg : Str → Option Value) (base : Heap) (N : List Str) (qual : Str) (scope : Scope) (f : Addr) (cd : Value) (A : Around) (outer : List Env) (s : Shared) (H : Hp) (E : XK) : Cx where
  prog := P
  w := w
  K := K
  mg := mg
  base := base
  A := A.deeper (envOfC qual scope s.heap.objs.size f cd)
  N := N
  s₀ := s
  H₀ := H
  env := envOfC qual scope s.heap.objs.size f cd
  outer := outer
  stack := envOfC qual scope s.heap.objs.size f cd :: outer
  ex := []
  calm := true
  fn := fun _ => true
  pn := []
  xe := fun e s' => wpAny (model P w) (A.deeper (envOfC qual scope s.heap.objs.size f cd)) (leaving (envOfC qual scope s.heap.objs.size f cd) e) (fun _ s'' => CX outer H s E e s'') (fun e' s'' => CX outer H s E e' s'') s'
theorem cell_has {sc : Scope} {n : Nat} {x : Str} (h : sc.names.lookup x = some .cell) : ∃ c, (cellsFrom n sc.names []).lookup x = some c := by
  have q := PySem.W.cellsFrom_some sc.names n [] (.inl h)
  exact Option.isSome_iff_exists.mp q
theorem inv_start {CX : CXT} {P : Program} {w : World} {K : PySem.W.Frag} {mg : Str → Option Value} {base : Heap} {N ps : List Str} {qual : Str} {scope : Scope} {f : Addr} {cd : Value} {A : Around} {outer : List Env} {s s1 : Shared} {H : Hp} {E : XK} {us : List Value} {vs : List V}
    (S : FnScope N ps scope) (hd : A.handled = none) (e0 : Env0 P w K mg base A outer s H) (hl : vs.length = ps.length) (r : Vals vs us)
    (x : InCallC s s.heap.objs.size (bindL (envOfC qual scope s.heap.objs.size f cd).kindOf (ps.zip us) fun _ => none) (cellsFrom (s.heap.objs.size + 1) scope.names []) (bindC (envOfC qual scope s.heap.objs.size f cd).kindOf (ps.zip us) fun _ => none) s1) :
    Inv (cxOf CX P w K mg base N qual scope f cd A outer s H E) [] (start N vs) H s1 := by
  have hpl : ps.length ≤ N.length := by have := congrArg List.length S.pre; rw [List.length_take] at this; omega
  obtain ⟨h1, tk, rfl, hk⟩ := x.done
  have noA : ∀ b : Addr, b ∉ (cxOf CX P w K mg base N qual scope f cd A outer s H E).ex := fun b z => absurd (show b ∈ ([] : List Addr) from z) (by simp)
  refine ⟨⟨e0.mod, S.kind, rfl, rfl, Nat.le_refl _, fun y z c h1 h2 => ?_, fun y hy => ?_, fun y c _ h => ?_, fun _ => hd, Around.frames_deeper e0.frames, .inr ⟨rfl, rfl⟩, fun b z => absurd z (noA b), e0.bs, e0.bsz, fun b _ _ => noA b, fun b z => absurd z (noA b), e0.funs, e0.frf⟩,
    rfl, e0.bare, Un.kept hk, ⟨_, x.toInCall.ns, fun i y v h1 h2 h3 => ?_⟩, fun y c h => ⟨_, x.cell y c h⟩, e0.hok.fresh (Nat.le_refl _), fun y c h => ?_, fun p hp => absurd (show p ∈ ([] : List (Addr × Obj)) from hp) (by simp), e0.hok.kept hk, ?_⟩
  · exact name_of_addr x.apart (PySem.mem_of_lookup h1) (PySem.mem_of_lookup h2)
  · have hy : scope.names.lookup y = some .cell ∨ scope.names.lookup y = some .free := hy
    rcases hy with hy | hy
    · exact cell_has hy
    · exact absurd rfl (S.nofree _ (PySem.mem_of_lookup hy))
  · exact Nat.le_of_lt (x.above y c (PySem.mem_of_lookup h))
  · have hi : i < vs.length := by
      unfold start at h2
      by_cases hi : i < vs.length
      · exact hi
      · rw [List.getElem?_append_right (by simpa using hi)] at h2
        rw [List.getElem?_replicate] at h2
        split at h2 <;> cases h2
    have ha : vs[i]? = some v := by
      unfold start at h2
      rw [List.getElem?_append_left (by simpa using hi), List.getElem?_map] at h2
      cases e : vs[i]? with
      | none => rw [e] at h2; cases h2
      | some a => rw [e] at h2; cases h2; rfl
    obtain ⟨u, hu, rv⟩ := r.get ha
    have hp : ps[i]? = some y := by
      rw [← S.pre, List.getElem?_take_of_lt (by omega)]; exact h1
    have ndP : ps.Nodup := by rw [← S.pre]; exact S.nd.sublist (List.take_sublist _ _)
    refine ⟨u, rv, ?_⟩
    rcases S.par y (List.mem_of_getElem? hp) with k | k
    · exact .inl ⟨k, bindL_get ndP hp hu k⟩
    · obtain ⟨c, e⟩ := cell_has (n := s.heap.objs.size + 1) k
      refine .inr ⟨.inl k, c, e, ?_⟩
      have q := x.cell y c e
      rw [bindC_get ndP hp hu (by show scope.names.lookup y ≠ _; rw [k]; decide)] at q
      exact q
  · exact e0.hok.fresh (Nat.le_of_lt (x.above y c (PySem.mem_of_lookup h)))
  · unfold start
    show _ = N.length
    rw [List.length_append, List.length_map, List.length_replicate]
    omega
theorem fn_of {CX : CXT} {P : Program} {w : World} {K : PySem.W.Frag} {mg : Str → Option Value} {base : Heap} {k : Nat} {f : Addr} {name qual : Str} {params : Arguments} {body : List Stmt} {scope : Scope} {dV kV doc pm cdv ct oc : Value} {an od : Option Addr}
    {osl : Array (Option Value)} {N ps : List Str} {sp : Sp} (lk : K.lookup f = some ⟨oc, od, .func (PySem.W.fnOf name qual params body scope dV kV doc pm an cdv ct), osl⟩) (hcd : PySem.W.codeIn K cdv qual = true) (S : FnScope N ps scope)
    (len : ∀ vs H Q E, sp vs H Q E → vs.length = ps.length)
    (hbody : ∀ (A : Around) (outer : List Env) (s : Shared) (H : Hp) (vs : List V) (Q : VK) (E : XK), Room k (A.deeper (envOfC qual scope s.heap.objs.size f cdv)) → sp vs H Q E →
      ∃ t, PSs (cxOf CX P w K mg base N qual scope f cdv A outer s H E) body t ∧ t { nx := fun _ H' => Q .non H', rt := Q } (start N vs) H) :
    FnOk P w K mg base CX (k + 1) f (PySem.W.fnOf name qual params body scope dV kV doc pm an cdv ct) ps sp := by
  refine ⟨len, fun A outer s H args us vs Q E hr e0 hb r hsp => ?_⟩
  have hl := len _ _ _ _ hsp
  have KX : K.In s.heap := e0.mod.kin.keeps fun b o e => (e0.bs b o e).1
  have lim : s.heap.NoLimit := e0.mod.nolimit.keeps fun b o e => (e0.bs b o e).1
  have hkind : ∀ y ∈ ps.zip us, scope.names.lookup y.1 = some .local ∨ (scope.names.lookup y.1 = some .cell ∧ ((cellsFrom (s.heap.objs.size + 1) scope.names []).lookup y.1).isSome = true) := fun ⟨n, v⟩ hy => by
    rcases S.par n (List.of_mem_zip hy).1 with q | q
    · exact .inl q
    · exact .inr ⟨q, PySem.W.cellsFrom_some _ _ _ (.inl q)⟩
  refine codeAny_call_function hr.depth (KX _ _ lk) rfl S.co S.gen rfl (PySem.W.codeRec_of KX hcd) (hb _ _ _ _ ?_)
  refine wpAny_newFunctionEnv_cells S.kind hkind fun env he s1 x => ?_
  subst he
  refine ⟨lim.keeps x.toInCall.keep, codeAny_func ?_⟩
  obtain ⟨t, ht, hq⟩ := hbody A outer s H vs Q E (hr.deeper _) hsp
  have I : Inv (cxOf CX P w K mg base N qual scope f cdv A outer s H E) [] (start N vs) H s1 := inv_start S hr.hd e0 hl r x
  refine wpAny_mono (ht [] s1 (start N vs) H _ I hq) (fun fl s' hs => ?_) fun e s' hs => hs
  have fin : ∀ {σ' : St} {H' : Hp} {v : V} {u : Value}, Inv (cxOf CX P w K mg base N qual scope f cdv A outer s H E) [] σ' H' s' → RelV v u → Q v H' → CE outer P w H s Q u s' :=
    fun {σ' H' v u} J rv q => ⟨v, H', J.os, J.bare, J.base, J.hok, rv, q⟩
  cases fl with
  | ret u =>
    obtain ⟨v, σ', H', J, rv, q⟩ := hs
    exact fin J rv q
  | next =>
    obtain ⟨σ', H', J, q⟩ := hs
    exact fin (v := V.non) (u := Value.none) J rfl q
  | brk =>
    obtain ⟨_, _, _, q⟩ := hs
    exact False.elim q
  | cont =>
    obtain ⟨_, _, _, q⟩ := hs
    exact False.elim q
end L2
namespace L2
open PySem PySem.Spec PyProof.Rows
section
variable {X : Cx} {x : Str} {p pos : Pos} {e : Expr} {es : List Expr} {t : TA} {id T : String} {r : List V → Hp → VK → Prop}
def tCB (r : List V → Hp → VK → Prop) (t : TA) : TE := fun σ H Q => t σ H fun vs H1 => r vs H1 Q
theorem pe_callB (hc : CallR X (.builtin id) r) (hg : Gl X x) (hm : X.mg x = none) (hv : bootBuiltins x = some (.builtin id)) (ha : PA X (e :: es) t) (hn : x ≠ "__name__" := by decide) (hdb : (x == ("__debug__" : Str)) = false := by decide)
    (he : starEach (e :: es) X.env = (false, eval e X.env) :: starEach es X.env := by rfl) (hpl : (backTo pos (starEach es X.env)).any (·.1) = false := by rfl) : PE X (.Call (.Name x p) (e :: es) [] pos) (tCB r t) := by
  intro pins s σ H Q I h
  refine wpAny_Call_Name_kw (ld_blt I hg hm hv ?_ hn hdb)
  exact PyProof.Rows.callWith_builtin1 (thn (ha pos pins s σ H _ I h) fun us s1 ⟨vs, H1, I1, r1, q1⟩ => hc pins s1 σ H1 vs us Q I1 r1 q1) he hpl
end
end L2
namespace HT
open PySem PyProof.Rows
section
open PySem.SeqAt
open PySem.AutoSeq1 (wpAny_loadPart')
open PySem.MeetsSeq PySem.MeetsSeq2 PySem.MeetsSeq3
end
section
variable {prog : Program} {w : World} {A : Around} {E : Value → Shared → Prop} {s : Shared}
def sIx (n d : Nat) : Option Int → Nat
  | none => d
  | some v => if v < 0 then (v + (n : Int)).toNat else min v.toNat n
end
end HT
namespace L2
open PySem PySem.Spec PyProof.Rows
abbrev TO := St → Hp → (Option Int → Hp → Prop) → Prop
def PO (X : Cx) (e : Option Expr) (t : TO) : Prop :=
  ∀ (pins : List (Addr × Obj)) (s : Shared) (σ : St) (H : Hp) (Q : Option Int → Hp → Prop), Inv X pins σ H s → t σ H Q →
    wpAny (model X.prog X.w) X.A (evalPart e X.env) (fun u s' => ∃ o H', Inv X pins σ H' s' ∧ IsPart u o ∧ Q o H') X.xe s
def tNoPart : TO := fun _ H Q => Q none H
def tPart (t : TE) : TO := fun σ H Q => t σ H fun x H1 => ∃ i, x = .int i ∧ Q (some i) H1
section
variable {X : Cx} {e : Expr} {te : TE} {lo hi : Option Expr} {tl th : TO} {pos p2 : Pos}
theorem po_none : PO X none tNoPart := by
  intro pins s σ H Q I h
  rw [evalPart_none]
  exact wpAny_pure ⟨none, H, I, .none, h⟩
theorem po_some (h : PE X e te) : PO X (some e) (tPart te) := by
  intro pins s σ H Q I hw
  rw [evalPart_some]
  refine thn (h pins s σ H _ I hw) fun u s1 ⟨x, H1, I1, r1, q1⟩ => ?_
  obtain ⟨i, rfl, q⟩ := q1
  obtain ⟨t, rfl⟩ := r1
  exact ⟨some i, H1, I1, .int i t, q⟩
def SlR (X : Cx) (r : V → Option Int → Option Int → Hp → VK → Prop) : Prop :=
  ∀ (pins : List (Addr × Obj)) (s : Shared) (σ : St) (H : Hp) (x : V) (v vl vu : Value) (lo hi : Option Int) (sl : Addr) (Q : VK), Inv X pins σ H s → RelV x v → s.heap.IsSliceOf sl vl vu .none → IsPart vl lo → IsPart vu hi → r x lo hi H Q →
    ∃ T id, typeLookup (.type T) "__getitem__" = pure (some (.builtin id)) ∧ s.TypeIs v T ∧ wpAny (model X.prog X.w) X.A (getItem v (.ref sl)) (EP X pins σ Q) X.xe s
def tSl (r : V → Option Int → Option Int → Hp → VK → Prop) (te : TE) (tl th : TO) : TE := fun σ H Q => te σ H fun x H1 => tl σ H1 fun l H2 => th σ H2 fun u H3 => r x l u H3 Q
theorem pe_slice {r : V → Option Int → Option Int → Hp → VK → Prop} (hr : SlR X r) (he : PE X e te) (hl : PO X lo tl) (hu : PO X hi th) : PE X (.Subscript e (.Slice lo hi none p2) pos) (tSl r te tl th) := by
  intro pins s σ H Q I h
  refine Subscript_ (thn (he pins s σ H _ I h) fun v s1 ⟨x, H1, I1, r1, q1⟩ => ?_)
  refine wpAny_Slice (thn (hl pins s1 σ H1 _ I1 q1) fun vl s2 ⟨l, H2, I2, pl, q2⟩ => thn (hu pins s2 σ H2 _ I2 q2) fun vu s3 ⟨u, H3, I3, pu, q3⟩ => ?_)
  rw [evalPart_none]
  refine wpAny_pure ?_
  have I4 : Inv X pins σ H3 { s3 with heap := s3.heap.push { cls := .type "slice", data := .fields #[vl, vu, .none] } } := I3.kept (t' := s3.toks) fun b ob q => Heap.get?_push_of_some _ q
  obtain ⟨T, id, hT, ht, hg⟩ := hr pins { s3 with heap := s3.heap.push { cls := .type "slice", data := .fields #[vl, vu, .none] } } σ H3 x v vl vu l u s3.heap.objs.size Q I4 r1 (Heap.IsSliceOf.new ..) pl pu q3
  show wpAny (model X.prog X.w) X.A (subscriptTail e (.Slice lo hi none p2) v (.ref s3.heap.objs.size)) (EP X pins σ Q) X.xe { s3 with heap := s3.heap.push { cls := .type "slice", data := .fields #[vl, vu, .none] } }
  exact tail_any (ops := [.ref s3.heap.objs.size, v]) ht hT hg (by with_unfolding_all rfl)
def cutV (xs : List V) (lo hi : Option Int) : List V := (xs.drop (HT.sIx xs.length 0 lo)).take (HT.sIx xs.length xs.length hi - HT.sIx xs.length 0 lo)
theorem cutV_length (xs : List V) (lo hi : Option Int) : (cutV xs lo hi).length ≤ xs.length := by
  unfold cutV
  rw [List.length_take, List.length_drop]
  omega
def rSlT (K : PySem.W.Frag) : V → Option Int → Option Int → Hp → VK → Prop := fun x lo hi H Q => ∃ a xs, x = .ref a ∧ SqT K H a xs ∧
  ¬ (HT.sIx xs.length 0 lo = 0 ∧ HT.sIx xs.length xs.length hi = xs.length) ∧ ∀ p, H p = none → Q (.ref p) (upd H p (.tup (cutV xs lo hi)))
end
end L2
namespace L2
open PySem PySem.Spec PyProof.Rows
def ixN (n : Nat) (i : Int) : Option Nat := if 0 ≤ i then (if i < n then some i.toNat else none) else if -(n : Int) ≤ i then some (i + n).toNat else none
def atI {α : Type} (xs : List α) (i : Int) : Option α := (ixN xs.length i).bind fun j => xs[j]?
theorem ixN_seq {n : Nat} {i : Int} {j : Nat} (h : ixN n i = some j) : seqIndex? i n = some j ∧ j < n ∧ -(n : Int) ≤ i ∧ i < n := by
  unfold ixN at h
  by_cases h0 : 0 ≤ i
  · rw [if_pos h0] at h
    by_cases h1 : i < n
    · rw [if_pos h1] at h
      have e : i.toNat = j := Option.some.inj h
      exact ⟨by rw [seqIndex_of h0 h1, e], by omega, by omega, h1⟩
    · rw [if_neg h1] at h; cases h
  · rw [if_neg h0] at h
    by_cases h1 : -(n : Int) ≤ i
    · rw [if_pos h1] at h
      have e : (i + n).toNat = j := Option.some.inj h
      exact ⟨by rw [seqIndex_neg (by omega) h1, e], by omega, h1, by omega⟩
    · rw [if_neg h1] at h; cases h
theorem atI_get {α : Type} {xs : List α} {i : Int} {v : α} (h : atI xs i = some v) : ∃ j, seqIndex? i xs.length = some j ∧ xs[j]? = some v ∧ j < xs.length ∧ -(xs.length : Int) ≤ i ∧ i < xs.length := by
  unfold atI at h
  cases e : ixN xs.length i with
  | none => rw [e] at h; cases h
  | some j =>
    rw [e] at h
    obtain ⟨h1, h2, h3, h4⟩ := ixN_seq e
    exact ⟨j, h1, h, h2, h3, h4⟩
theorem atI_nat {α : Type} {xs : List α} {j : Nat} {v : α} (h : xs[j]? = some v) : atI xs (j : Int) = some v := by
  have hj : j < xs.length := (List.getElem?_eq_some_iff.mp h).1
  have e : ixN xs.length (j : Int) = some j := by
    unfold ixN
    rw [if_pos (by omega), if_pos (by omega)]; simp
  unfold atI; rw [e]; exact h
def PlainIx (b : Expr) : Prop := ∀ o i, subscripted b false o i = operate [o, i] (getItem o i)
def IxR (X : Cx) (r : R2) : Prop :=
  ∀ (value slice : Expr) (pins : List (Addr × Obj)) (s : Shared) (σ : St) (H : Hp) (x y : V) (v u : Value) (Q : VK), Inv X pins σ H s → RelV x v → RelV y u → r x y H Q →
    subscripted slice false v u = operate [v, u] (getItem v u) → wpAny (model X.prog X.w) X.A (subscriptTail value slice v u) (EP X pins σ Q) X.xe s
def MtR (X : Cx) (id : String) (r : V → List V → Hp → VK → Prop) : Prop :=
  ∀ (pins : List (Addr × Obj)) (s : Shared) (σ : St) (H : Hp) (x : V) (xs : List V) (v : Value) (us : List Value) (Q : VK), Inv X pins σ H s → RelV x v → Vals xs us → r x xs H Q →
    wpAny (model X.prog X.w) X.A (call (.builtin id) (v :: us)) (EP X pins σ Q) X.xe s
section
variable {X : Cx} {a b : Expr} {ta tb : TE} {pos : Pos}
theorem pe_ix {r : R2} (hr : IxR X r) (ha : PE X a ta) (hb : PE X b tb) (hs : PlainIx b) : PE X (.Subscript a b pos) (tOp r ta tb) := by
  intro pins s σ H Q I h
  exact Subscript_ (binT ha hb I h fun v u s2 x y H2 I2 rx ry q => hr a b pins s2 σ H2 x y v u Q I2 rx ry q (hs _ _))
def rIxL (K : PySem.W.Frag) : R2 := fun x y H Q => ∃ p xs i v, x = .ref p ∧ y = .int i ∧ SqL K H p xs ∧ atI xs i = some v ∧ Q v H
def rIxT (K : PySem.W.Frag) : R2 := fun x y H Q => ∃ p xs i v, x = .ref p ∧ y = .int i ∧ SqT K H p xs ∧ atI xs i = some v ∧ Q v H
def rIxS : R2 := fun x y H Q => ∃ z i c, x = .str z ∧ y = .int i ∧ z.length ≤ sizeLine ∧ atI z.cps.toList i = some c ∧ Q (.str ⟨#[c]⟩) H
theorem ix_list : IxR X (rIxL X.K) := by
  intro value slice pins s σ H x y v u Q I rx ry h hs
  obtain ⟨p, xs, i, z, rfl, rfl, hq, he, q⟩ := h
  cases rx
  obtain ⟨t, rfl⟩ := ry
  obtain ⟨its, r, pl, hz⟩ := I.list hq
  obtain ⟨j, h1, h2, h3, h4, h5⟩ := atI_get he
  obtain ⟨w, ew, rw'⟩ := r.get h2
  have hl := r.length
  have hn := line63
  have fin : EP X pins σ Q w s := ⟨z, H, I, rw', q⟩
  by_cases h0 : 0 ≤ i
  · have hj : i.toNat = j := by
      rw [seqIndex_of h0 h5] at h1
      exact Option.some.inj h1
    exact item_listR pl.isList h0 (by omega) (by rw [hj]; simpa using ew) fin hs
  · have hj : (i + (its.toArray.size : Int)).toNat = j := by
      rw [seqIndex_neg (by omega) h4] at h1
      rw [List.size_toArray, ← hl]
      exact Option.some.inj h1
    exact subscriptTail_builtinR (x := w) pl.isList.typeIs slot_list_getitem.lookup
      (wpAny_getItem_list_neg (Q := fun r s' => r = w ∧ EP X pins σ Q r s') pl.isList (by omega) (by rw [List.size_toArray] <;> omega) (by omega) (by rw [hj]; simpa using ew) ⟨rfl, fin⟩) hs
theorem ix_str : IxR X rIxS := by
  intro value slice pins s σ H x y v u Q I rx ry h hs
  obtain ⟨z, i, c, rfl, rfl, hz, he, q⟩ := h
  obtain ⟨t, rfl⟩ := rx
  obtain ⟨t', rfl⟩ := ry
  obtain ⟨j, h1, h2, h3, h4, h5⟩ := atI_get he
  have hl : z.cps.toList.length = z.length := by simp [Str.length]
  rw [hl] at h1 h4 h5
  have hn := line63
  exact tail_any (typeIs_str s z t) slot_str_getitem.lookup (getItem_str (c := c) (by
    have e1 : decide (i < -(2 ^ 63 : Int)) = false := decide_eq_false (by omega)
    have e2 : decide (i ≥ 2 ^ 63) = false := decide_eq_false (by omega)
    rw [e1, e2, Bool.or_false]) (by rw [h1]; simpa using h2) ⟨.str ⟨#[c]⟩, H, I.tok _, ⟨_, rfl⟩, q⟩) hs
theorem Inv.lst {pins : List (Addr × Obj)} {σ : St} {H : Hp} {s : Shared} {p : Addr} {xs : List V} (I : Inv X pins σ H s) (h : H p = some (.lst xs)) :
    ∃ (its : List Value) (n : Nat), Vals xs its ∧ s.heap.get? p = some { cls := .type "list", data := .seq its.toArray n } ∧ xs.length ≤ sizeLine := by
  obtain ⟨z, its, n, r, e⟩ := I.hok p _ h
  exact ⟨its, n, r, e, z⟩
theorem slice_bounds (lo hi : Option Int) (n : Nat) : (sliceBounds lo hi none n).1 = ((HT.sIx n 0 lo : Nat) : Int) ∧ (sliceBounds lo hi none n).2.1 = ((HT.sIx n n hi : Nat) : Int) ∧ (sliceBounds lo hi none n).2.2 = 1 := by
  refine ⟨?_, ?_, rfl⟩
  · cases lo with
    | none => simp [sliceBounds, HT.sIx]
    | some i =>
      simp only [sliceBounds, HT.sIx, Option.getD_none, show (1 : Int) > 0 by decide, if_true]
      by_cases h : i < 0
      · simp only [h, if_true] <;> omega
      · simp only [h, if_false] <;> omega
  · cases hi with
    | none => simp [sliceBounds, HT.sIx]
    | some i =>
      simp only [sliceBounds, HT.sIx, Option.getD_none, show (1 : Int) > 0 by decide, if_true]
      by_cases h : i < 0
      · simp only [h, if_true] <;> omega
      · simp only [h, if_false] <;> omega
theorem slicePick_cut (its : List Value) (lo hi : Option Int) : slicePick its.toArray lo hi none = ((its.drop (HT.sIx its.length 0 lo)).take (HT.sIx its.length its.length hi - HT.sIx its.length 0 lo)).toArray := by
  obtain ⟨h1, h2, h3⟩ := slice_bounds lo hi its.toArray.size
  unfold slicePick
  rw [h1, h2, h3]
  simp only [sliceRange_one, pick_run, List.size_toArray] <;> rfl
def rSlL (K : PySem.W.Frag) : V → Option Int → Option Int → Hp → VK → Prop := fun x lo hi H Q => ∃ a xs, x = .ref a ∧ SqL K H a xs ∧ ∀ p, H p = none → Q (.ref p) (upd H p (.lst (cutV xs lo hi)))
theorem sl_list : SlR X (rSlL X.K) := by
  intro pins s σ H x v vl vu lo hi sl Q I rx hs pl pu h
  obtain ⟨a, xs, rfl, hx, q⟩ := h
  cases rx
  obtain ⟨its, r, ht, hz⟩ := I.list hx
  have hlen := r.length
  refine ⟨"list", _, slot_list_getitem.lookup, ht.isList.typeIs, ?_⟩
  refine wpAny_getItem_list_slice ht.isList hs pl pu .none (by simp) ?_ (by rw [List.size_toArray] <;> omega)
  rw [slicePick_cut, ← hlen]
  refine ⟨.ref s.heap.objs.size, _, I.laid (t' := s.toks) (o := .lst (cutV xs lo hi)) (fun b ob q => Heap.get?_push_of_some _ q) (Nat.le_refl _) ?_, rfl, q _ (I.hok.fresh (Nat.le_refl _))⟩
  exact ⟨Nat.le_trans (cutV_length xs lo hi) hz, _, 0, (r.drop (HT.sIx xs.length 0 lo)).take (HT.sIx xs.length xs.length hi - HT.sIx xs.length 0 lo), Heap.get?_push_size _ rfl⟩
def flatV : V → Bool
  | .non => true
  | .bl _ => true
  | .int _ => true
  | .str _ => true
  | _ => false
def eqV : V → V → Bool
  | .non, .non => true
  | .bl a, .bl b => a == b
  | .bl a, .int b => (if a then 1 else 0) == b
  | .int a, .bl b => a == (if b then 1 else 0)
  | .int a, .int b => a == b
  | .str a, .str b => a == b
  | _, _ => false
theorem eqAt_V {A : Around} {s : Shared} {y x : V} {u v : Value} (ry : RelV y u) (rx : RelV x v) (fy : flatV y = true) (fx : flatV x = true) : SeqAt.EqAt A s u v (eqV y x) := by
  cases y with
  | non =>
    cases ry
    cases x with
    | non => cases rx; exact SeqAt.EqAt.same _
    | bl b => cases rx; exact SeqAt.EqAt.none_bool b
    | int b => obtain ⟨t, rfl⟩ := rx; exact SeqAt.EqAt.none_int b t
    | str b => obtain ⟨t, rfl⟩ := rx; exact SeqAt.EqAt.none_str b t
    | _ => exact absurd (show false = true from fx) Bool.false_ne_true
  | bl a =>
    cases ry
    cases x with
    | non => cases rx; exact SeqAt.EqAt.bool_none a
    | bl b => cases rx; exact SeqAt.EqAt.bool_bool a b
    | int b => obtain ⟨t, rfl⟩ := rx; exact SeqAt.EqAt.bool_int a b t
    | str b => obtain ⟨t, rfl⟩ := rx; exact SeqAt.EqAt.bool_str a b t
    | _ => exact absurd (show false = true from fx) Bool.false_ne_true
  | int a =>
    obtain ⟨t', rfl⟩ := ry
    cases x with
    | non => cases rx; exact SeqAt.EqAt.int_none a t'
    | bl b => cases rx; exact SeqAt.EqAt.int_bool a t' b
    | int b => obtain ⟨t, rfl⟩ := rx; exact SeqAt.EqAt.int_int a t' b t
    | str b => obtain ⟨t, rfl⟩ := rx; exact SeqAt.EqAt.int_str a t' b t
    | _ => exact absurd (show false = true from fx) Bool.false_ne_true
  | str a =>
    obtain ⟨t', rfl⟩ := ry
    cases x with
    | non => cases rx; exact SeqAt.EqAt.str_none a t'
    | bl b => cases rx; exact SeqAt.EqAt.str_bool a t' b
    | int b => obtain ⟨t, rfl⟩ := rx; exact SeqAt.EqAt.str_int a t' b t
    | str b => obtain ⟨t, rfl⟩ := rx; exact SeqAt.EqAt.str_str a t' b t
    | _ => exact absurd (show false = true from fx) Bool.false_ne_true
  | _ => exact absurd (show false = true from fy) Bool.false_ne_true
def eqU (x : V) (u : Value) : Bool := match u with
  | .none => eqV .non x
  | .bool b => eqV (.bl b) x
  | .int i _ => eqV (.int i) x
  | .str z _ => eqV (.str z) x
  | _ => false
theorem eqU_of {x y : V} {u : Value} (r : RelV y u) (f : flatV y = true) : eqU x u = eqV y x := by
  cases y with
  | non => cases r; rfl
  | bl b => cases r; rfl
  | int i => obtain ⟨t, rfl⟩ := r; rfl
  | str z => obtain ⟨t, rfl⟩ := r; rfl
  | _ => exact absurd (show false = true from f) Bool.false_ne_true
theorem any_eqU {x : V} : ∀ {xs : List V} {us : List Value}, Vals xs us → xs.all flatV = true → us.any (eqU x) = xs.any fun y => eqV y x
  | _, _, .nil, _ => rfl
  | y :: xs, u :: us, .cons r t, f => by
    rw [List.all_cons, Bool.and_eq_true] at f
    rw [List.any_cons, List.any_cons, eqU_of r f.1, any_eqU t f.2]
theorem mem_eqAt {A : Around} {s : Shared} {x : V} {v : Value} (rx : RelV x v) (fx : flatV x = true) : ∀ {xs : List V} {us : List Value}, Vals xs us → xs.all flatV = true → ∀ u ∈ us, SeqAt.EqAt A s u v (eqU x u)
  | _, _, .nil, _ => fun u hu => by cases hu
  | y :: xs, u :: us, .cons r t, f => fun u' hu => by
    rw [List.all_cons, Bool.and_eq_true] at f
    rcases List.mem_cons.mp hu with rfl | hu
    · rw [eqU_of r f.1]; exact eqAt_V r rx f.1 fx
    · exact mem_eqAt rx fx t f.2 u' hu
def inV (x : V) (xs : List V) : Bool := xs.any fun y => eqV y x
def rIn (K : PySem.W.Frag) (neg : Bool) : R2 := fun x y H Q => ∃ p xs, y = .ref p ∧ (SqL K H p xs ∨ SqT K H p xs) ∧ flatV x = true ∧ xs.all flatV = true ∧ Q (.bl (if neg then !inV x xs else inV x xs)) H
theorem op_notIn_seq : OpR X (compareOp .NotIn) (rIn X.K true) := by
  intro pins s σ H x y v u Q I rx ry h
  obtain ⟨p, xs, rfl, hq, fx, fs, q⟩ := h
  cases ry
  rcases hq with hq | hq
  · obtain ⟨its, r, pl, hz⟩ := I.list hq
    refine SeqAt.notIn_listAt (eqU x) pl.isList (fun w hw => mem_eqAt rx fx r fs w (by simpa using hw)) ⟨.bl _, H, I, rfl, ?_⟩
    rw [show its.toArray.any (eqU x) = its.any (eqU x) by simp, any_eqU r fs]
    exact q
  · obtain ⟨its, r, pl, hz⟩ := I.tuple hq
    refine SeqAt.notIn_tupleAt (eqU x) pl (fun w hw => mem_eqAt rx fx r fs w (by simpa using hw)) ⟨.bl _, H, I, rfl, ?_⟩
    rw [show its.toArray.any (eqU x) = its.any (eqU x) by simp, any_eqU r fs]
    exact q
theorem call_len_seq : CallR X (.builtin "len") (fun xs H Q => ∃ p ys, xs = [.ref p] ∧ (SqL X.K H p ys ∨ SqT X.K H p ys) ∧ Q (.int ys.length) H) := by
  intro pins s σ H xs us Q I r h
  obtain ⟨p, ys, rfl, hq, q⟩ := h
  obtain ⟨u, rfl, rx⟩ := vals1 r
  cases rx
  have hn := line63
  rcases hq with hq | hq
  · obtain ⟨its, r', pl, hz⟩ := I.list hq
    have hlen := r'.length
    exact Calls.call_len_list pl.isList (by simp only [List.size_toArray] <;> omega) ⟨.int ys.length, H, I.tok _, ⟨s.toks + 1, by rw [List.size_toArray, hlen]⟩, q⟩
  · obtain ⟨its, r', pl, hz⟩ := I.tuple hq
    have hlen := r'.length
    exact len_tuple pl (by simp only [List.size_toArray] <;> omega) ⟨.int ys.length, H, I.tok _, ⟨s.toks + 1, by rw [List.size_toArray, hlen]⟩, q⟩
theorem call_len_str : CallR X (.builtin "len") (fun xs H Q => ∃ z, xs = [.str z] ∧ z.length ≤ sizeLine ∧ Q (.int z.length) H) := by
  intro pins s σ H xs us Q I r h
  obtain ⟨z, rfl, hz, q⟩ := h
  obtain ⟨u, rfl, t, rfl⟩ := vals1 r
  have hn := line63
  exact len_str (by omega) ⟨.int z.length, H, I.tok _, ⟨_, rfl⟩, q⟩
def tyV (K : PySem.W.Frag) (T : String) (x : V) (H : Hp) : Prop := match x with
  | .str _ => T = "str"
  | .int _ => T = "int"
  | .ref p => (T = "list" ∧ ∃ xs, SqL K H p xs) ∨ (T = "tuple" ∧ ∃ o, K.lookup p = some o ∧ o.cls = .type "tuple" ∧ o.dict = none) ∨
      (T = "dict" ∧ ((∃ kvs, H p = some (.dK kvs)) ∨ ∃ kvs, H p = some (.dT kvs))) ∨ (T = "set" ∧ ∃ S n, H p = some (.set S n))
  | _ => False
theorem tyV_is {pins : List (Addr × Obj)} {σ : St} {H : Hp} {s : Shared} {T : String} {x : V} {v : Value} (I : Inv X pins σ H s) (r : RelV x v) (ty : tyV X.K T x H) :
    s.TypeIs v T ∧ ∀ a, v = .ref a → ∃ ob, s.heap.get? a = some ob ∧ ob.dict = none := by
  cases x with
  | str z =>
    obtain ⟨t, rfl⟩ := r
    cases (show T = "str" from ty)
    exact ⟨typeIs_str s z t, fun _ e => nomatch e⟩
  | int i =>
    obtain ⟨t, rfl⟩ := r
    cases (show T = "int" from ty)
    exact ⟨typeIs_int s i t, fun _ e => nomatch e⟩
  | ref p =>
    cases r
    rcases ty with ⟨rfl, xs, hq⟩ | ⟨rfl, o, hk, hc, hd⟩ | ⟨rfl, hk⟩ | ⟨rfl, S, n, hk⟩
    · obtain ⟨its, _, pl, _⟩ := I.list hq
      refine ⟨pl.isList.typeIs, fun a e => ?_⟩
      cases e
      obtain ⟨o, n, e, c, hd, _⟩ := pl
      exact ⟨o, e, hd⟩
    · refine ⟨⟨o, I.kIn p o hk, hc⟩, fun a e => ?_⟩
      cases e
      exact ⟨o, I.kIn _ o hk, hd⟩
    · have z : ∃ o, s.heap.get? p = some o ∧ o.ExactDict := by
        rcases hk with ⟨kvs, hk⟩ | ⟨kvs, hk⟩
        · obtain ⟨_, _, _, _, o, _, _, e, ex, _⟩ := I.hok p _ hk
          exact ⟨o, e, ex⟩
        · obtain ⟨_, _, _, _, o, _, _, e, ex, _⟩ := I.hok p _ hk
          exact ⟨o, e, ex⟩
      obtain ⟨o, e, ex⟩ := z
      refine ⟨⟨o, e, ex.1⟩, fun a e2 => ?_⟩
      cases e2
      exact ⟨o, e, ex.2.1⟩
    · obtain ⟨o, _, _, _, e, ex, _⟩ := I.hok p _ hk
      refine ⟨⟨o, e, ex.1⟩, fun a e2 => ?_⟩
      cases e2
      exact ⟨o, e, ex.2.1⟩
  | _ => exact False.elim ty
def tBM0 (K : PySem.W.Frag) (T : String) (r : V → List V → Hp → VK → Prop) (to : TE) : TE := fun σ H Q => to σ H fun x H1 => tyV K T x H1 ∧ r x [] H1 Q
def tBM (K : PySem.W.Frag) (T : String) (r : V → List V → Hp → VK → Prop) (to : TE) (t : TA) : TE := fun σ H Q => to σ H fun x H1 => tyV K T x H1 ∧ t σ H1 fun xs H2 => r x xs H2 Q
variable {o e : Expr} {es : List Expr} {to : TE} {t : TA} {name : Str} {apos cpos : Pos} {T id : String} {r : V → List V → Hp → VK → Prop}
theorem pe_bm0 (pa : PlainAttrs T) (slot : Slot T name id) (hty : typeOf (.builtin id) = pure (.type "method_descriptor")) (hm : MtR X id r) (ho : PE X o to)
    (hbase : attributeBase o name X.env (eval o X.env) = eval o X.env := by rfl) (hline : (apos.endLine == cpos.line) = true := by rfl) : PE X (.Call (.Attribute o name apos) [] [] cpos) (tBM0 X.K T r to) := by
  intro pins s σ H Q I h
  refine wpAny_Call_method0_late hbase hline (thn (ho pins s σ H _ I h) fun v s1 ⟨x, H1, I1, r1, ty, q1⟩ => ?_)
  obtain ⟨h1, h2⟩ := tyV_is I1 r1 ty
  exact ⟨T, id, pa, slot, hty, h1, h2, Calls.callWith_builtin rfl (PySem.evalArgs_none (hm pins s1 σ H1 x [] v [] Q I1 r1 .nil q1))⟩
theorem pe_bm (pa : PlainAttrs T) (slot : Slot T name id) (hty : typeOf (.builtin id) = pure (.type "method_descriptor")) (hm : MtR X id r) (ho : PE X o to) (ha : PA X (e :: es) t)
    (hbase : attributeBase o name X.env (eval o X.env) = eval o X.env := by rfl)
    (hfew : ((backTo cpos (starEach (e :: es) X.env)).all (fun x => !x.1) && (backToKw cpos (keywordEach [] X.env)).all (fun x => x.1.isSome)
      && decide ((e :: es).length + ([] : List Keyword).length + (if ([] : List Keyword).isEmpty then 0 else 1) < 30)) = true := by rfl)
    (hline : (apos.endLine == cpos.line) = true := by rfl) (hs : starEach (e :: es) X.env = (false, eval e X.env) :: starEach es X.env := by rfl) (hplain : (backTo cpos (starEach es X.env)).any (·.1) = false := by rfl) :
    PE X (.Call (.Attribute o name apos) (e :: es) [] cpos) (tBM X.K T r to t) := by
  intro pins s σ H Q I h
  refine wpAny_Call_method_late hbase hfew hline rfl (thn (ho pins s σ H _ I h) fun v s1 ⟨x, H1, I1, r1, ty, q1⟩ => ?_)
  obtain ⟨h1, h2⟩ := tyV_is I1 r1 ty
  refine ⟨T, id, pa, slot, hty, h1, h2, ?_⟩
  have hA := ha cpos pins s1 σ H1 _ I1 q1
  rw [hs] at hA ⊢
  refine Calls.callWith_builtin (by show (false || (backTo cpos (starEach es X.env)).any (·.1)) = false; rw [hplain] <;> rfl) (Calls.evalArgs_plain ?_)
  exact thn hA fun us s2 ⟨vs, H2, I2, r2, q2⟩ => hm pins s2 σ H2 x vs v us Q I2 r1 r2 q2
end
end L2
namespace L2
open PySem PySem.Spec PyProof.Rows
def MtM (X : Cx) (id : String) (r : V → List V → Hp → VK → Prop) : Prop :=
  ∀ (pins : List (Addr × Obj)) (s : Shared) (σ : St) (H : Hp) (x : V) (xs : List V) (v : Value) (us : List Value) (Q : VK), Inv X pins σ H s → RelV x v → Vals xs us → r x xs H Q →
    wpAny (model X.prog X.w) X.A (call (.builtin id) (v :: us)) (EP X pins σ Q) X.xe s
theorem Vals.one : ∀ {x : V} {us : List Value}, Vals [x] us → ∃ u, us = [u] ∧ RelV x u
  | _, _, .cons r .nil => ⟨_, rfl, r⟩
theorem Vals.zero : ∀ {us : List Value}, Vals [] us → us = []
  | _, .nil => rfl
theorem Vals.dropLast {xs : List V} {us : List Value} (h : Vals xs us) : Vals xs.dropLast us.dropLast := by
  induction h with
  | nil => exact .nil
  | cons r t ih =>
    cases t with
    | nil => exact .nil
    | cons q t' => exact .cons r ih
section
variable {X : Cx} {pins : List (Addr × Obj)} {σ : St} {H : Hp} {s : Shared} {l b : Addr} {xs ys zs : List V}
theorem Inv.lset {its its' : List Value} {n : Nat} {f : Array Value → Array Value} {t' : Nat} (I : Inv X pins σ H s) (hH : H l = some (.lst xs))
    (e : s.heap.get? l = some { cls := .type "list", data := .seq its.toArray n }) (hf : f its.toArray = its'.toArray) (hv : Vals ys its') (hz : ys.length ≤ sizeLine) :
    Inv X pins σ (upd H l (.lst ys)) { s with heap := s.heap.update l (Obj.mapSeq f), toks := t' } := by
  have q := PySem.IsL.update e f
  rw [hf] at q
  refine I.write (x := l) (e := l) (by rw [hH]; exact trivial) (.inl rfl) (fun b' u hb hu => (Heap.get?_update_other s.heap (Obj.mapSeq f) (Ne.symm hb)).trans hu) ⟨_, q⟩ ?_
  exact ⟨hz, its', _, hv, q⟩
theorem Inv.lnew {its : List Value} {t' : Nat} (I : Inv X pins σ H s) (hv : Vals ys its) (hz : ys.length ≤ sizeLine) :
    Inv X pins σ (upd H s.heap.objs.size (.lst ys)) { s with heap := s.heap.push { cls := .type "list", data := .seq its.toArray }, toks := t' } :=
  I.laid (fun _ _ q => Heap.get?_push_of_some _ q) (Nat.le_refl _) ⟨hz, its, 0, hv, Heap.get?_push_size _ rfl⟩
theorem Inv.fresh (I : Inv X pins σ H s) : H s.heap.objs.size = none := I.hok.fresh (Nat.le_refl _)
theorem Inv.lstM (I : Inv X pins σ H s) (hH : H l = some (.lst xs)) : xs.length ≤ sizeLine ∧ ∃ (its : List Value) (n : Nat), Vals xs its ∧ xs.length = its.length ∧ s.heap.get? l = some { cls := .type "list", data := .seq its.toArray n } := by
  obtain ⟨z, its, n, r, e⟩ := I.hok l _ hH
  exact ⟨z, its, n, r, r.length, e⟩
end
section
variable {X : Cx}
def rAppend : V → List V → Hp → VK → Prop := fun x vs H Q => ∃ l xs y, x = .ref l ∧ vs = [y] ∧ H l = some (.lst xs) ∧ xs.length < sizeLine ∧ Q .non (upd H l (.lst (xs ++ [y])))
theorem mt_append : MtM X "list.append" rAppend := by
  intro pins s σ H x vs v us Q I rx rv h
  obtain ⟨l, xs, y, rfl, rfl, hH, hz, q⟩ := h
  cases rx
  obtain ⟨u, rfl, ru⟩ := rv.one
  obtain ⟨z, its, n, r, hl, e⟩ := I.lstM hH
  refine call_meets F.slot_list_append ⟨_, e, rfl⟩ F.entry_list_append (F.args_list_append_2 _ _) (PySem.list_append l its.toArray n u (by rw [List.size_toArray]; omega)) ⟨e, ?_⟩
  refine ⟨.non, _, I.lset (its' := its ++ [u]) hH e (by simp) (r.append (.cons ru .nil)) ?_, rfl, q⟩
  rw [List.length_append, List.length_singleton]
  omega
def rCat : R2 := fun x y H Q => ∃ l b xs zs, x = .ref l ∧ y = .ref b ∧ H l = some (.lst xs) ∧ H b = some (.lst zs) ∧ xs.length + zs.length ≤ sizeLine ∧ ∀ p, H p = none → Q (.ref p) (upd H p (.lst (xs ++ zs)))
theorem op_cat : OpR X (binaryOp .Add) rCat := by
  intro pins s σ H x y v u Q I rx ry h
  obtain ⟨l, b, xs, zs, rfl, rfl, hH, hB, hz, q⟩ := h
  cases rx
  cases ry
  obtain ⟨z, its, n, r, hl, e⟩ := I.lstM hH
  obtain ⟨z2, its2, n2, r2, hl2, e2⟩ := I.lstM hB
  refine PySem.P.add_list e e2 ?_ (by rw [List.size_toArray, List.size_toArray]; omega)
  have ea : its.toArray ++ its2.toArray = (its ++ its2).toArray := by simp
  rw [ea]
  exact ⟨.ref _, _, I.lnew (t' := s.toks) (r.append r2) (by rw [List.length_append]; omega), rfl, q _ I.fresh⟩
end
section
variable {prog : Program} {w : World} {A : Around} {E : Value → Shared → Prop} {s : Shared}
set_option maxRecDepth 100000 in
end
section
variable {X : Cx}
end
end L2
namespace Att
open PySem PySem.W PySem.Calls PyProof.Rows
theorem ints_of_wellAll {P : Params} {h : Heap} : ∀ (ns : List Int) (vs : List Value), WellAll P h vs (ns.map WData.int) → IntsAre vs ns := by
  intro ns
  induction ns with
  | nil =>
    intro vs w
    rw [List.map_nil] at w
    cases w
    exact .nil
  | cons n ns ih =>
    intro vs w
    rw [List.map_cons] at w
    cases w with
    | cons a b =>
      cases a
      exact .cons _ _ (ih _ b)
theorem script_of {l : OpenLaw} {n : Nat} (hn : l.most = some n) {P : Params} {h : Heap} {args : List WData} {vals : List Value}
    (hpre : l.row.toRowW.claim.pre args = true) (hwl : WellAll P h vals args) :
    ∃ a vs ns, vals = [Value.ref a] ∧ args = [WData.list (ns.map WData.int)] ∧ h.get? a = some { cls := .type "list", data := .seq vs.toArray } ∧ IntsAre vs ns ∧ ns.length ≤ n := by
  have hsh : WShape.hasAll [] args [.list .int] = true := (pre_splitW hpre).1
  have hc : l.pre.holds [] { args := args } = true := (pre_splitW hpre).2
  obtain ⟨d, r, rfl, h1, h2⟩ := hasAllW_cons hsh
  obtain rfl := hasAllW_nil h2
  obtain ⟨xs, rfl, h3⟩ := hasW_list h1
  obtain ⟨ns, rfl⟩ := items_int h3
  have hlen : ns.length ≤ n := by
    unfold OpenLaw.pre at hc
    have h4 : (WTm.not (.lt (.lit (.int (n : Int))) (.len (.arg 0)))).holds [] { args := [.list (ns.map .int)] } = true := by
      have h4 := (holds_andW hc).1
      rw [hn] at h4
      exact h4
    have h5 := condW_of h4 (w_not (w_lt w_lit (w_len_list (w_arg rfl))))
    rw [List.length_map] at h5
    refine Nat.le_of_not_lt fun q => ?_
    have q' : (n : Int) < ((ns.length : Nat) : Int) := by omega
    first
      | (rw [decide_eq_true q'] at h5; exact absurd h5 (by decide))
      | (simp at h5; omega)
  cases hwl with
  | cons w1 w2 =>
    cases w2
    cases w1 with
    | list ho hall => exact ⟨_, _, ns, rfl, rfl, ho, ints_of_wellAll ns _ hall, hlen⟩
theorem post_true (l : OpenLaw) (args : List WData) : l.row.toRowW.claim.post args (.bool true) args = true :=
  postW_of (r := l.row.toRowW) (X := (true == true))
    (show WShape.has [] (.bool true) .bool = true by first | rfl | decide | simp [WShape.has, WShape.arms, WShape.armsAll])
    (show (WTm.eq .res (.lit (.bool true))).value [] { args := args, res := some (.bool true), after := args } = some (.bool (true == true)) from w_eq_bool (w_res rfl) w_lit) rfl
theorem attach_call {l : OpenLaw} {n : Nat} {q : Program} {loose : List Str} {XP : (Str → Option Value) → Heap → Prop} {YP : World → Heap → Prop} {d : DefRec}
    (hn : l.most = some n) (hdf : d.params.defaults = [])
    (call : ∀ (w : World) (s₀ s₁ : Shared) (mg mb : Str → Option Value) (fa : Addr) (o : Obj) (pm cd doc : Value) (a : Addr) (vs : List Value) (ns : List Int),
      Ground q loose [] XP w s₀ mg mb s₁.heap → YP w s₁.heap →
      s₁.heap.get? fa = some o → o.data = .func (docDef d.name d.params d.body d.scope pm cd doc) → s₁.heap.CodeRec cd d.name → mg d.name = some (.ref fa) →
      s₁.heap.get? a = some { cls := .type "list", data := .seq vs.toArray } → IntsAre vs ns → ns.length ≤ n → s₁.gens = #[] →
      codeAny (model l.prog w) callerA (.call (.ref fa) ⟨[.ref a], []⟩) (fun r s' => r = .ok (.ret (.bool true)) ∧ OldK s₁.heap s'.heap ∧ s'.os = s₁.os ∧ AllBare s'.gens) s₁) :
    WalkO q loose XP YP l.row.toRowW d [] (fun f vs => PySem.call f vs) := by
  intro w s₀ s₁ mg mb G Y fa o pm cd doc dV kV ho hd hcd hD hmg hg args vals as hpre hlay hrd hwl hlo
  obtain rfl : dV = .none := Dflts.none hD hdf
  obtain rfl : kV = .none := Dflts.noKw hD
  obtain ⟨a, vs, ns, rfl, rfl, hobj, hints, hlen⟩ := script_of hn hpre hwl
  refine enter_call (codeAny_mono (call w s₀ s₁ mg mb fa o pm cd doc a vs ns G Y ho (fd_plain hd) hcd hmg hobj hints hlen hg) fun r s' hq => ?_)
  obtain ⟨rfl, h2, h3, h4⟩ := hq
  exact ⟨.inl ⟨.bool true, .bool true, [], rfl, fun _ => rfl, .bool true, post_true l _, fun _ => ⟨List.Pairwise.nil, fun _ hm => (nomatch hm)⟩⟩, h2, h3, h4⟩
section
variable {prog : Program} {w : World} {A : Around} {E : Value → Shared → Prop} {s : Shared} {K : Frag}
end
end Att
namespace L2
open PySem PySem.Spec PyProof.Rows
theorem vals_ints : ∀ {vs : List Value} {ns : List Int}, IntsAre vs ns → Vals (ns.map V.int) vs
  | _, _, .nil => .nil
  | _, _, .cons n t h => .cons ⟨t, rfl⟩ (vals_ints h)
def Only (H : Hp) : Prop := ∀ b, H b = none ∨ ∃ o xs, H b = some (.frz o (.lst xs))
theorem law_call {P : Program} {w : World} {K : PySem.W.Frag} {mg mb : Str → Option Value} {CX : CXT} {k : Nat} {fa a : Addr} {fd : FuncData} {x : Str} {sp : Sp} {s₁ : Shared} {vs : List Value} {ns : List Int}
    (KX : K.In s₁.heap) (hns : s₁.heap.Ns mainGlobals mg) (hb : s₁.heap.Ns builtinsNs mb) (hbb : ∀ x : Str, x ≠ "__name__" → mb x = bootBuiltins x) (hlim : s₁.heap.NoLimit) (hg : s₁.gens = #[])
    (ha : s₁.heap.get? a = some { cls := .type "list", data := .seq vs.toArray }) (hi : IntsAre vs ns) (hl : ns.length ≤ sizeLine) (hr : Room k callerA)
    (F : ∀ base : Heap, K.In base → base.Ns mainGlobals mg → FnOk P w K mg base CX k fa fd [x] sp) (hbind : ∀ (s : Shared) (u : Value), BindsTo s fd ⟨[u], []⟩ [(x, u)])
    (hsp : ∀ H : Hp, Only H → SqL K H a (ns.map V.int) → sp [.ref a] H (fun v _ => v = .bl true) fun _ _ _ => False)
    (hCX : ∀ H e s', CX [] H s₁ (fun _ _ _ => False) e s' → False) :
    codeAny (model P w) callerA (.call (.ref fa) ⟨[.ref a], []⟩) (fun r s' => r = .ok (.ret (.bool true)) ∧ OldK s₁.heap s'.heap ∧ s'.os = s₁.os ∧ AllBare s'.gens) s₁ := by
  have rv := vals_ints hi
  have lenV := hi.length
  have core : ∀ H : Hp, Only H → SqL K H a (ns.map V.int) → HOk P w H s₁.heap → (∀ b, H b ≠ none → b = a) → (H a ≠ none → K.lookup a = none) →
      codeAny (model P w) callerA (.call (.ref fa) ⟨[.ref a], []⟩) (fun r s' => r = .ok (.ret (.bool true)) ∧ OldK s₁.heap s'.heap ∧ s'.os = s₁.os ∧ AllBare s'.gens) s₁ := by
    intro H hO hS hok hA hK
    have base_of : ∀ {b : Addr} {o : Obj}, s₁.heap.get? b = some o → H b = none → (hidT s₁.heap H).get? b = some o := fun e n => hidT_get e n
    have noA : ∀ {b : Addr} {o : Obj} {es : Array DictEntry} {ep : Nat}, s₁.heap.get? b = some o → o.data = .dict es ep → H b = none := fun {b o es ep} e d => by
      cases q : H b with
      | none => rfl
      | some u =>
        have e' : b = a := hA b (by rw [q]; simp)
        subst e'
        rw [ha] at e; cases e
        have d' : Data.seq vs.toArray _ = Data.dict es ep := d
        cases d'
    have nsK : ∀ {b : Addr} {m : Str → Option Value}, s₁.heap.Ns b m → (hidT s₁.heap H).Ns b m := fun {b m} ⟨o, es, ep, e, d, r⟩ => ⟨o, es, ep, base_of e (noA e d), d, r⟩
    have hKb : K.In (hidT s₁.heap H) := fun b o e => base_of (KX b o e) (by
      cases q : H b with
      | none => rfl
      | some u =>
        have e' : b = a := hA b (by rw [q]; simp)
        subst e'
        rw [hK (by rw [q]; simp)] at e; cases e)
    have hM : Mod K mg (hidT s₁.heap H) := ⟨hKb, nsK hns, ⟨mb, nsK hb, hbb⟩, let ⟨mc, h1, h2⟩ := hlim; ⟨mc, nsK h1, h2⟩⟩
    have e0 : Env0 P w K mg (hidT s₁.heap H) callerA [] s₁ H := ⟨rfl, hM, fun b o e => of_hidT e, Nat.le_of_eq (hidT_size _ _), trivial, fun b hb => absurd (show b ∈ ([] : List Addr) from hb) (by simp), hok, .of_eq hg⟩
    refine codeAny_mono ((F _ hKb (nsK hns)).run callerA [] s₁ H ⟨[.ref a], []⟩ [.ref a] [.ref a] _ _ hr e0 (hbind s₁ (.ref a)) (.cons rfl .nil) (hsp H hO hS)) fun r s' h => ?_
    cases r with
    | error e => exact (hCX H e s' h).elim
    | ok fl =>
      cases fl with
      | next => exact False.elim h
      | brk => exact False.elim h
      | cont => exact False.elim h
      | ret u =>
        obtain ⟨v, H', os, bare, un, hok', r', q⟩ := h
        have q' : v = .bl true := q
        subst q'
        obtain rfl : u = Value.bool true := r'
        refine ⟨rfl, OldK.of_keep fun b o e => ?_, os, bare⟩
        cases q : H b with
        | none => exact un.keep b o e q (by intro z; exact absurd (show b ∈ ([] : List Addr) from z) (by simp)) (by simp)
        | some u =>
          rcases hO b with z | ⟨ob, xs, z⟩
          · rw [q] at z; cases z
          · have z2 := un.frzs b ob _ z
            obtain ⟨e1, _⟩ := hok b _ z
            obtain ⟨e2, _⟩ := hok' b _ z2
            rw [e] at e1; cases e1
            exact e2
  cases hk : K.lookup a with
  | some o =>
    have e := KX a o hk
    rw [ha] at e
    cases e
    refine core (fun _ => none) (fun _ => .inl rfl) (.inr ⟨_, vs.toArray, _, hk, rfl, rfl, rfl, by rw [List.size_toArray, lenV]; exact hl, by simpa using rv⟩) (fun b u z => by have z' : (none : Option HO) = some u := z; cases z') (fun b z => absurd rfl z) fun z => absurd rfl z
  | none =>
    refine core (fun b => if b = a then some (.frz { cls := .type "list", data := .seq vs.toArray } (.lst (ns.map V.int))) else none) (fun b => ?_) (.inl (.inr ⟨{ cls := .type "list", data := .seq vs.toArray }, if_pos rfl⟩)) (fun b u z => ?_) (fun b z => ?_) fun _ => hk
    · by_cases hb : b = a
      · exact .inr ⟨_, _, if_pos hb⟩
      · exact .inl (if_neg hb)
    · by_cases hb : b = a
      · have z' := (if_pos hb).symm.trans z
        cases z'
        subst hb
        exact ⟨ha, by rw [List.length_map]; exact hl, vs, _, rv, ha⟩
      · have z' := (if_neg hb).symm.trans z
        cases z'
    · by_cases hb : b = a
      · exact hb
      · exact absurd (if_neg hb) z
end L2
namespace L2
open PySem PySem.Spec PyProof.Rows
theorem walk_of {l : PySem.W.OpenLaw} {n k : Nat} {q : Program} {loose : List Str} {XP : (Str → Option Value) → Heap → Prop} {YP : World → Heap → Prop} {d : DefRec} {K : Params → PySem.W.Frag} {CX : World → CXT} {sp : World → Sp} {x : Str}
    (hn : l.most = some n) (hn2 : n ≤ sizeLine) (hdf : d.params.defaults = []) (hr : Room k callerA)
    (hY : ∀ (w : World) (h : Heap), YP w h → (K w.params).In h)
    (F : ∀ (w : World) (mg : Str → Option Value) (fa : Addr) (h : Heap), (K w.params).In h → h.Ns mainGlobals mg → mg d.name = some (.ref fa) →
      ∃ fd : FuncData, (∀ (s : Shared) (u : Value), BindsTo s fd ⟨[u], []⟩ [(x, u)]) ∧
        ∀ base : Heap, (K w.params).In base → base.Ns mainGlobals mg → FnOk l.prog w (K w.params) mg base (CX w) k fa fd [x] (sp w))
    (hsp : ∀ (w : World) (H : Hp) (a : Addr) (ns : List Int), ns.length ≤ n → Only H → SqL (K w.params) H a (ns.map V.int) → sp w [.ref a] H (fun v _ => v = .bl true) fun _ _ _ => False)
    (hCX : ∀ (w : World) (H : Hp) (s : Shared) (e : Value) (s' : Shared), CX w [] H s (fun _ _ _ => False) e s' → False) :
    PySem.W.WalkO q loose XP YP l.row.toRowW d [] (fun f vs => PySem.call f vs) := by
  refine Att.attach_call hn hdf fun w s₀ s₁ mg mb fa o pm cd doc a vs ns G Y ho hd hcd hmg hobj hints hlen hg => ?_
  have KX := hY w _ Y
  obtain ⟨fd, hb, hF⟩ := F w mg fa _ KX G.T.g hmg
  exact law_call KX G.T.g G.T.b G.T.builtins G.T.nolimit hg hobj hints (Nat.le_trans hlen hn2) hr hF hb (fun H hO hS => hsp w H a ns hlen hO hS) fun H e s' => hCX w H s₁ e s'
end L2
namespace L2
open PySem PySem.Spec PyProof.Rows
def inClass (s : Stmt) (j : Nat) : Stmt := match s with
  | .ClassDef _ _ _ body _ _ _ _ _ _ _ => body.getD j (.Pass ⟨0, 0, 0, 0⟩)
  | _ => .Pass ⟨0, 0, 0, 0⟩
def defArgs (s : Stmt) : Arguments := match s with
  | .FunctionDef _ a _ _ _ _ _ _ _ _ => a
  | _ => { posonlyargs := [], args := [], vararg := none, kwonlyargs := [], kw_defaults := [], kwarg := none, defaults := [] }
def defBody (s : Stmt) : List Stmt := match s with
  | .FunctionDef _ _ b _ _ _ _ _ _ _ => b
  | _ => []
def defScope (s : Stmt) : Scope := match s with
  | .FunctionDef _ _ _ _ _ _ sc _ _ _ => sc
  | _ => { kind := .function, names := [], isGenerator := false, isCoroutine := false }
abbrev CX0 : CXT := fun _ _ _ _ _ _ => False
abbrev E0 : XK := fun _ _ _ => False
theorem pass0 {X : Cx} : Passes CX0 X E0 := fun _ _ _ _ _ _ _ h => h.elim
structure Fun (K : PySem.W.Frag) (x qual : Str) (st : Stmt) (f : Addr) (fd : FuncData) : Prop where
  ex : ∃ (oc : Value) (od : Option Addr) (kV doc pm : Value) (an : Option Addr) (cdv ct : Value) (osl : Array (Option Value)),
    fd = PySem.W.fnOf x qual (defArgs st) (defBody st) (defScope st) .none kV doc pm an cdv ct ∧ K.lookup f = some ⟨oc, od, .func fd, osl⟩ ∧ PySem.W.codeIn K cdv qual = true
  kp : PySem.W.keepIn K (.ref f) = true
section
variable {P : Program} {w : World} {K : PySem.W.Frag} {mg : Str → Option Value} {base : Heap}
theorem Fun.ok {x qual : Str} {st : Stmt} {f : Addr} {fd : FuncData} {N ps : List Str} {k : Nat} {sp : Sp} (F : Fun K x qual st f fd) (S : FnScope N ps (defScope st)) (len : ∀ vs H Q E, sp vs H Q E → vs.length = ps.length)
    (hbody : ∀ (cdv : Value) (A : Around) (outer : List Env) (s : Shared) (H : Hp) (vs : List V) (Q : VK) (E : XK), Room k (A.deeper (envOfC qual (defScope st) s.heap.objs.size f cdv)) → sp vs H Q E →
      ∃ t, PSs (cxOf CX0 P w K mg base N qual (defScope st) f cdv A outer s H E).nox (defBody st) t ∧ t { nx := fun _ H' => Q .non H', rt := Q } (start N vs) H) : FnOk P w K mg base CX0 (k + 1) f fd ps sp := by
  obtain ⟨oc, od, kV, doc, pm, an, cdv, ct, osl, rfl, lk, hcd⟩ := F.ex
  refine fn_of lk hcd S len fun A outer s H vs Q E hr hsp => ?_
  obtain ⟨t, h, q⟩ := hbody cdv A outer s H vs Q E hr hsp
  exact ⟨t, h.nox, q⟩
theorem Fun.binds {x qual : Str} {st : Stmt} {f : Addr} {fd : FuncData} {ps : List Str} (F : Fun K x qual st f fd)
    (h : ∀ (kV doc pm : Value) (an : Option Addr) (cdv ct : Value) (us : List Value), us.length = ps.length → bindArgs (PySem.W.fnOf x qual (defArgs st) (defBody st) (defScope st) .none kV doc pm an cdv ct) ⟨us, []⟩ = pure (ps.zip us)) : Binds K fd ps [] := by
  obtain ⟨oc, od, kV, doc, pm, an, cdv, ct, osl, rfl, lk, hcd⟩ := F.ex
  exact .all (h kV doc pm an cdv ct)
theorem fun_mk {x qual : Str} {st : Stmt} {f : Addr} {oc : Value} {od an : Option Addr} {osl : Array (Option Value)} {kV doc pm cdv ct : Value} (l : K.lookup f = some ⟨oc, od, .func (PySem.W.fnOf x qual (defArgs st) (defBody st) (defScope st) .none kV doc pm an cdv ct), osl⟩)
    (c : PySem.W.codeIn K cdv qual = true) (k : PySem.W.keepIn K (.ref f) = true) : Fun K x qual st f (PySem.W.fnOf x qual (defArgs st) (defBody st) (defScope st) .none kV doc pm an cdv ct) := ⟨⟨oc, od, kV, doc, pm, an, cdv, ct, osl, rfl, l, c⟩, k⟩
end
theorem hu_of {A : Around} {k : Nat} (hr : Room k A) : A.units + 1 < cLine := Nat.lt_of_le_of_lt (Nat.add_le_add_left (by decide : 1 ≤ 64) _) hr.units
section
variable {X : Cx}
theorem pv (i : Nat) {x : Str} {pos : Pos} (hN : X.N[i]? = some x := by rfl) (hv : Vis X.env.scope x := by first | exact Or.inl rfl | exact Or.inr (Or.inl rfl) | exact Or.inr (Or.inr rfl)) (hd : (x == ("__debug__" : Str)) = false := by decide)
    (hcd : (x == ("__classdict__" : Str)) = false := by decide) : PE X (.Name x pos) (tVar i) := pe_var hN hv hd hcd
end
def Same (H H' : Hp) : Prop := ∀ b o, H b = some o → H' b = some o
theorem Same.refl (H : Hp) : Same H H := fun _ _ h => h
theorem Same.trans {H H1 H2 : Hp} (a : Same H H1) (b : Same H1 H2) : Same H H2 := fun c o h => b c o (a c o h)
theorem Same.free {H H' : Hp} (e : Same H H') {l : Addr} (h : H' l = Option.none) : H l = Option.none := by
  cases q : H l with
  | none => rfl
  | some o =>
    rw [e l o q] at h
    cases h
theorem Same.seq {K : PySem.W.Frag} {H H' : Hp} {a : Addr} {xs : List V} (e : Same H H') (h : SqL K H a xs) : SqL K H' a xs := by
  rcases h with (h | ⟨o, h⟩) | h
  · exact .inl (.inl (e _ _ h))
  · exact .inl (.inr ⟨o, e _ _ h⟩)
  · exact .inr h
end L2
namespace L2
open PySem PySem.Spec PyProof.Rows
def AllIn : List (Str × Addr) → List (Str × Addr) → Prop
  | [], _ => True
  | (x, c) :: r, cells => cells.lookup x = some c ∧ AllIn r cells
theorem AllIn.look {cells : List (Str × Addr)} : ∀ {cl : List (Str × Addr)}, AllIn cl cells → ∀ {x : Str} {c : Addr}, cl.lookup x = some c → cells.lookup x = some c
  | [], _, x, c, e => by simp at e
  | (y, d) :: r, h, x, c, e => by
    rw [List.lookup_cons] at e
    cases q : x == y with
    | true =>
      rw [q] at e
      have z : d = c := Option.some.inj e
      have z2 : x = y := beq_iff_eq.mp q
      subst z z2
      exact h.1
    | false =>
      rw [q] at e
      exact AllIn.look h.2 e
def closFrom (cells : List (Str × Addr)) : List (Str × NameKind) → List (Str × Addr) → List (Str × Addr)
  | [], cs => cs
  | (n, k) :: r, cs => closFrom cells r (match k with
    | .free => match cells.lookup n with
      | some c => (n, c) :: cs
      | Option.none => cs
    | _ => cs)
abbrev closOf (scope : Scope) (env : Env) : List (Str × Addr) := closFrom env.cells scope.names []
theorem closFrom_in (cells : List (Str × Addr)) : ∀ (names : List (Str × NameKind)) (cs : List (Str × Addr)), AllIn cs cells → AllIn (closFrom cells names cs) cells
  | [], _, h => h
  | (n, k) :: r, cs, h => by
    unfold closFrom
    refine closFrom_in cells r _ ?_
    cases k with
    | free =>
      cases q : cells.lookup n with
      | none => exact h
      | some c => exact ⟨q, h⟩
    | _ => exact h
theorem closOf_in (scope : Scope) (env : Env) : AllIn (closOf scope env) env.cells := closFrom_in _ _ _ trivial
def CapOk (X : Cx) (sc : Scope) (cl : List (Str × Addr)) : List Str → List (Option Nat) → Prop
  | [], [] => True
  | _ :: N, Option.none :: r => CapOk X sc cl N r
  | x :: N, some j :: r => X.N[j]? = some x ∧ (X.env.kindOf x = some .cell ∨ X.env.kindOf x = some .free) ∧ (sc.names.lookup x = some .cell ∨ sc.names.lookup x = some .free) ∧ (∃ c, cl.lookup x = some c) ∧ CapOk X sc cl N r
  | _, _ => False
def capSt (σ : St) (cap : List (Option Nat)) : St := cap.map fun o => match o with
  | Option.none => Option.none
  | some j => match σ[j]? with
    | some v => v
    | Option.none => Option.none
theorem CapOk.nil {X : Cx} {sc : Scope} {cl : List (Str × Addr)} : CapOk X sc cl [] [] := trivial
theorem CapOk.own {X : Cx} {sc : Scope} {cl : List (Str × Addr)} {x : Str} {N : List Str} {r : List (Option Nat)} (h : CapOk X sc cl N r) : CapOk X sc cl (x :: N) (Option.none :: r) := h
theorem CapOk.take {X : Cx} {sc : Scope} {cl : List (Str × Addr)} {x : Str} {N : List Str} {j : Nat} {r : List (Option Nat)} (h1 : X.N[j]? = some x) (h2 : X.env.kindOf x = some .cell ∨ X.env.kindOf x = some .free)
    (h3 : sc.names.lookup x = some .cell ∨ sc.names.lookup x = some .free) (h4 : (cl.lookup x).isSome = true) (h : CapOk X sc cl N r) : CapOk X sc cl (x :: N) (some j :: r) := ⟨h1, h2, h3, Option.isSome_iff_exists.mp h4, h⟩
theorem CapOk.len {X : Cx} {sc : Scope} {cl : List (Str × Addr)} : ∀ {N : List Str} {cap : List (Option Nat)}, CapOk X sc cl N cap → cap.length = N.length
  | [], [], _ => rfl
  | _ :: N, Option.none :: r, h => congrArg (· + 1) (CapOk.len (N := N) (cap := r) h)
  | _ :: N, some _ :: r, h => congrArg (· + 1) (CapOk.len (N := N) (cap := r) h.2.2.2.2)
  | [], _ :: _, h => h.elim
  | _ :: _, [], h => h.elim
theorem CapOk.get {X : Cx} {sc : Scope} {cl : List (Str × Addr)} {σ : St} : ∀ {N : List Str} {cap : List (Option Nat)} {i : Nat} {x : Str} {v : V}, CapOk X sc cl N cap → N[i]? = some x → (capSt σ cap)[i]? = some (some v) →
    ∃ j : Nat, X.N[j]? = some x ∧ σ[j]? = some (some v) ∧ (X.env.kindOf x = some .cell ∨ X.env.kindOf x = some .free) ∧ (sc.names.lookup x = some .cell ∨ sc.names.lookup x = some .free) ∧ ∃ c, cl.lookup x = some c
  | [], [], i, x, v, _, e, _ => by simp at e
  | y :: N, Option.none :: r, 0, x, v, h, e1, e2 => by
    have z : (some (Option.none : Option V)) = some (some v) := e2
    cases z
  | y :: N, Option.none :: r, i + 1, x, v, h, e1, e2 => CapOk.get (N := N) (cap := r) (i := i) h (by simpa using e1) (by simpa [capSt] using e2)
  | y :: N, some j :: r, 0, x, v, h, e1, e2 => by
    have z : y = x := by simpa using e1
    subst z
    obtain ⟨h1, h2, h3, h4, _⟩ := h
    refine ⟨j, h1, ?_, h2, h3, h4⟩
    have z2 : some (match σ[j]? with | some v => v | Option.none => Option.none) = some (some v) := e2
    cases q : σ[j]? with
    | none => rw [q] at z2; cases z2
    | some o => rw [q] at z2; exact z2
  | y :: N, some j :: r, i + 1, x, v, h, e1, e2 => CapOk.get (N := N) (cap := r) (i := i) h.2.2.2.2 (by simpa using e1) (by simpa [capSt] using e2)
  | [], _ :: _, _, _, _, h, _, _ => h.elim
  | _ :: _, [], _, _, _, h, _, _ => h.elim
def cxC (X : Cx) (N' : List Str) (scope : Scope) (s : Shared) (H : Hp) (fp : List Addr) (xe : Value → Shared → Prop) : Cx :=
  { X with N := N', s₀ := s, H₀ := H, env := compEnvC scope (closOf scope X.env) s.heap.objs.size X.env, outer := X.stack, ex := fp, fn := fun _ => false, pn := [], xe := xe }
def PTs (X : Cx) (ifs : List Expr) (t : TT) : Prop :=
  ∀ (pins : List (Addr × Obj)) (s : Shared) (σ : St) (H : Hp) (Q : Bool → Hp → Prop), Inv X pins σ H s → t σ H Q →
    wpAny (model X.prog X.w) X.A (forIn ifs true fun c r => if r = true then do let ok ← isTrue c X.env (eval c X.env); pure (ForInStep.yield ok) else pure (ForInStep.yield r)) (TP X pins σ Q) X.xe s
def tNoIf : TT := fun _ H Q => Q true H
theorem pts_nil {X : Cx} : PTs X [] tNoIf := fun _ _ _ H _ I h => wpAny_tests_nil ⟨H, I, h⟩
def tComp (cap : List (Option Nat)) (wi : TI) (g : TG) (tt : TT) (te : TE) : TE := fun σ H Q => wi σ H fun J H1 => ∀ D, H1 D = Option.none →
  ∃ W : Nat → Nat → List V → St → Hp → Prop, (∃ m, W 0 m [] (capSt σ cap) (upd H1 D (.lst []))) ∧ ∀ i m acc σ1 H2, W i m acc σ1 H2 → H2 D = some (.lst acc) →
    (J.stop i H2 ∧ Q (.ref D) H2) ∨ (J.go i H2 ∧ ∀ x H3, J.yld i H2 x H3 → g x σ1 H3 fun σ4 H4 => tt σ4 H4 fun b H5 =>
      if b = true then te σ4 H5 fun v H6 => ∃ acc', H6 D = some (.lst acc') ∧ acc'.length < sizeLine ∧ ∃ m', m' < m ∧ W (i + 1) m' (acc' ++ [v]) σ4 (upd H6 D (.lst (acc' ++ [v])))
      else ∃ m', m' < m ∧ ∃ acc', H5 D = some (.lst acc') ∧ W (i + 1) m' acc' σ4 H5)
section
variable {X : Cx} {elt tg iter : Expr} {ifs : List Expr} {scope : Scope} {pos : Pos} {cap : List (Option Nat)} {N' : List Str} {wi : TI} {g : TG} {tt : TT} {te : TE}
structure CompOk (X : Cx) (iter : Expr) (scope : Scope) (N' : List Str) (cap : List (Option Nat)) : Prop where
  clos : closureFor scope X.env = pure (closOf scope X.env)
  cap : CapOk X (relabel scope X.env) (closOf scope X.env) N' cap
  kind : scope.kind = .function
  nocell : ∀ y ∈ scope.names, y.2 ≠ .cell
  names : ∀ y ∈ scope.names, y.2 = .local → scope.names.lookup y.1 = some .local
  has : (scope.names.all fun y => y.2 != .free || ((closOf scope X.env).lookup y.1).isSome) = true
  fold : ∀ x, foldedSetIterable iter X.env x = pure x
theorem has_map {f : Str × NameKind → Str × NameKind} (h1 : ∀ y, (f y).1 = y.1) (h2 : ∀ y, y.2 ≠ NameKind.cell → ((f y).2 = NameKind.cell ∨ (f y).2 = NameKind.free) → y.2 = NameKind.free) {cl : List (Str × Addr)} :
    ∀ {names : List (Str × NameKind)} {x : Str}, (∀ y ∈ names, y.2 ≠ NameKind.cell) → (names.all fun y => y.2 != NameKind.free || (cl.lookup y.1).isSome) = true → ((names.map f).lookup x = some NameKind.cell ∨ (names.map f).lookup x = some NameKind.free) → ∃ c, cl.lookup x = some c
  | [], x, _, _, h => by rcases h with h | h <;> simp at h
  | y :: r, x, hc, ha, h => by
    rw [List.all_cons, Bool.and_eq_true] at ha
    rw [List.map_cons] at h
    have e0 : f y = (y.1, (f y).2) := by rw [← h1 y]
    rw [e0, List.lookup_cons] at h
    cases q : x == y.1 with
    | true =>
      rw [q] at h
      have e : x = y.1 := beq_iff_eq.mp q
      have hf : y.2 = NameKind.free := h2 y (hc y List.mem_cons_self) (by
        rcases h with h | h
        · exact .inl (Option.some.inj h)
        · exact .inr (Option.some.inj h))
      have h3 : (cl.lookup y.1).isSome = true := by
        have := ha.1
        rw [hf] at this
        simpa using this
      rw [e]
      exact Option.isSome_iff_exists.mp h3
    | false =>
      rw [q] at h
      exact has_map h1 h2 (fun z hz => hc z (List.mem_cons_of_mem _ hz)) ha.2 h
theorem has_of {env : Env} {scope : Scope} {cl : List (Str × Addr)} {x : Str} (hc : ∀ y ∈ scope.names, y.2 ≠ NameKind.cell) (ha : (scope.names.all fun y => y.2 != NameKind.free || (cl.lookup y.1).isSome) = true)
    (h : (relabel scope env).names.lookup x = some NameKind.cell ∨ (relabel scope env).names.lookup x = some NameKind.free) : ∃ c, cl.lookup x = some c := by
  refine has_map (f := fun (n, k) => if (k == NameKind.free && env.scope.kind == .function && env.kindOf n == some .cell) then (n, NameKind.cell) else (n, k)) (fun y => ?_) (fun y hy hk => ?_) hc ha h
  · obtain ⟨n, k⟩ := y
    dsimp only
    split <;> rfl
  · obtain ⟨n, k⟩ := y
    dsimp only at hk ⊢ hy
    by_cases hb : (k == NameKind.free && env.scope.kind == .function && env.kindOf n == some .cell) = true
    · simp only [Bool.and_eq_true] at hb
      exact beq_iff_eq.mp hb.1.1
    · rw [if_neg hb] at hk
      rcases hk with hk | hk
      · exact absurd hk hy
      · exact hk
theorem compLoop_any {P : Program} {w : World} {A : Around} {R : Result → Shared → Prop} {s : Shared} {it acc : Value} {env : Env} (I : Nat → Shared → Prop)
    (turn : ∀ n s, I n s → wpAny (model P w) A (pyNext it) (fun r s₁ => match r with
      | none => R (.ok .next) s₁
      | some v => wpAny (model P w) A (letOwnedTupleGo tg it v) (fun _ s₁' => wpAny (model P w) A (assign tg env v) (fun _ s₂ =>
          wpAny (model P w) A (forIn ifs true fun c r => if r = true then do let ok ← isTrue c env (eval c env); pure (ForInStep.yield ok) else pure (ForInStep.yield r)) (fun ok s₃ =>
            if ok = true then wpAny (model P w) A (eval elt env) (fun x s₄ =>
              wpAny (model P w) A (call (.builtin "list.append") [acc, x]) (fun _ s₅ => ∃ m, m < n ∧ I m s₅) (notedBy (model P w) A env fun e s' => R (.error e) s') s₄) (notedBy (model P w) A env fun e s' => R (.error e) s') s₃
            else ∃ m, m < n ∧ I m s₃) (notedBy (model P w) A env fun e s' => R (.error e) s') s₂) (notedBy (model P w) A env fun e s' => R (.error e) s') s₁') (notedBy (model P w) A env fun e s' => R (.error e) s') s₁)
        (notedBy (model P w) A env fun e s' => R (.error e) s') s)
    (n : Nat) (h : I n s) :
    codeAny (model P w) A (.compLoop (.ListComp elt [⟨tg, iter, ifs, 0⟩] scope pos) 0 it acc env) R s := by
  refine codeAny_loop rfl I (fun n s hI => ?_) n h
  show wpAny _ A ((compTurn (.ListComp elt [⟨tg, iter, ifs, 0⟩] scope pos) 0 it acc env).onRaise (fun x => do noteFrame x env; theTreesLotGoes x)) _ _ s
  refine wpAny_noted ?_
  rw [compTurn_list]
  refine wpAny_bind (wpAny_standAt (wpAny_bind (wpAny_mono (turn n s hI) (fun r s₁ h₁ => ?_) fun _ _ h' => h')))
  cases r with
  | none => exact wpAny_pure h₁
  | some v =>
    refine wpAny_bind (wpAny_mono h₁ (fun _ s₁' h₁ => ?_) fun _ _ h' => h')
    refine wpAny_bind (wpAny_mono h₁ (fun _ s₂ h₂ => wpAny_bind (wpAny_mono h₂ (fun ok s₃ h₃ => ?_) fun _ _ h' => h')) fun _ _ h' => h')
    cases ok with
    | false => exact wpAny_pure ⟨rfl, h₃⟩
    | true =>
      exact wpAny_bind (wpAny_bind (wpAny_mono h₃ (fun x s₄ h₄ => wpAny_bind (wpAny_mono h₄ (fun _ s₅ h₅ => wpAny_pure (wpAny_pure ⟨rfl, h₅⟩)) fun _ _ h' => h')) fun _ _ h' => h'))
theorem comp_core {pins : List (Addr × Obj)} {σ : St} {H2 : Hp} {s2 : Shared} {Q : VK} {it : Addr} {fp : List Addr} {tn : Nat → Heap → Prop} {J : It} {R : Value → Addr → Result → Shared → Prop} {E : Value → Shared → Prop}
    (hc : X.calm = true) (C : CompOk X iter scope N' cap)
    (hg : ∀ s H fp xe, PG (cxC X N' scope s H fp xe) tg g) (ht : ∀ s H fp xe, PTs (cxC X N' scope s H fp xe) ifs tt) (he : ∀ s H fp xe, PE (cxC X N' scope s H fp xe) elt te)
    (I2 : Inv X pins σ H2 s2) (T : Turn X.prog X.w X.K tg J fp it tn) (st2 : tn 0 s2.heap) (f2 : ∀ b ∈ fp, FpOk X pins H2 b)
    (hR : ∀ D Cl H' s', Inv X pins σ H' s' → (∃ m, s'.heap.Ns Cl m) → H' Cl = Option.none → Cl ≠ X.env.locals → X.s₀.heap.objs.size ≤ Cl → (∀ x c, X.env.cells.lookup x = some c → c ≠ Cl) → (∀ p ∈ X.pn ++ pins, p.1 ≠ Cl) → Q (.ref D) H' → R (.ref D) Cl (.ok .next) s')
    (hw : ∀ D, H2 D = Option.none → ∃ W : Nat → Nat → List V → St → Hp → Prop, (∃ m, W 0 m [] (capSt σ cap) (upd H2 D (.lst []))) ∧ ∀ i m acc σ1 H2, W i m acc σ1 H2 → H2 D = some (.lst acc) →
      (J.stop i H2 ∧ Q (.ref D) H2) ∨ (J.go i H2 ∧ ∀ x H3, J.yld i H2 x H3 → g x σ1 H3 fun σ4 H4 => tt σ4 H4 fun b H5 =>
        if b = true then te σ4 H5 fun v H6 => ∃ acc', H6 D = some (.lst acc') ∧ acc'.length < sizeLine ∧ ∃ m', m' < m ∧ W (i + 1) m' (acc' ++ [v]) σ4 (upd H6 D (.lst (acc' ++ [v])))
        else ∃ m', m' < m ∧ ∃ acc', H5 D = some (.lst acc') ∧ W (i + 1) m' acc' σ4 H5)) :
    wpAny (model X.prog X.w) X.A (newList []) (fun acc s₃ => wpAny (model X.prog X.w) X.A (newFunctionEnv scope X.env.globals (closOf scope X.env) [] X.env.qual none .none (some X.env)) (fun cenv s₄ =>
      codeAny (model X.prog X.w) X.A (.compStart (.ListComp elt [⟨tg, iter, ifs, 0⟩] scope pos) 0 (.ref it) acc { cenv with scope := relabel scope X.env }) (R acc cenv.locals) s₄) E s₃) E s2 := by
  refine wpAny_newObj_type (wpAny_newFunctionEnv C.nocell (by intro y hy; simp at hy) (fun h₁ hns₁ hsb₁ => ?_) C.kind)
  obtain ⟨W, ⟨m0, w0⟩, turn⟩ := hw s2.heap.objs.size I2.fresh
  have I3 : Inv X pins σ (upd H2 s2.heap.objs.size (.lst [])) { s2 with heap := s2.heap.push { cls := .type "list", data := .seq ([] : List Value).toArray } } := I2.lnew (t' := s2.toks) .nil (Nat.zero_le _)
  generalize hs3 : ({ s2 with heap := s2.heap.push { cls := .type "list", data := .seq ([] : List Value).toArray } } : Shared) = s3 at I3 hns₁ hsb₁ ⊢
  generalize hD : s2.heap.objs.size = D at I3 w0 turn ⊢
  have hn0 : H2 D = Option.none := by rw [← hD]; exact I2.fresh
  have hs32 : s3.os = s2.os := by rw [← hs3]
  have un32 : Un (frs X.stack) fp H2 (upd H2 D (.lst [])) s2.heap s3.heap := by
    rw [← hs3, ← hD]
    exact Un.laid (fun b u q => Heap.get?_push_of_some _ q) (Nat.le_refl _) I2.fresh
  have keep4 : ∀ b o, s3.heap.get? b = some o → h₁.get? b = some o := fun b o e => (hsb₁.2 b (Nat.ne_of_lt (Heap.lt_size e))).trans (Heap.get?_push_of_some _ e)
  have keep2 : ∀ b o, s2.heap.get? b = some o → s3.heap.get? b = some o := fun b o e => by rw [← hs3]; exact Heap.get?_push_of_some _ e
  have hR' : ∀ (r : Result) (s' : Shared), R (.ref D) s3.heap.objs.size r s' → R (.ref D) s3.heap.objs.size r s' := fun _ _ h => h
  have f3 : ∀ b ∈ fp, FpOk X pins (upd H2 D (.lst [])) b := fun b hb => by
    obtain ⟨q0, q1⟩ := f2 b hb
    refine ⟨?_, q1⟩
    obtain ⟨o, e, _⟩ := T.obj _ _ st2 b hb
    rw [upd_ne (by rw [← hD]; exact Nat.ne_of_lt (Heap.lt_size e))]
    exact q0
  let XC : Cx := cxC X N' scope s3 (upd H2 D (.lst [])) fp (notedBy (model X.prog X.w) X.A (compEnvC scope (closOf scope X.env) s3.heap.objs.size X.env) fun e s' => R (.ref D) s3.heap.objs.size (.error e) s')
  have ok : XC.Ok := by
    refine ⟨I3.ok.mod, C.kind, I3.ok.glob, I3.ok.blt, Nat.le_refl _, fun x y c e1 e2 => I3.ok.inj x y c ((closOf_in scope X.env).look e1) ((closOf_in scope X.env).look e2), fun x hx => has_of C.nocell C.has hx, fun x c hf => (nomatch hf), fun _ => I3.ok.hd hc, I3.ok.frames, .inl rfl, fun b hb => ?_, I3.bs, Nat.le_trans I3.ok.bsz I3.sz, fun b o e hb => ?_, fun b hb hf => ?_, I3.stack, I3.stkFree⟩
    · obtain ⟨q0, q1, q2, q3, q4, q5⟩ := f3 b hb
      refine ⟨?_, fun x c e => q4 x c ((closOf_in scope X.env).look e)⟩
      obtain ⟨o, e, _⟩ := T.obj _ _ st2 b hb
      exact Nat.ne_of_lt (Heap.lt_size (keep2 _ _ e))
    · obtain ⟨q0, q1, q2, q3, q4, q5⟩ := f3 b hb
      rcases q3 with q3 | q3
      · exact I3.ok.noex b o e q3
      · exact absurd (Nat.lt_of_lt_of_le (Heap.lt_size e) (Nat.le_trans I3.ok.bsz q3)) (Nat.lt_irrefl _)
    · obtain ⟨q0, q1, q2, q3, q4, q5⟩ := f3 b hb
      rcases List.mem_cons.mp (I3.stkSub b hf) with z | z
      · exact q1 z
      · exact q2 z
  have I4 : Inv XC [] (capSt σ cap) (upd H2 D (.lst [])) { s3 with heap := h₁, toks := s3.toks + ([] : List (Str × Value)).length } := by
    refine ⟨ok, rfl, I3.bare, Un.kept keep4, ⟨_, hns₁, fun i x v e1 e2 e3 => ?_⟩, fun x c e => ?_, I3.hok.fresh (Nat.le_refl _), fun x c e => I3.freeC x c ((closOf_in scope X.env).look e), fun p hp => absurd (show p ∈ ([] : List (Addr × Obj)) from hp) (by simp), I3.hok.kept keep4, by rw [show (capSt σ cap).length = cap.length from by simp [capSt]]; exact C.cap.len⟩
    · obtain ⟨j, g1, g2, g3, g4, c, g5⟩ := C.cap.get e1 e2
      obtain ⟨m, _, hl⟩ := I3.loc
      obtain ⟨u, r, l⟩ := hl j x v g1 g2 (by
        rcases g3 with z | z
        · exact .inr (.inl z)
        · exact .inr (.inr z))
      refine ⟨u, r, .inr ⟨g4, c, g5, ?_⟩⟩
      rcases l with ⟨k, _⟩ | ⟨_, c', e, z⟩
      · rcases g3 with q | q
        · rw [k] at q; cases q
        · rw [k] at q; cases q
      · have e' := (closOf_in scope X.env).look g5
        rw [e] at e'; cases e'
        obtain ⟨o, ho, hd⟩ := z
        exact ⟨o, keep4 _ _ ho, hd⟩
    · obtain ⟨v, o, ho, hd⟩ := I3.cell x c ((closOf_in scope X.env).look e)
      exact ⟨v, o, keep4 _ _ ho, hd⟩
  have st4 : tn 0 h₁ := T.keep _ _ _ st2 fun b _ o e => keep4 b o (keep2 b o e)
  have fpc : ∀ {pins' : List (Addr × Obj)} {H' : Hp}, (∀ b ∈ fp, H' b = Option.none) → (∀ p ∈ pins', p.1 ∉ fp) → ∀ b ∈ fp, FpOk XC pins' H' b := fun {pins' H'} hn hp b hb => by
    obtain ⟨q1, q2⟩ := ok.exf b hb
    exact ⟨hn b hb, q1, ok.exfs b hb, .inl hb, q2, fun p hp' z => hp p (by simpa [XC, cxC] using hp') (by rw [z]; exact hb)⟩
  have hDf : D ∉ fp := fun hb => by
    obtain ⟨o, e, _⟩ := T.obj _ _ st2 D hb
    rw [← hD] at e
    exact absurd (Heap.lt_size e) (Nat.lt_irrefl _)
  have out : ∀ {σ' : St} {H' : Hp} {s' : Shared}, Inv XC [] σ' H' s' → Inv X pins σ H' s' := fun {σ' H' s'} J' =>
    I2.call' (ch := fp) (J'.os.trans hs32) (un32.trans J'.base) J'.hok J'.bare fun b hb => by
      obtain ⟨q0, q1, q2, q3, q4, q5⟩ := f2 b hb
      exact ⟨q3, q1, q4, q5⟩
  have loop : ∀ s₄ : Shared, s₄ = { s3 with heap := h₁, toks := s3.toks + ([] : List (Str × Value)).length } →
      codeAny (model X.prog X.w) X.A (.compLoop (.ListComp elt [⟨tg, iter, ifs, 0⟩] scope pos) 0 (.ref it) (.ref D) (compEnvC scope (closOf scope X.env) s3.heap.objs.size X.env)) (R (.ref D) s3.heap.objs.size) s₄ := by
    rintro s₄ rfl
    refine compLoop_any (fun n s' => ∃ i acc σ' H', Inv XC [] σ' H' s' ∧ tn i s'.heap ∧ (∀ b ∈ fp, H' b = Option.none) ∧ H' D = some (.lst acc) ∧ W i n acc σ' H') ?_ m0
      ⟨0, [], capSt σ cap, upd H2 D (.lst []), I4, st4, fun b hb => (f3 b hb).1, upd_same, w0⟩
    rintro n s5 ⟨i, acc, σ5, H5, I5, st5, fr5, hA, w5⟩
    rcases turn i n acc σ5 H5 w5 hA with ⟨stop, q⟩ | ⟨go, step⟩
    · refine thn (T.done XC rfl rfl rfl hc i [] s5 σ5 H5 _ I5 (fpc fr5 (by simp)) st5 stop) fun r s6 ⟨hr, I6⟩ => ?_
      subst hr
      obtain ⟨m, hn, _⟩ := I6.loc
      exact hR D s3.heap.objs.size H5 s6 (out I6) ⟨m, hn⟩ I6.free (Nat.ne_of_gt I3.lt) I3.sz (fun x c e z => by
        obtain ⟨v, o, ho, _⟩ := I3.cell x c e
        rw [z] at ho
        exact absurd (Heap.lt_size ho) (Nat.lt_irrefl _)) (fun p hp z => by
        have e := (I3.pin p hp).1
        rw [z] at e
        exact absurd (Heap.lt_size e) (Nat.lt_irrefl _)) q
    · refine thn (T.item XC rfl rfl rfl hc i [] s5 σ5 H5 _ I5 (fpc fr5 (by simp)) st5 go) fun r s6 ⟨u, hr, h6⟩ => ?_
      subst hr
      refine thn h6 fun _ s7 ⟨x, H7, I7, r7, y7, st7, fr7⟩ => ?_
      have I7' := I7.pinned (fpc fr7 (by simp)) (T.obj _ _ st7)
      have again : ∀ {σ8 : St} {H8 : Hp} {s8 : Shared}, Inv XC ([] ++ pinsAt fp s7.heap) σ8 H8 s8 → (∃ acc', H8 D = some (.lst acc') ∧ ∃ m', m' < n ∧ W (i + 1) m' acc' σ8 H8) →
          ∃ m, m < n ∧ ∃ i acc σ' H', Inv XC [] σ' H' s8 ∧ tn i s8.heap ∧ (∀ b ∈ fp, H' b = Option.none) ∧ H' D = some (.lst acc) ∧ W i m acc σ' H' := fun {σ8 H8 s8} I8 ⟨acc', hA', m', hm, w8⟩ => by
        refine ⟨m', hm, i + 1, acc', σ8, H8, I8.unpinned, T.keep _ _ _ st7 fun b hb o e => (I8.pin (b, o) (List.mem_append_right _ (List.mem_append_right _ (mem_pinsAt hb e)))).1, fun b hb => ?_, hA', w8⟩
        obtain ⟨o, e, d⟩ := T.obj _ _ st7 b hb
        exact (I8.pin (b, o) (List.mem_append_right _ (List.mem_append_right _ (mem_pinsAt hb e)))).2.1
      refine thn (hg s3 _ fp _ _ s7 σ5 H7 x u _ I7' r7 (step x H7 y7)) fun _ s8 ⟨σ8, H8, I8, q8⟩ => ?_
      refine thn (ht s3 _ fp _ _ s8 σ8 H8 _ I8 q8) fun b s9 ⟨H9, I9, q9⟩ => ?_
      cases b with
      | false =>
        rw [if_neg Bool.false_ne_true] at q9 ⊢
        obtain ⟨m', hm, acc', hA', w9⟩ := q9
        exact again I9 ⟨acc', hA', m', hm, w9⟩
      | true =>
        rw [if_pos rfl] at q9 ⊢
        refine thn (he s3 _ fp _ _ s9 σ8 H9 _ I9 q9) fun v s10 ⟨y, H10, I10, r10, acc', hA', hz, m', hm, w10⟩ => ?_
        refine thn (mt_append (X := XC) _ s10 σ8 H10 (.ref D) [y] (.ref D) [v] (fun _ Hz => Hz = upd H10 D (.lst (acc' ++ [y]))) I10 rfl (.cons r10 .nil) ⟨D, acc', y, rfl, rfl, hA', hz, rfl⟩) fun _ s11 ⟨_, H11, I11, _, e11⟩ => ?_
        subst e11
        exact again I11 ⟨acc' ++ [y], upd_same, m', hm, w10⟩
  exact codeAny_compStart_list (loop _ rfl) (T.self _ 0 _ _ _ st4 (loop _ rfl))
theorem pe_comp (hc : X.calm = true) (C : CompOk X iter scope N' cap) (hi : PI X tg iter wi)
    (hg : ∀ s H fp xe, PG (cxC X N' scope s H fp xe) tg g) (ht : ∀ s H fp xe, PTs (cxC X N' scope s H fp xe) ifs tt) (he : ∀ s H fp xe, PE (cxC X N' scope s H fp xe) elt te) :
    PE X (.ListComp elt [⟨tg, iter, ifs, 0⟩] scope pos) (tComp cap wi g tt te) := by
  intro pins s σ H Q I h
  rw [eval_ListComp]
  refine wpAny_comprehension_free (use := none) rfl C.fold C.clos C.kind C.names (thn (hi pins s σ H _ I h) fun v s1 h1 => thn h1 fun itv s2 h2 => ?_)
  obtain ⟨it, fp, tn, J, H2, e, I2, T, st2, f2, hw⟩ := h2
  subst e
  refine comp_core (R := fun acc Cl => compPost (model X.prog X.w) X.A X.xe none (EP X pins σ Q) acc Cl) hc C hg ht he I2 T st2 f2 ?_ hw
  intro D Cl H' s' I' ⟨m, hn⟩ hf h1 h2 h3 h4 q
  exact ⟨m, hn, fun h' hs' => ⟨.ref D, H', I'.turned (t' := s'.toks) (fun b o hb e => (hs'.2 b hb).trans e) hf h1 (.inr h2) h3 h4, rfl, q⟩⟩
end
end L2
namespace L2
open PySem PySem.Spec PyProof.Rows
section
variable {X : Cx} {a b c : Expr} {ta tb tc : TE} {pos : Pos}
def CMulB (i j : Int) : Prop := i.natAbs < 2 ^ 2000 ∧ j.natAbs < 2 ^ 2000
theorem CMulB.ok {i j : Int} (h : CMulB i j) : IntMulOk i j :=
  IntMulOk.of_bits (Nat.le_trans (intBits_le h.1) (by decide)) (Nat.le_trans (intBits_le h.2) (by decide))
def CDivB (_ j : Int) : Prop := 0 < j ∧ j.natAbs < 2 ^ 2000
theorem op_fdivB : OpR X (binaryOp .FloorDiv) (rI CDivB fun i j => .int (i / j)) := opI fun i j _ _ _ _ _ hc q => by
  have h1 : (0 : Int) < j := hc.1
  have h0 : j.natAbs ≠ 0 := by omega
  have h2 : j.natAbs.log2 < 2000 := (Nat.log2_lt h0).mpr hc.2
  exact floordiv_int (by omega) (by rw [Int.fdiv_eq_ediv_of_nonneg i (by omega)]; exact q) (.inl (PyProof.noPylong_of_log2 (by omega)))
end
section
variable {prog : Program} {w : World} {A : Around} {E : Value → Shared → Prop}
end
section
variable {X : Cx} {pos : Pos}
def gLst (K : PySem.W.Frag) (n : Nat) (t : TGs) : TG := fun v σ H Q => ∃ a xs, v = .ref a ∧ SqL K H a xs ∧ xs.length = n ∧ t xs σ H Q
end
end L2
namespace L2
open PySem PySem.Spec PyProof.Rows
section
variable {X : Cx} {a b c : Expr} {ta tb tc : TE} {pos : Pos}
def CMulU (i j : Int) : Prop := CMul i j ∨ CMulB i j
theorem op_mulU : OpR X (binaryOp .Mult) (rI CMulU fun i j => .int (i * j)) := opI fun _ _ _ _ _ _ _ hc q => mul_int q (hc.elim (fun h => h.ok) fun h => h.ok)
theorem CMulU.l {i j : Int} (h1 : -(2 ^ 64) < i) (h2 : i < 2 ^ 64) : CMulU i j := .inl (.inl ⟨h1, h2⟩)
theorem CMulU.r {i j : Int} (h1 : -(2 ^ 64) < j) (h2 : j < 2 ^ 64) : CMulU i j := .inl (.inr ⟨h1, h2⟩)
theorem CMulU.big {i j : Int} (h1 : i.natAbs < 2 ^ 2000) (h2 : j.natAbs < 2 ^ 2000) : CMulU i j := .inr ⟨h1, h2⟩
theorem call_isinstT : CallR X (.builtin "isinstance") (fun xs H Q => ∃ x n t k, xs = [x, .ty n] ∧ TyOf X.K H x t ∧ PySem.W.kitOne X.K t (.type n) = some k ∧ Q (.bl k) H) := by
  intro pins s σ H xs us Q I r h
  obtain ⟨x, n, t, k, rfl, ty, e, q⟩ := h
  obtain ⟨u, w', rfl, rx, rc⟩ := vals2 r
  cases rc
  exact isinst_ok I rx ty e fun tk => ⟨.bl k, H, I.tok _, rfl, q⟩
theorem call_isinstC : CallR X (.builtin "isinstance") (fun xs H Q => ∃ x C t k, xs = [x, .ref C] ∧ TyOf X.K H x t ∧ PySem.W.kitOne X.K t (.ref C) = some k ∧ Q (.bl k) H) := by
  intro pins s σ H xs us Q I r h
  obtain ⟨x, C, t, k, rfl, ty, e, q⟩ := h
  obtain ⟨u, w', rfl, rx, rc⟩ := vals2 r
  cases rc
  exact isinst_ok I rx ty e fun tk => ⟨.bl k, H, I.tok _, rfl, q⟩
theorem pe_ty {x : Str} (T : String) (hg : Gl X x) (hm : X.mg x = none) (hv : bootBuiltins x = some (.type T)) (hn : x ≠ "__name__" := by decide) (hd : (x == ("__debug__" : Str)) = false := by decide) : PE X (.Name x pos) (tC (.ty T)) := pe_bltn hg hm hv rfl hn hd
end
section
variable {D : Ends} {σ : St} {H : Hp} {t u : TS} {te ta tb tc : TE} {tt tu : TT} {Q : VK} {QB : Bool → Hp → Prop} {QA : List V → Hp → Prop} {QG : St → Hp → Prop} {v x y : V} {vs : List V} {i j : Nat} {g : TG} {gs : TGs} {A : TA} {K : PySem.W.Frag}
theorem ap_seq : tSeq t u D σ H = t { D with nx := u D } σ H := rfl
theorem ap_next : tNext D σ H = D.nx σ H := rfl
theorem ap_asg : tAsg te g D σ H = te σ H fun x H1 => g x σ H1 D.nx := rfl
theorem ap_name : gName i v σ H QG = QG (σ.set i (some v)) H := rfl
theorem ap_var : tVar i σ H Q = ∃ v, σ[i]? = some (some v) ∧ Q v H := rfl
theorem ap_c : tC v σ H Q = Q v H := rfl
theorem ap_op {r : R2} : tOp r ta tb σ H Q = ta σ H fun x H1 => tb σ H1 fun y H2 => r x y H2 Q := rfl
theorem ap_un {r : V → Hp → VK → Prop} : tUn r ta σ H Q = ta σ H fun x H1 => r x H1 Q := rfl
theorem ap_rI {C : Int → Int → Prop} {f : Int → Int → V} : rI C f x y H Q = ∃ i j, x = .int i ∧ y = .int j ∧ C i j ∧ Q (f i j) H := rfl
theorem ap_rI0 {f : Int → Int → V} : rI0 f x y H Q = ∃ i j, x = .int i ∧ y = .int j ∧ Q (f i j) H := rfl
theorem ap_rU {f : Int → V} : rU f x H Q = ∃ i, x = .int i ∧ Q (f i) H := rfl
theorem ap_rEq : rEq x y H Q = (scal x y = true ∧ Q (.bl (decide (x = y))) H) := rfl
theorem ap_rNe : rNe x y H Q = (scal x y = true ∧ Q (.bl (!decide (x = y))) H) := rfl
theorem ap_ret : tRet te D σ H = te σ H D.rt := rfl
theorem ap_retN : tRetN D σ H = D.rt .non H := rfl
theorem ap_drop : tDrop te D σ H = te σ H fun _ H1 => D.nx σ H1 := rfl
theorem ap_if : tIfS tt t u D σ H = tt σ H fun b H1 => if b = true then t D σ H1 else u D σ H1 := rfl
theorem ap_test : tTest te σ H QB = te σ H fun x H' => ∃ k, x = .bl k ∧ QB k H' := rfl
theorem ap_tB : tB te σ H QB = te σ H fun x H1 => ∃ c, x = .bl c ∧ QB c H1 := rfl
theorem ap_and : tAnd tt tu σ H QB = tt σ H fun c H1 => if c = true then tu σ H1 QB else QB false H1 := rfl
theorem ap_or : tOr tt tu σ H QB = tt σ H fun c H1 => if c = true then QB true H1 else tu σ H1 QB := rfl
theorem ap_not : tNot tt σ H QB = tt σ H fun c H1 => QB (!c) H1 := rfl
theorem ap_andV : tAndV ta tb σ H Q = ta σ H fun x H1 => ∃ c, x = .bl c ∧ if c = true then tb σ H1 Q else Q (.bl false) H1 := rfl
theorem ap_orV : tOrV ta tb σ H Q = ta σ H fun x H1 => ∃ c, x = .bl c ∧ if c = true then Q (.bl true) H1 else tb σ H1 Q := rfl
theorem ap_notV : tNotV ta σ H Q = ta σ H fun x H1 => ∃ c, x = .bl c ∧ Q (.bl (!c)) H1 := rfl
theorem ap_ifE : tIf tt ta tb σ H Q = tt σ H fun c H1 => if c = true then ta σ H1 Q else tb σ H1 Q := rfl
theorem ap_call {sp : Sp} {dvs : List V} {E : XK} : tCall sp dvs E A σ H Q = A σ H fun vs H1 => sp (vs ++ dvs) H1 Q E := rfl
theorem ap_nil : tNil σ H QA = QA [] H := rfl
theorem ap_cons : tCons ta A σ H QA = ta σ H fun x H1 => A σ H1 fun xs H2 => QA (x :: xs) H2 := rfl
theorem ap_cb {r : List V → Hp → VK → Prop} : tCB r A σ H Q = A σ H fun vs H1 => r vs H1 Q := rfl
theorem ap_lst : tLst A σ H Q = A σ H fun xs H1 => xs.length ≤ sizeLine ∧ ∀ p, H1 p = none → Q (.ref p) (upd H1 p (.lst xs)) := rfl
theorem ap_tup : tTup A σ H Q = A σ H fun xs H1 => xs.length ≤ sizeLine ∧ ∀ p, H1 p = none → Q (.ref p) (upd H1 p (.tup xs)) := rfl
theorem ap_chain {r r' : R2} : tChain r r' ta tb tc σ H Q = ta σ H fun x H1 => tb σ H1 fun y H2 => r x y H2 fun z H3 => ∃ k, z = .bl k ∧ (if k = true then tc σ H3 fun w' H4 => r' y w' H4 Q else Q (.bl false) H3) := rfl
theorem ap_sl {r : V → Option Int → Option Int → Hp → VK → Prop} {tl th : TO} : tSl r te tl th σ H Q = te σ H fun x H1 => tl σ H1 fun l H2 => th σ H2 fun u H3 => r x l u H3 Q := rfl
theorem ap_noPart {QO : Option Int → Hp → Prop} : tNoPart σ H QO = QO none H := rfl
theorem ap_part {QO : Option Int → Hp → Prop} : tPart te σ H QO = te σ H fun x H1 => ∃ i, x = .int i ∧ QO (some i) H1 := rfl
theorem ap_gNil : gNil vs σ H QG = (vs = [] ∧ QG σ H) := rfl
theorem ap_gCons {u : TGs} : gCons g u vs σ H QG = ∃ v r, vs = v :: r ∧ g v σ H fun σ' H' => u r σ' H' QG := rfl
theorem ap_gLst {n : Nat} : gLst K n gs v σ H QG = ∃ a xs, v = .ref a ∧ SqL K H a xs ∧ xs.length = n ∧ gs xs σ H QG := rfl
theorem ap_gTup {n : Nat} : gTup K n gs v σ H QG = ∃ a xs, v = .ref a ∧ SqT K H a xs ∧ xs.length = n ∧ gs xs σ H QG := rfl
theorem ap_bm {T : String} {r : V → List V → Hp → VK → Prop} : tBM K T r te A σ H Q = te σ H fun x H1 => tyV K T x H1 ∧ A σ H1 fun xs H2 => r x xs H2 Q := rfl
theorem ap_bm0 {T : String} {r : V → List V → Hp → VK → Prop} : tBM0 K T r te σ H Q = te σ H fun x H1 => tyV K T x H1 ∧ r x [] H1 Q := rfl
theorem ap_ixL {x y : V} : rIxL K x y H Q = ∃ p xs i v, x = .ref p ∧ y = .int i ∧ SqL K H p xs ∧ atI xs i = some v ∧ Q v H := rfl
theorem ap_slL {lo hi : Option Int} : rSlL K x lo hi H Q = ∃ a xs, x = .ref a ∧ SqL K H a xs ∧ ∀ p, H p = none → Q (.ref p) (upd H p (.lst (cutV xs lo hi))) := rfl
theorem scal_int (i j : Int) : scal (.int i) (.int j) = true := rfl
theorem scal_str (i j : Str) : scal (.str i) (.str j) = true := rfl
theorem scal_bl (i j : Bool) : scal (.bl i) (.bl j) = true := rfl
theorem start_eq (N : List Str) (vs : List V) : start N vs = vs.map some ++ List.replicate (N.length - vs.length) none := rfl
end
end L2
namespace L2
open PySem PySem.Spec PyProof.Rows
theorem Same.upd {H H' : Hp} {a : Addr} {o : HO} (h : Same H H') (hn : H a = Option.none) : Same H (upd H' a o) := fun b u e => by
  rw [upd_ne (ne_of_none e hn)]
  exact h b u e
theorem Same.new {H : Hp} {a : Addr} {o : HO} (hn : H a = Option.none) : Same H (L2.upd H a o) := Same.upd (Same.refl H) hn
section
variable {K : PySem.W.Frag} {a D : Addr} {xs : List V} {g : TG} {tt : TT} {te : TE} {σ0 : St} {H1 : Hp} {Q : VK}
theorem comp_step {xs : List V} (J : It) (Sσ : St → Prop) (p : V → Bool) (F : V → V) (hD : H1 D = Option.none) (h0 : Sσ σ0) (hz : xs.length ≤ sizeLine)
    (hgo : ∀ (i : Nat) x H, xs[i]? = some x → Same H1 H → J.go i H ∧ ∀ y H', J.yld i H y H' → y = x ∧ H' = H) (hstop : ∀ H, Same H1 H → J.stop xs.length H)
    (hs : ∀ x ∈ xs, ∀ (σ : St) (H : Hp) (R1 : St → VK) (R2 : St → Hp → Prop), Sσ σ → Same H1 H → (p x = true → ∀ σ4 H6, Sσ σ4 → Same H H6 → R1 σ4 (F x) H6) → (p x = false → ∀ σ4 H6, Sσ σ4 → Same H H6 → R2 σ4 H6) →
      g x σ H fun σ4 H4 => tt σ4 H4 fun b H5 => if b = true then te σ4 H5 (R1 σ4) else R2 σ4 H5)
    (k : ∀ H', Same H1 H' → H' D = some (.lst ((xs.filter p).map F)) → Q (.ref D) H') :
    ∃ W : Nat → Nat → List V → St → Hp → Prop, (∃ m, W 0 m [] σ0 (upd H1 D (.lst []))) ∧ ∀ i m acc σ1 H2, W i m acc σ1 H2 → H2 D = some (.lst acc) →
      (J.stop i H2 ∧ Q (.ref D) H2) ∨ (J.go i H2 ∧ ∀ x H3, J.yld i H2 x H3 → g x σ1 H3 fun σ4 H4 => tt σ4 H4 fun b H5 =>
        if b = true then te σ4 H5 fun v H6 => ∃ acc', H6 D = some (.lst acc') ∧ acc'.length < sizeLine ∧ ∃ m', m' < m ∧ W (i + 1) m' (acc' ++ [v]) σ4 (upd H6 D (.lst (acc' ++ [v])))
        else ∃ m', m' < m ∧ ∃ acc', H5 D = some (.lst acc') ∧ W (i + 1) m' acc' σ4 H5) := by
  refine ⟨fun i m acc σ H => m = xs.length - i ∧ i ≤ xs.length ∧ Sσ σ ∧ Same H1 H ∧ acc = ((xs.take i).filter p).map F, ⟨xs.length, rfl, Nat.zero_le _, h0, Same.new hD, by simp⟩, ?_⟩
  rintro i m acc σ H ⟨rfl, hi, hσ, sm, rfl⟩ hA
  by_cases hlt : i < xs.length
  · have hx : xs[i]? = some xs[i] := by simp [hlt]
    obtain ⟨go, yl⟩ := hgo i xs[i] H hx sm
    refine .inr ⟨go, fun y H' hy => ?_⟩
    obtain ⟨rfl, rfl⟩ := yl y H' hy
    have htake : xs.take (i + 1) = xs.take i ++ [xs[i]] := by rw [List.take_add_one, hx]; rfl
    have hlen : (((xs.take i).filter p).map F).length ≤ i := by
      rw [List.length_map]
      exact Nat.le_trans (List.length_filter_le _ _) (by rw [List.length_take]; exact Nat.min_le_left _ _)
    refine hs xs[i] (List.getElem_mem hlt) σ H' _ _ hσ sm (fun hp σ4 H6 hσ4 s6 => ?_) (fun hp σ4 H6 hσ4 s6 => ?_)
    · refine ⟨_, s6 _ _ hA, by omega, xs.length - (i + 1), by omega, rfl, hlt, hσ4, (sm.trans s6).upd hD, ?_⟩
      rw [htake, List.filter_append, List.map_append]
      simp [hp]
    · refine ⟨xs.length - (i + 1), by omega, _, s6 _ _ hA, rfl, hlt, hσ4, sm.trans s6, ?_⟩
      rw [htake, List.filter_append, List.map_append]
      simp [hp]
  · have e : i = xs.length := by omega
    subst e
    refine .inl ⟨hstop H sm, k H sm ?_⟩
    rw [hA, List.take_length]
theorem comp_list (Sσ : St → Prop) (p : V → Bool) (F : V → V) (hS : SqL K H1 a xs) (hD : H1 D = Option.none) (h0 : Sσ σ0) (hz : xs.length ≤ sizeLine)
    (hs : ∀ x ∈ xs, ∀ (σ : St) (H : Hp) (R1 : St → VK) (R2 : St → Hp → Prop), Sσ σ → Same H1 H → (p x = true → ∀ σ4 H6, Sσ σ4 → Same H H6 → R1 σ4 (F x) H6) → (p x = false → ∀ σ4 H6, Sσ σ4 → Same H H6 → R2 σ4 H6) →
      g x σ H fun σ4 H4 => tt σ4 H4 fun b H5 => if b = true then te σ4 H5 (R1 σ4) else R2 σ4 H5)
    (k : ∀ H', Same H1 H' → H' D = some (.lst ((xs.filter p).map F)) → Q (.ref D) H') :
    ∃ W : Nat → Nat → List V → St → Hp → Prop, (∃ m, W 0 m [] σ0 (upd H1 D (.lst []))) ∧ ∀ i m acc σ1 H2, W i m acc σ1 H2 → H2 D = some (.lst acc) →
      ((Itl K a).stop i H2 ∧ Q (.ref D) H2) ∨ ((Itl K a).go i H2 ∧ ∀ x H3, (Itl K a).yld i H2 x H3 → g x σ1 H3 fun σ4 H4 => tt σ4 H4 fun b H5 =>
        if b = true then te σ4 H5 fun v H6 => ∃ acc', H6 D = some (.lst acc') ∧ acc'.length < sizeLine ∧ ∃ m', m' < m ∧ W (i + 1) m' (acc' ++ [v]) σ4 (upd H6 D (.lst (acc' ++ [v])))
        else ∃ m', m' < m ∧ ∃ acc', H5 D = some (.lst acc') ∧ W (i + 1) m' acc' σ4 H5) :=
  comp_step (Itl K a) Sσ p F hD h0 hz (fun i x H hx sm => ⟨⟨xs, x, sm.seq hS, hx⟩, fun y H' hy => ⟨Option.some.inj ((hy.2 xs (sm.seq hS)).symm.trans hx), hy.1⟩⟩) (fun H sm => ⟨xs, sm.seq hS, Nat.le_refl _⟩) hs k
theorem comp_range {lo : Int} {n : Nat} (Sσ : St → Prop) (p : V → Bool) (F : V → V) (hD : H1 D = Option.none) (h0 : Sσ σ0) (hz : n ≤ sizeLine)
    (hs : ∀ i : Nat, i < n → ∀ (σ : St) (H : Hp) (R1 : St → VK) (R2 : St → Hp → Prop), Sσ σ → Same H1 H → (p (.int (lo + i)) = true → ∀ σ4 H6, Sσ σ4 → Same H H6 → R1 σ4 (F (.int (lo + i))) H6) → (p (.int (lo + i)) = false → ∀ σ4 H6, Sσ σ4 → Same H H6 → R2 σ4 H6) →
      g (.int (lo + i)) σ H fun σ4 H4 => tt σ4 H4 fun b H5 => if b = true then te σ4 H5 (R1 σ4) else R2 σ4 H5)
    (k : ∀ H', Same H1 H' → H' D = some (.lst ((((List.range n).map fun (i : Nat) => V.int (lo + i)).filter p).map F)) → Q (.ref D) H') :
    ∃ W : Nat → Nat → List V → St → Hp → Prop, (∃ m, W 0 m [] σ0 (upd H1 D (.lst []))) ∧ ∀ i m acc σ1 H2, W i m acc σ1 H2 → H2 D = some (.lst acc) →
      ((Itr lo n).stop i H2 ∧ Q (.ref D) H2) ∨ ((Itr lo n).go i H2 ∧ ∀ x H3, (Itr lo n).yld i H2 x H3 → g x σ1 H3 fun σ4 H4 => tt σ4 H4 fun b H5 =>
        if b = true then te σ4 H5 fun v H6 => ∃ acc', H6 D = some (.lst acc') ∧ acc'.length < sizeLine ∧ ∃ m', m' < m ∧ W (i + 1) m' (acc' ++ [v]) σ4 (upd H6 D (.lst (acc' ++ [v])))
        else ∃ m', m' < m ∧ ∃ acc', H5 D = some (.lst acc') ∧ W (i + 1) m' acc' σ4 H5) := by
  refine comp_step (xs := (List.range n).map fun (i : Nat) => V.int (lo + i)) (Itr lo n) Sσ p F hD h0 (by simpa using hz) (fun i x H hx sm => ?_) (fun H sm => ?_) (fun x hx σ H R1 R2 h1 h2 h3 h4 => ?_) k
  · have hi : i < n := by simpa using (List.getElem?_eq_some_iff.mp hx).1
    have e : x = .int (lo + i) := by
      rw [List.getElem?_map, List.getElem?_range hi] at hx
      exact (Option.some.inj hx).symm
    exact ⟨hi, fun y H' hy => ⟨hy.2.trans e.symm, hy.1⟩⟩
  · show n ≤ _
    simp
  · obtain ⟨i, hi, rfl⟩ := List.mem_map.mp hx
    exact hs i (List.mem_range.mp hi) σ H R1 R2 h1 h2 h3 h4
end
end L2
namespace L2
open PySem PySem.Spec PyProof.Rows
inductive DV where
  | non | bl (b : Bool) | int (i : Int) | str (x : Str) | lst (xs : List DV) | tup (xs : List DV)
mutual
inductive RepD (K : PySem.W.Frag) (H : Hp) : V → DV → Prop
  | non : RepD K H .non .non
  | bl (b : Bool) : RepD K H (.bl b) (.bl b)
  | int (i : Int) : RepD K H (.int i) (.int i)
  | str (x : Str) : RepD K H (.str x) (.str x)
  | lst {a : Addr} {vs : List V} {ds : List DV} (h : SqL K H a vs) (hs : RepsD K H vs ds) : RepD K H (.ref a) (.lst ds)
  | tup {a : Addr} {vs : List V} {ds : List DV} (h : SqT K H a vs) (hs : RepsD K H vs ds) : RepD K H (.ref a) (.tup ds)
inductive RepsD (K : PySem.W.Frag) (H : Hp) : List V → List DV → Prop
  | nil : RepsD K H [] []
  | cons {v : V} {d : DV} {vs : List V} {ds : List DV} (h : RepD K H v d) (hs : RepsD K H vs ds) : RepsD K H (v :: vs) (d :: ds)
end
mutual
def deqD : DV → DV → Bool
  | .non, .non => true
  | .bl a, .bl b => a == b
  | .int a, .int b => a == b
  | .bl a, .int b => (if a then 1 else 0) == b
  | .int a, .bl b => a == (if b then 1 else 0)
  | .str a, .str b => a == b
  | .lst xs, .lst ys => deqDs xs ys
  | .tup xs, .tup ys => deqDs xs ys
  | _, _ => false
def deqDs : List DV → List DV → Bool
  | [], [] => true
  | x :: xs, y :: ys => deqD x y && deqDs xs ys
  | _, _ => false
end
mutual
def depD : DV → Nat
  | .lst xs => depDs xs + 1
  | .tup xs => depDs xs + 1
  | _ => 0
def depDs : List DV → Nat
  | [] => 0
  | x :: xs => max (depD x) (depDs xs)
end
theorem RepsD.length {K : PySem.W.Frag} {H : Hp} : ∀ {vs : List V} {ds : List DV}, RepsD K H vs ds → vs.length = ds.length
  | _, _, .nil => rfl
  | _, _, .cons _ hs => congrArg (· + 1) (RepsD.length hs)
theorem RepsD.get {K : PySem.W.Frag} {H : Hp} : ∀ {vs : List V} {ds : List DV} {j : Nat} {v : V} {d : DV}, RepsD K H vs ds → vs[j]? = some v → ds[j]? = some d → RepD K H v d
  | _, _, _, _, _, .nil, h, _ => by simp at h
  | _, _, 0, _, _, .cons h _, e1, e2 => by simp at e1 e2; subst e1 e2; exact h
  | _, _, j + 1, _, _, .cons _ hs, e1, e2 => RepsD.get (j := j) hs (by simpa using e1) (by simpa using e2)
theorem depDs_get : ∀ {ds : List DV} {j : Nat} {d : DV}, ds[j]? = some d → depD d ≤ depDs ds
  | [], _, _, h => by simp at h
  | x :: xs, 0, d, h => by simp at h; subst h; unfold depDs; exact Nat.le_max_left _ _
  | x :: xs, j + 1, d, h => by unfold depDs; exact Nat.le_trans (depDs_get (j := j) (by simpa using h)) (Nat.le_max_right _ _)
theorem deqDs_all : ∀ (xs ys : List DV), xs.length = ys.length → deqDs xs ys = (List.range xs.length).all fun j => deqD (xs.getD j .non) (ys.getD j .non)
  | [], [], _ => rfl
  | x :: xs, y :: ys, h => by
    unfold deqDs
    rw [deqDs_all xs ys (by simpa using h), List.length_cons, List.range_succ_eq_map, List.all_cons, List.all_map]
    rfl
  | [], _ :: _, h => by simp at h
  | _ :: _, [], h => by simp at h
theorem deqDs_len : ∀ (xs ys : List DV), xs.length ≠ ys.length → deqDs xs ys = false
  | [], [], h => absurd rfl h
  | x :: xs, y :: ys, h => by
    unfold deqDs
    rw [deqDs_len xs ys (by simpa using h), Bool.and_false]
  | [], _ :: _, _ => by unfold deqDs; rfl
  | _ :: _, [], _ => by unfold deqDs; rfl
theorem deqD_lst (xs ys : List DV) : deqD (.lst xs) (.lst ys) = deqDs xs ys := by unfold deqD; rfl
theorem deqD_tup (xs ys : List DV) : deqD (.tup xs) (.tup ys) = deqDs xs ys := by unfold deqD; rfl
mutual
theorem deqD_refl : ∀ d : DV, deqD d d = true
  | .non => by unfold deqD; rfl
  | .bl a => by unfold deqD; simp
  | .int a => by unfold deqD; simp
  | .str a => by unfold deqD; simp
  | .lst xs => by unfold deqD; exact deqDs_refl xs
  | .tup xs => by unfold deqD; exact deqDs_refl xs
theorem deqDs_refl : ∀ ds : List DV, deqDs ds ds = true
  | [] => by unfold deqDs; rfl
  | x :: xs => by unfold deqDs; rw [deqD_refl x, deqDs_refl xs]; rfl
end
section
variable {X : Cx} {pins : List (Addr × Obj)} {σ : St} {H : Hp} {s : Shared}
theorem Inv.noboth (I : Inv X pins σ H s) {a : Addr} {xs ys : List V} (h : SqL X.K H a xs) (h' : SqT X.K H a ys) : False := by
  obtain ⟨its, r, ⟨o, n, e, c, _⟩, _⟩ := I.list h
  obtain ⟨its', r', ⟨o', e', c', _⟩, _⟩ := I.tuple h'
  rw [e] at e'; cases e'
  rw [c] at c'
  exact absurd c' (by decide)
mutual
theorem RepD.inj (I : Inv X pins σ H s) : ∀ {v : V} {d d' : DV}, RepD X.K H v d → RepD X.K H v d' → d = d'
  | _, _, _, .non, .non => rfl
  | _, _, _, .bl _, .bl _ => rfl
  | _, _, _, .int _, .int _ => rfl
  | _, _, _, .str _, .str _ => rfl
  | _, _, _, .lst h hs, .lst h' hs' => by
    have e := I.list_inj h h'
    subst e
    rw [RepsD.inj I hs hs']
  | _, _, _, .tup h hs, .tup h' hs' => by
    have e := I.tuple_inj h h'
    subst e
    rw [RepsD.inj I hs hs']
  | _, _, _, .lst h _, .tup h' _ => (I.noboth h h').elim
  | _, _, _, .tup h _, .lst h' _ => (I.noboth h' h).elim
theorem RepsD.inj (I : Inv X pins σ H s) : ∀ {vs : List V} {ds ds' : List DV}, RepsD X.K H vs ds → RepsD X.K H vs ds' → ds = ds'
  | _, _, _, .nil, .nil => rfl
  | _, _, _, .cons h hs, .cons h' hs' => by rw [RepD.inj I h h', RepsD.inj I hs hs']
end
theorem in1_units (A : Around) : A.in1.units = A.units + 1 := rfl
theorem eqAt_flatL (I : Inv X pins σ H s) {A : Around} {d1 d2 : DV} {v1 v2 : V} {u1 u2 : Value} (hd : depD d1 ≤ 0) (hu' : A.units < cLine) (h1 : RepD X.K H v1 d1) (h2 : RepD X.K H v2 d2) (r1 : RelV v1 u1) (r2 : RelV v2 u2) : SeqAt.EqAt A s u1 u2 (deqD d1 d2) := by
  cases h1 with
  | lst h hs => unfold depD at hd; omega
  | tup h hs => unfold depD at hd; omega
  | non =>
    cases (show u1 = Value.none from r1)
    cases h2 with
    | non => cases (show u2 = Value.none from r2); unfold deqD; exact SeqAt.EqAt.same _
    | bl b => cases (show u2 = Value.bool b from r2); unfold deqD; exact SeqAt.EqAt.none_bool b
    | int i => obtain ⟨t, e⟩ := (show ∃ t, u2 = Value.int i t from r2); subst e; unfold deqD; exact SeqAt.EqAt.none_int i t
    | str x => obtain ⟨t, e⟩ := (show ∃ t, u2 = Value.str x t from r2); subst e; unfold deqD; exact SeqAt.EqAt.none_str x t
    | lst h hs => obtain ⟨its, _, p, _⟩ := I.list h; cases r2; unfold deqD; exact SeqAt.EqAt.none_list p.isList hu'
    | tup h hs => obtain ⟨its, _, p, _⟩ := I.tuple h; cases r2; unfold deqD; exact SeqAt.EqAt.none_tuple p hu'
  | bl a =>
    cases (show u1 = Value.bool a from r1)
    cases h2 with
    | non => cases (show u2 = Value.none from r2); unfold deqD; exact SeqAt.EqAt.bool_none a
    | bl b => cases (show u2 = Value.bool b from r2); unfold deqD; exact SeqAt.EqAt.bool_bool a b
    | int i => obtain ⟨t, e⟩ := (show ∃ t, u2 = Value.int i t from r2); subst e; unfold deqD; exact SeqAt.EqAt.bool_int a i t
    | str x => obtain ⟨t, e⟩ := (show ∃ t, u2 = Value.str x t from r2); subst e; unfold deqD; exact SeqAt.EqAt.bool_str a x t
    | lst h hs => obtain ⟨its, _, p, _⟩ := I.list h; cases r2; unfold deqD; exact SeqAt.EqAt.bool_list a p.isList hu'
    | tup h hs => obtain ⟨its, _, p, _⟩ := I.tuple h; cases r2; unfold deqD; exact SeqAt.EqAt.bool_tuple a p hu'
  | int a =>
    obtain ⟨t1, e1⟩ := (show ∃ t, u1 = Value.int a t from r1); subst e1
    cases h2 with
    | non => cases (show u2 = Value.none from r2); unfold deqD; exact SeqAt.EqAt.int_none a t1
    | bl b => cases (show u2 = Value.bool b from r2); unfold deqD; exact SeqAt.EqAt.int_bool a t1 b
    | int i => obtain ⟨t, e⟩ := (show ∃ t, u2 = Value.int i t from r2); subst e; unfold deqD; exact SeqAt.EqAt.int_int a t1 i t
    | str x => obtain ⟨t, e⟩ := (show ∃ t, u2 = Value.str x t from r2); subst e; unfold deqD; exact SeqAt.EqAt.int_str a t1 x t
    | lst h hs => obtain ⟨its, _, p, _⟩ := I.list h; cases r2; unfold deqD; exact SeqAt.EqAt.int_list a t1 p.isList hu'
    | tup h hs => obtain ⟨its, _, p, _⟩ := I.tuple h; cases r2; unfold deqD; exact SeqAt.EqAt.int_tuple a t1 p hu'
  | str a =>
    obtain ⟨t1, e1⟩ := (show ∃ t, u1 = Value.str a t from r1); subst e1
    cases h2 with
    | non => cases (show u2 = Value.none from r2); unfold deqD; exact SeqAt.EqAt.str_none a t1
    | bl b => cases (show u2 = Value.bool b from r2); unfold deqD; exact SeqAt.EqAt.str_bool a t1 b
    | int i => obtain ⟨t, e⟩ := (show ∃ t, u2 = Value.int i t from r2); subst e; unfold deqD; exact SeqAt.EqAt.str_int a t1 i t
    | str x => obtain ⟨t, e⟩ := (show ∃ t, u2 = Value.str x t from r2); subst e; unfold deqD; exact SeqAt.EqAt.str_str a t1 x t
    | lst h hs => obtain ⟨its, _, p, _⟩ := I.list h; cases r2; unfold deqD; exact SeqAt.EqAt.str_list a t1 p.isList hu'
    | tup h hs => obtain ⟨its, _, p, _⟩ := I.tuple h; cases r2; unfold deqD; exact SeqAt.EqAt.str_tuple a t1 p hu'
theorem eqAt_items {A : Around} {vs1 vs2 : List V} {ds1 ds2 : List DV} {its1 its2 : List Value} (r1 : Vals vs1 its1) (r2 : Vals vs2 its2) (h1 : RepsD X.K H vs1 ds1) (h2 : RepsD X.K H vs2 ds2)
    (ih : ∀ (d1 d2 : DV) (v1 v2 : V) (u1 u2 : Value), depD d1 ≤ depDs ds1 → RepD X.K H v1 d1 → RepD X.K H v2 d2 → RelV v1 u1 → RelV v2 u2 → SeqAt.EqAt A s u1 u2 (deqD d1 d2)) :
    ∀ (j : Nat) (a : j < its1.toArray.size) (b : j < its2.toArray.size), SeqAt.EqAt A s its1.toArray[j] its2.toArray[j] (deqD (ds1.getD j .non) (ds2.getD j .non)) := by
  intro j a b
  have l1 := r1.length
  have l2 := r2.length
  have m1 := h1.length
  have m2 := h2.length
  simp only [List.size_toArray] at a b
  have a1 : j < vs1.length := by omega
  have a2 : j < vs2.length := by omega
  have b1 : j < ds1.length := by omega
  have b2 : j < ds2.length := by omega
  obtain ⟨w1, e1, q1⟩ := r1.get (i := j) (x := vs1[j]) (by simp [a1])
  obtain ⟨w2, e2, q2⟩ := r2.get (i := j) (x := vs2[j]) (by simp [a2])
  have z1 : its1.toArray[j] = w1 := by simpa [a] using e1
  have z2 : its2.toArray[j] = w2 := by simpa [b] using e2
  have y1 : ds1.getD j .non = ds1[j] := by simp [List.getD, b1]
  have y2 : ds2.getD j .non = ds2[j] := by simp [List.getD, b2]
  rw [z1, z2, y1, y2]
  exact ih _ _ _ _ _ _ (depDs_get (j := j) (by simp [b1])) (h1.get (j := j) (by simp [a1]) (by simp [b1])) (h2.get (j := j) (by simp [a2]) (by simp [b2])) q1 q2
theorem eqAt_D (I : Inv X pins σ H s) : ∀ (n : Nat) (A : Around) (d1 d2 : DV) (v1 v2 : V) (u1 u2 : Value), depD d1 ≤ n → A.units + n < cLine → RepD X.K H v1 d1 → RepD X.K H v2 d2 → RelV v1 u1 → RelV v2 u2 → SeqAt.EqAt A s u1 u2 (deqD d1 d2) := by
  intro n
  induction n with
  | zero => exact fun A d1 d2 v1 v2 u1 u2 hd hu h1 h2 r1 r2 => eqAt_flatL I hd (by omega) h1 h2 r1 r2
  | succ n ih =>
    intro A d1 d2 v1 v2 u1 u2 hd hu h1 h2 r1 r2
    have hu' : A.units < cLine := by omega
    have hin : A.in1.units + n < cLine := by rw [in1_units]; omega
    cases h1 with
    | non => exact eqAt_flatL I (by unfold depD; omega) hu' .non h2 r1 r2
    | bl a => exact eqAt_flatL I (by unfold depD; omega) hu' (.bl a) h2 r1 r2
    | int a => exact eqAt_flatL I (by unfold depD; omega) hu' (.int a) h2 r1 r2
    | str a => exact eqAt_flatL I (by unfold depD; omega) hu' (.str a) h2 r1 r2
    | @lst a vs ds h hs =>
      obtain ⟨its, rv, p, _⟩ := I.list h
      cases (show u1 = Value.ref a from r1)
      have hd' : depDs ds ≤ n := by unfold depD at hd; omega
      cases h2 with
      | non => cases (show u2 = Value.none from r2); unfold deqD; exact SeqAt.EqAt.list_none p.isList hu'
      | bl b => cases (show u2 = Value.bool b from r2); unfold deqD; exact SeqAt.EqAt.list_bool b p.isList hu'
      | int i => obtain ⟨t, e⟩ := (show ∃ t, u2 = Value.int i t from r2); subst e; unfold deqD; exact SeqAt.EqAt.list_int i t p.isList hu'
      | str x => obtain ⟨t, e⟩ := (show ∃ t, u2 = Value.str x t from r2); subst e; unfold deqD; exact SeqAt.EqAt.list_str x t p.isList hu'
      | @lst a2 vs2 ds2 h' hs' =>
        obtain ⟨its2, rv2, p2, _⟩ := I.list h'
        cases (show u2 = Value.ref a2 from r2)
        unfold deqD
        by_cases hne : a = a2
        · subst hne
          have e := I.list_inj h h'
          subst e
          rw [RepsD.inj I hs hs', deqDs_refl]
          exact SeqAt.EqAt.same _
        · have l1 := rv.length
          have l2 := rv2.length
          have m1 := hs.length
          have m2 := hs'.length
          by_cases hz : ds.length = ds2.length
          · rw [deqDs_all _ _ hz]
            have := SeqAt.EqAt.of_refs hne (SeqAt.RcAt.lists (A := A) (e := fun j => deqD (ds.getD j .non) (ds2.getD j .non)) p.isList p2.isList (by simp only [List.size_toArray]; omega) hu'
              (eqAt_items rv rv2 hs hs' fun d1 d2 v1 v2 u1 u2 hdd g1 g2 q1 q2 => ih A.in1 d1 d2 v1 v2 u1 u2 (by omega) hin g1 g2 q1 q2))
            rw [List.size_toArray, show its.length = ds.length by omega] at this
            exact this
          · rw [deqDs_len _ _ hz]
            exact SeqAt.EqAt.of_refs hne (SeqAt.RcAt.lists_lengths p.isList p2.isList (by simp only [List.size_toArray, bne_iff_ne]; omega) hu')
      | @tup a2 vs2 ds2 h' hs' =>
        obtain ⟨its2, rv2, p2, _⟩ := I.tuple h'
        cases (show u2 = Value.ref a2 from r2)
        unfold deqD
        exact SeqAt.EqAt.list_tuple p.isList p2 hu'
    | @tup a vs ds h hs =>
      obtain ⟨its, rv, p, _⟩ := I.tuple h
      cases (show u1 = Value.ref a from r1)
      have hd' : depDs ds ≤ n := by unfold depD at hd; omega
      cases h2 with
      | non => cases (show u2 = Value.none from r2); unfold deqD; exact SeqAt.EqAt.tuple_none p hu'
      | bl b => cases (show u2 = Value.bool b from r2); unfold deqD; exact SeqAt.EqAt.tuple_bool b p hu'
      | int i => obtain ⟨t, e⟩ := (show ∃ t, u2 = Value.int i t from r2); subst e; unfold deqD; exact SeqAt.EqAt.tuple_int i t p hu'
      | str x => obtain ⟨t, e⟩ := (show ∃ t, u2 = Value.str x t from r2); subst e; unfold deqD; exact SeqAt.EqAt.tuple_str x t p hu'
      | @lst a2 vs2 ds2 h' hs' =>
        obtain ⟨its2, rv2, p2, _⟩ := I.list h'
        cases (show u2 = Value.ref a2 from r2)
        unfold deqD
        exact SeqAt.EqAt.tuple_list p p2.isList hu'
      | @tup a2 vs2 ds2 h' hs' =>
        obtain ⟨its2, rv2, p2, _⟩ := I.tuple h'
        cases (show u2 = Value.ref a2 from r2)
        unfold deqD
        by_cases hne : a = a2
        · subst hne
          have e := I.tuple_inj h h'
          subst e
          rw [RepsD.inj I hs hs', deqDs_refl]
          exact SeqAt.EqAt.same _
        · have l1 := rv.length
          have l2 := rv2.length
          have m1 := hs.length
          have m2 := hs'.length
          have := SeqAt.EqAt.of_refs hne (SeqAt.RcAt.tuples (A := A) (e := fun j => deqD (ds.getD j .non) (ds2.getD j .non)) p p2 hu'
              (eqAt_items rv rv2 hs hs' fun d1 d2 v1 v2 u1 u2 hdd g1 g2 q1 q2 => ih A.in1 d1 d2 v1 v2 u1 u2 (by omega) hin g1 g2 q1 q2))
          simp only [List.size_toArray] at this
          by_cases hz : ds.length = ds2.length
          · rw [deqDs_all _ _ hz]
            rw [show its.length = ds.length by omega, show its2.length = ds.length by omega, Nat.min_self, beq_self_eq_true, Bool.and_true] at this
            exact this
          · rw [deqDs_len _ _ hz]
            rw [show (its.length == its2.length) = false from beq_eq_false_iff_ne.mpr (by omega), Bool.and_false] at this
            exact this
def rEqD (K : PySem.W.Frag) : R2 := fun x y H Q => ∃ d1 d2, RepD K H x d1 ∧ RepD K H y d2 ∧ 1 ≤ depD d1 ∧ depD d1 ≤ 20 ∧ Q (.bl (deqD d1 d2)) H
def rNeD (K : PySem.W.Frag) : R2 := fun x y H Q => ∃ d1 d2, RepD K H x d1 ∧ RepD K H y d2 ∧ 1 ≤ depD d1 ∧ depD d1 ≤ 20 ∧ Q (.bl (!deqD d1 d2)) H
theorem op_eqD {k : Nat} (hr : Room k X.A) : OpR X (compareOp .Eq) (rEqD X.K) := by
  intro pins s σ H x y v u Q I rx ry h
  obtain ⟨d1, d2, h1, h2, hd1, hd, q⟩ := h
  have hr' := hr.units
  have hu' : X.A.units < cLine := by omega
  have hin : X.A.in1.units + 20 < cLine := by rw [in1_units]; omega
  have fin : ∀ b, SeqAt.RcAt X.A s v u b → b = (deqD d1 d2) → wpAny (model X.prog X.w) X.A (compareOp .Eq v u) (EP X pins σ Q) X.xe s := fun b hb e => by
    subst e
    exact hb X.prog X.w X.xe _ ⟨.bl _, H, I, rfl, q⟩
  cases h1 with
  | non => unfold depD at hd1; omega
  | bl a => unfold depD at hd1; omega
  | int a => unfold depD at hd1; omega
  | str a => unfold depD at hd1; omega
  | @lst a vs ds h hs =>
    obtain ⟨its, rv, p, _⟩ := I.list h
    cases (show v = Value.ref a from rx)
    have hd' : depDs ds ≤ 20 := by unfold depD at hd; omega
    cases h2 with
    | non => cases (show u = Value.none from ry); exact fin _ (SeqAt.RcAt.list_none p.isList hu') (by unfold deqD; rfl)
    | bl b => cases (show u = Value.bool b from ry); exact fin _ (SeqAt.RcAt.list_bool b p.isList hu') (by unfold deqD; rfl)
    | int i => obtain ⟨t, e⟩ := (show ∃ t, u = Value.int i t from ry); subst e; exact fin _ (SeqAt.RcAt.list_int i t p.isList hu') (by unfold deqD; rfl)
    | str z => obtain ⟨t, e⟩ := (show ∃ t, u = Value.str z t from ry); subst e; exact fin _ (SeqAt.RcAt.list_str z t p.isList hu') (by unfold deqD; rfl)
    | @tup a2 vs2 ds2 h' hs' =>
      obtain ⟨its2, rv2, p2, _⟩ := I.tuple h'
      cases (show u = Value.ref a2 from ry)
      exact fin _ (SeqAt.RcAt.list_tuple p.isList p2 hu') (by unfold deqD; rfl)
    | @lst a2 vs2 ds2 h' hs' =>
      obtain ⟨its2, rv2, p2, _⟩ := I.list h'
      cases (show u = Value.ref a2 from ry)
      have l1 := rv.length
      have l2 := rv2.length
      have m1 := hs.length
      have m2 := hs'.length
      by_cases hz : ds.length = ds2.length
      · refine fin _ (SeqAt.RcAt.lists (A := X.A) (e := fun j => deqD (ds.getD j .non) (ds2.getD j .non)) p.isList p2.isList (by simp only [List.size_toArray]; omega) hu'
          (eqAt_items rv rv2 hs hs' fun d1 d2 v1 v2 u1 u2 hdd g1 g2 q1 q2 => eqAt_D I 20 X.A.in1 d1 d2 v1 v2 u1 u2 (by omega) hin g1 g2 q1 q2)) ?_
        rw [deqD_lst, deqDs_all _ _ hz, List.size_toArray, show its.length = ds.length by omega]
      · refine fin _ (SeqAt.RcAt.lists_lengths p.isList p2.isList (by simp only [List.size_toArray, bne_iff_ne]; omega) hu') ?_
        unfold deqD
        rw [deqDs_len _ _ hz]
        all_goals rfl
  | @tup a vs ds h hs =>
    obtain ⟨its, rv, p, _⟩ := I.tuple h
    cases (show v = Value.ref a from rx)
    have hd' : depDs ds ≤ 20 := by unfold depD at hd; omega
    cases h2 with
    | non => cases (show u = Value.none from ry); exact fin _ (SeqAt.RcAt.tuple_none p hu') (by unfold deqD; rfl)
    | bl b => cases (show u = Value.bool b from ry); exact fin _ (SeqAt.RcAt.tuple_bool b p hu') (by unfold deqD; rfl)
    | int i => obtain ⟨t, e⟩ := (show ∃ t, u = Value.int i t from ry); subst e; exact fin _ (SeqAt.RcAt.tuple_int i t p hu') (by unfold deqD; rfl)
    | str z => obtain ⟨t, e⟩ := (show ∃ t, u = Value.str z t from ry); subst e; exact fin _ (SeqAt.RcAt.tuple_str z t p hu') (by unfold deqD; rfl)
    | @lst a2 vs2 ds2 h' hs' =>
      obtain ⟨its2, rv2, p2, _⟩ := I.list h'
      cases (show u = Value.ref a2 from ry)
      exact fin _ (SeqAt.RcAt.tuple_list p p2.isList hu') (by unfold deqD; rfl)
    | @tup a2 vs2 ds2 h' hs' =>
      obtain ⟨its2, rv2, p2, _⟩ := I.tuple h'
      cases (show u = Value.ref a2 from ry)
      have l1 := rv.length
      have l2 := rv2.length
      have m1 := hs.length
      have m2 := hs'.length
      refine fin _ (SeqAt.RcAt.tuples (A := X.A) (e := fun j => deqD (ds.getD j .non) (ds2.getD j .non)) p p2 hu'
          (eqAt_items rv rv2 hs hs' fun d1 d2 v1 v2 u1 u2 hdd g1 g2 q1 q2 => eqAt_D I 20 X.A.in1 d1 d2 v1 v2 u1 u2 (by omega) hin g1 g2 q1 q2)) ?_
      rw [deqD_tup]
      simp only [List.size_toArray]
      by_cases hz : ds.length = ds2.length
      · rw [deqDs_all _ _ hz, show its.length = ds.length by omega, show its2.length = ds.length by omega, Nat.min_self, beq_self_eq_true, Bool.and_true]
      · rw [deqDs_len _ _ hz, show (its.length == its2.length) = false from beq_eq_false_iff_ne.mpr (by omega), Bool.and_false]
theorem op_neD {k : Nat} (hr : Room k X.A) : OpR X (compareOp .NotEq) (rNeD X.K) := by
  intro pins s σ H x y v u Q I rx ry h
  obtain ⟨d1, d2, h1, h2, hd1, hd, q⟩ := h
  have hr' := hr.units
  have hu' : X.A.units < cLine := by omega
  have hin : X.A.in1.units + 20 < cLine := by rw [in1_units]; omega
  have fin : ∀ b, SeqAt.RcNeAt X.A s v u b → b = (!deqD d1 d2) → wpAny (model X.prog X.w) X.A (compareOp .NotEq v u) (EP X pins σ Q) X.xe s := fun b hb e => by
    subst e
    exact hb X.prog X.w X.xe _ ⟨.bl _, H, I, rfl, q⟩
  cases h1 with
  | non => unfold depD at hd1; omega
  | bl a => unfold depD at hd1; omega
  | int a => unfold depD at hd1; omega
  | str a => unfold depD at hd1; omega
  | @lst a vs ds h hs =>
    obtain ⟨its, rv, p, _⟩ := I.list h
    cases (show v = Value.ref a from rx)
    have hd' : depDs ds ≤ 20 := by unfold depD at hd; omega
    cases h2 with
    | non => cases (show u = Value.none from ry); exact fin _ (SeqAt.RcNeAt.list_none p.isList hu') (by unfold deqD; rfl)
    | bl b => cases (show u = Value.bool b from ry); exact fin _ (SeqAt.RcNeAt.list_bool b p.isList hu') (by unfold deqD; rfl)
    | int i => obtain ⟨t, e⟩ := (show ∃ t, u = Value.int i t from ry); subst e; exact fin _ (SeqAt.RcNeAt.list_int i t p.isList hu') (by unfold deqD; rfl)
    | str z => obtain ⟨t, e⟩ := (show ∃ t, u = Value.str z t from ry); subst e; exact fin _ (SeqAt.RcNeAt.list_str z t p.isList hu') (by unfold deqD; rfl)
    | @tup a2 vs2 ds2 h' hs' =>
      obtain ⟨its2, rv2, p2, _⟩ := I.tuple h'
      cases (show u = Value.ref a2 from ry)
      exact fin _ (SeqAt.RcNeAt.list_tuple p.isList p2 hu') (by unfold deqD; rfl)
    | @lst a2 vs2 ds2 h' hs' =>
      obtain ⟨its2, rv2, p2, _⟩ := I.list h'
      cases (show u = Value.ref a2 from ry)
      have l1 := rv.length
      have l2 := rv2.length
      have m1 := hs.length
      have m2 := hs'.length
      by_cases hz : ds.length = ds2.length
      · refine fin _ (SeqAt.RcNeAt.lists (A := X.A) (e := fun j => deqD (ds.getD j .non) (ds2.getD j .non)) p.isList p2.isList (by simp only [List.size_toArray]; omega) hu'
          (eqAt_items rv rv2 hs hs' fun d1 d2 v1 v2 u1 u2 hdd g1 g2 q1 q2 => eqAt_D I 20 X.A.in1 d1 d2 v1 v2 u1 u2 (by omega) hin g1 g2 q1 q2)) ?_
        rw [deqD_lst, deqDs_all _ _ hz, List.size_toArray, show its.length = ds.length by omega]
      · refine fin _ (SeqAt.RcNeAt.lists_lengths p.isList p2.isList (by simp only [List.size_toArray, bne_iff_ne]; omega) hu') ?_
        unfold deqD
        rw [deqDs_len _ _ hz]
        all_goals rfl
  | @tup a vs ds h hs =>
    obtain ⟨its, rv, p, _⟩ := I.tuple h
    cases (show v = Value.ref a from rx)
    have hd' : depDs ds ≤ 20 := by unfold depD at hd; omega
    cases h2 with
    | non => cases (show u = Value.none from ry); exact fin _ (SeqAt.RcNeAt.tuple_none p hu') (by unfold deqD; rfl)
    | bl b => cases (show u = Value.bool b from ry); exact fin _ (SeqAt.RcNeAt.tuple_bool b p hu') (by unfold deqD; rfl)
    | int i => obtain ⟨t, e⟩ := (show ∃ t, u = Value.int i t from ry); subst e; exact fin _ (SeqAt.RcNeAt.tuple_int i t p hu') (by unfold deqD; rfl)
    | str z => obtain ⟨t, e⟩ := (show ∃ t, u = Value.str z t from ry); subst e; exact fin _ (SeqAt.RcNeAt.tuple_str z t p hu') (by unfold deqD; rfl)
    | @lst a2 vs2 ds2 h' hs' =>
      obtain ⟨its2, rv2, p2, _⟩ := I.list h'
      cases (show u = Value.ref a2 from ry)
      exact fin _ (SeqAt.RcNeAt.tuple_list p p2.isList hu') (by unfold deqD; rfl)
    | @tup a2 vs2 ds2 h' hs' =>
      obtain ⟨its2, rv2, p2, _⟩ := I.tuple h'
      cases (show u = Value.ref a2 from ry)
      have l1 := rv.length
      have l2 := rv2.length
      have m1 := hs.length
      have m2 := hs'.length
      refine fin _ (SeqAt.RcNeAt.tuples (A := X.A) (e := fun j => deqD (ds.getD j .non) (ds2.getD j .non)) p p2 hu'
          (eqAt_items rv rv2 hs hs' fun d1 d2 v1 v2 u1 u2 hdd g1 g2 q1 q2 => eqAt_D I 20 X.A.in1 d1 d2 v1 v2 u1 u2 (by omega) hin g1 g2 q1 q2)) ?_
      rw [deqD_tup]
      simp only [List.size_toArray]
      by_cases hz : ds.length = ds2.length
      · rw [deqDs_all _ _ hz, show its.length = ds.length by omega, show its2.length = ds.length by omega, Nat.min_self, beq_self_eq_true, Bool.and_true]
      · rw [deqDs_len _ _ hz, show (its.length == its2.length) = false from beq_eq_false_iff_ne.mpr (by omega), Bool.and_false]
theorem repsD_ints (K : PySem.W.Frag) (H : Hp) : ∀ ns : List Int, RepsD K H (ns.map V.int) (ns.map DV.int)
  | [] => .nil
  | n :: r => .cons (.int n) (repsD_ints K H r)
theorem deqDs_ints : ∀ xs ys : List Int, deqDs (xs.map DV.int) (ys.map DV.int) = decide (xs = ys)
  | [], [] => by simp [deqDs]
  | [], _ :: _ => by simp [deqDs]
  | _ :: _, [] => by simp [deqDs]
  | x :: xs, y :: ys => by
    simp only [List.map_cons, deqDs, deqD, deqDs_ints xs ys]
    by_cases h : x = y <;> by_cases h2 : xs = ys <;> simp [h, h2]
theorem depDs_ints : ∀ xs : List Int, depDs (xs.map DV.int) = 0
  | [] => by simp [depDs]
  | x :: xs => by simp [depDs, depD, depDs_ints xs]
end
end L2
namespace L2
open PySem PySem.Spec PyProof.Rows
section
variable {X : Cx} {K : PySem.W.Frag} {a b o e : Expr} {ta tb to te : TE} {pos : Pos} {tg : Expr}
theorem ix_listK (hK : X.K = K := by rfl) : IxR X (rIxL K) := hK ▸ ix_list
theorem sl_listK (hK : X.K = K := by rfl) : SlR X (rSlL K) := hK ▸ sl_list
theorem op_notInK (hK : X.K = K := by rfl) : OpR X (compareOp .NotIn) (rIn K true) := hK ▸ op_notIn_seq
theorem op_eqDK {k : Nat} (hr : Room k X.A) (hK : X.K = K := by rfl) : OpR X (compareOp .Eq) (rEqD K) := hK ▸ op_eqD hr
theorem op_neDK {k : Nat} (hr : Room k X.A) (hK : X.K = K := by rfl) : OpR X (compareOp .NotEq) (rNeD K) := hK ▸ op_neD hr
def rLen (K : PySem.W.Frag) : List V → Hp → VK → Prop := fun xs H Q => ∃ p ys, xs = [.ref p] ∧ (SqL K H p ys ∨ SqT K H p ys) ∧ Q (.int ys.length) H
theorem call_lenK (hK : X.K = K := by rfl) : CallR X (.builtin "len") (rLen K) := hK ▸ call_len_seq
def rSum (K : PySem.W.Frag) : List V → Hp → VK → Prop := fun xs H Q => ∃ (a : Addr) (ns : List Int), xs = [.ref a] ∧ SqL K H a (ns.map V.int) ∧ Q (.int ns.sum) H
def rAny (K : PySem.W.Frag) : List V → Hp → VK → Prop := fun xs H Q => ∃ (a : Addr) (bs : List Bool), xs = [.ref a] ∧ SqL K H a (bs.map V.bl) ∧ Q (.bl (bs.any id)) H
def rAll (K : PySem.W.Frag) : List V → Hp → VK → Prop := fun xs H Q => ∃ (a : Addr) (bs : List Bool), xs = [.ref a] ∧ SqL K H a (bs.map V.bl) ∧ Q (.bl (bs.all id)) H
def rListOf (K : PySem.W.Frag) : List V → Hp → VK → Prop := fun xs H Q => ∃ p ys, xs = [.ref p] ∧ (SqL K H p ys ∨ SqT K H p ys) ∧ ∀ l, H l = none → Q (.ref l) (upd H l (.lst ys))
def rTupOf (K : PySem.W.Frag) : List V → Hp → VK → Prop := fun xs H Q => ∃ p ys, xs = [.ref p] ∧ ((SqL K H p ys ∧ ∀ l, H l = none → Q (.ref l) (upd H l (.tup ys))) ∨ (SqT K H p ys ∧ Q (.ref p) H))
def rIsT (K : PySem.W.Frag) : List V → Hp → VK → Prop := fun xs H Q => ∃ x n t k, xs = [x, .ty n] ∧ TyOf K H x t ∧ PySem.W.kitOne K t (.type n) = some k ∧ Q (.bl k) H
theorem call_isTK (hK : X.K = K := by rfl) : CallR X (.builtin "isinstance") (rIsT K) := hK ▸ call_isinstT
def rIsC (K : PySem.W.Frag) : List V → Hp → VK → Prop := fun xs H Q => ∃ x C t k, xs = [x, .ref C] ∧ TyOf K H x t ∧ PySem.W.kitOne K t (.ref C) = some k ∧ Q (.bl k) H
theorem call_isCK (hK : X.K = K := by rfl) : CallR X (.builtin "isinstance") (rIsC K) := hK ▸ call_isinstC
def rMax : List V → Hp → VK → Prop := fun xs H Q => ∃ i j, xs = [.int i, .int j] ∧ Q (.int (if j > i then j else i)) H
def rMin : List V → Hp → VK → Prop := fun xs H Q => ∃ i j, xs = [.int i, .int j] ∧ Q (.int (if j < i then j else i)) H
theorem pi_listK (hl : PE X o to) (hK : X.K = K := by rfl) : PI X tg o (iList K to) := hK ▸ pi_list hl
theorem PE.imp {t t' : TE} (h : PE X e t) (hi : ∀ σ H Q, t' σ H Q → t σ H Q) : PE X e t' := fun pins s σ H Q I hw => h pins s σ H Q I (hi σ H Q hw)
theorem pe_bmK {T : String} {name : Str} {id : String} {r : V → List V → Hp → VK → Prop} {es : List Expr} {t : TA} {apos cpos : Pos} (pa : PlainAttrs T) (slot : Slot T name id) (hty : typeOf (.builtin id) = pure (.type "method_descriptor")) (hm : MtR X id r) (ho : PE X o to) (ha : PA X (e :: es) t)
    (hbase : attributeBase o name X.env (eval o X.env) = eval o X.env := by rfl)
    (hfew : ((backTo cpos (starEach (e :: es) X.env)).all (fun x => !x.1) && (backToKw cpos (keywordEach [] X.env)).all (fun x => x.1.isSome)
      && decide ((e :: es).length + ([] : List Keyword).length + (if ([] : List Keyword).isEmpty then 0 else 1) < 30)) = true := by rfl)
    (hline : (apos.endLine == cpos.line) = true := by rfl) (hs : starEach (e :: es) X.env = (false, eval e X.env) :: starEach es X.env := by rfl) (hplain : (backTo cpos (starEach es X.env)).any (·.1) = false := by rfl) (hK : X.K = K := by rfl) :
    PE X (.Call (.Attribute o name apos) (e :: es) [] cpos) (tBM K T r to t) := hK ▸ pe_bm pa slot hty hm ho ha hbase hfew hline hs hplain
theorem pe_bm0K {T : String} {name : Str} {id : String} {r : V → List V → Hp → VK → Prop} {apos cpos : Pos} (pa : PlainAttrs T) (slot : Slot T name id) (hty : typeOf (.builtin id) = pure (.type "method_descriptor")) (hm : MtR X id r) (ho : PE X o to)
    (hbase : attributeBase o name X.env (eval o X.env) = eval o X.env := by rfl) (hline : (apos.endLine == cpos.line) = true := by rfl) (hK : X.K = K := by rfl) : PE X (.Call (.Attribute o name apos) [] [] cpos) (tBM0 K T r to) := hK ▸ pe_bm0 pa slot hty hm ho hbase hline
end
section
variable {K : PySem.W.Frag} {H : Hp} {Q : VK} {p : Addr} {x y : V}
theorem ap_noIf {σ : St} {QB : Bool → Hp → Prop} : tNoIf σ H QB = QB true H := rfl
theorem ap_rLen : rLen K [.ref p] H Q = ∃ ys, (SqL K H p ys ∨ SqT K H p ys) ∧ Q (.int (ys.length : Int)) H := by simp [rLen]
theorem ap_rSum : rSum K [.ref p] H Q = ∃ ns : List Int, SqL K H p (ns.map V.int) ∧ Q (.int ns.sum) H := by simp [rSum]
theorem ap_rAny : rAny K [.ref p] H Q = ∃ bs : List Bool, SqL K H p (bs.map V.bl) ∧ Q (.bl (bs.any id)) H := by simp [rAny]
theorem ap_rAll : rAll K [.ref p] H Q = ∃ bs : List Bool, SqL K H p (bs.map V.bl) ∧ Q (.bl (bs.all id)) H := by simp [rAll]
theorem ap_rListOf : rListOf K [.ref p] H Q = ∃ ys, (SqL K H p ys ∨ SqT K H p ys) ∧ ∀ l, H l = none → Q (.ref l) (upd H l (.lst ys)) := by simp [rListOf]
theorem ap_rIsT {n : String} : rIsT K [x, .ty n] H Q = ∃ t k, TyOf K H x t ∧ PySem.W.kitOne K t (.type n) = some k ∧ Q (.bl k) H := propext ⟨fun ⟨x', n', t, k, e, h⟩ => by
    injection e with e1 e2
    injection e2 with e2 _
    injection e2 with e2
    subst e1 e2
    exact ⟨t, k, h⟩, fun ⟨t, k, h⟩ => ⟨x, n, t, k, rfl, h⟩⟩
theorem ap_append : rAppend (.ref p) [y] H Q = ∃ xs, H p = some (.lst xs) ∧ xs.length < sizeLine ∧ Q .non (upd H p (.lst (xs ++ [y]))) := by simp [rAppend]
theorem ap_rCat {l b : Addr} : rCat (.ref l) (.ref b) H Q = ∃ xs zs, H l = some (.lst xs) ∧ H b = some (.lst zs) ∧ xs.length + zs.length ≤ sizeLine ∧ ∀ p, H p = none → Q (.ref p) (upd H p (.lst (xs ++ zs))) := by simp [rCat]
theorem ap_rMax {i j : Int} : rMax [.int i, .int j] H Q = Q (.int (if j > i then j else i)) H := propext ⟨fun ⟨i', j', e, h⟩ => by cases e; exact h, fun h => ⟨i, j, rfl, h⟩⟩
theorem ap_rMin {i j : Int} : rMin [.int i, .int j] H Q = Q (.int (if j < i then j else i)) H := propext ⟨fun ⟨i', j', e, h⟩ => by cases e; exact h, fun h => ⟨i, j, rfl, h⟩⟩
end
end L2
namespace L2
open PySem PySem.Spec PyProof.Rows
section
variable {K : PySem.W.Frag} {a : Addr} {xs : List V} {g : TG} {tb : TS} {D : Ends} {σ : St} {H : Hp} {wi : TI} {cap : List (Option Nat)} {tt : TT} {te tl : TE} {Q : VK} {ta : TA} {R : It → Hp → Prop}
def ForP (J : It) (g : TG) (tb : TS) (D : Ends) (σ : St) (H1 : Hp) : Prop := ∃ W : Nat → Nat → St → Hp → Prop, (∃ m, W 0 m σ H1) ∧ ∀ i m σ H, W i m σ H →
  (J.stop i H ∧ D.nx σ H) ∨ (J.go i H ∧ ∃ N : St → Hp → Prop, (∀ σ' H', N σ' H' → ∃ m', m' < m ∧ W (i + 1) m' σ' H') ∧ ∀ x H', J.yld i H x H' → g x σ H' fun σ2 H2 => tb { D with nx := N, ct := N, bk := D.nx } σ2 H2)
theorem ap_for : tFor wi g tb D σ H = wi σ H fun J H1 => ForP J g tb D σ H1 := rfl
theorem ForP.list (Pv : Nat → St → Hp → Prop) (h0 : Pv 0 σ H) (hl : ∀ i σ H, i ≤ xs.length → Pv i σ H → SqL K H a xs)
    (hs : ∀ i x σ H, xs[i]? = some x → Pv i σ H → g x σ H fun σ2 H2 => tb { D with nx := Pv (i + 1), ct := Pv (i + 1), bk := D.nx } σ2 H2) (hd : ∀ σ H, Pv xs.length σ H → D.nx σ H) : ForP (Itl K a) g tb D σ H := for_list Pv h0 hl hs hd
theorem ForP.tup (Pv : Nat → St → Hp → Prop) (h0 : Pv 0 σ H) (hl : ∀ i σ H, i ≤ xs.length → Pv i σ H → SqT K H a xs)
    (hs : ∀ i x σ H, xs[i]? = some x → Pv i σ H → g x σ H fun σ2 H2 => tb { D with nx := Pv (i + 1), ct := Pv (i + 1), bk := D.nx } σ2 H2) (hd : ∀ σ H, Pv xs.length σ H → D.nx σ H) : ForP (Itt K a) g tb D σ H := for_tup Pv h0 hl hs hd
theorem ForP.range {lo : Int} {n : Nat} (Pv : Nat → St → Hp → Prop) (h0 : Pv 0 σ H)
    (hs : ∀ i σ H, i < n → Pv i σ H → g (.int (lo + i)) σ H fun σ2 H2 => tb { D with nx := Pv (i + 1), ct := Pv (i + 1), bk := D.nx } σ2 H2) (hd : ∀ σ H, Pv n σ H → D.nx σ H) : ForP (Itr lo n) g tb D σ H := for_range Pv h0 hs hd
theorem ap_iList : iList K tl σ H R = tl σ H fun x H1 => ∃ a, x = .ref a ∧ (∃ xs, SqL K H1 a xs) ∧ R (Itl K a) H1 := rfl
theorem ap_iTup : iTup K tl σ H R = tl σ H fun x H1 => ∃ a, x = .ref a ∧ (∃ xs, SqT K H1 a xs) ∧ R (Itt K a) H1 := rfl
theorem ap_iRng1 : iRng1 ta σ H R = ta σ H fun vs H1 => ∃ j : Int, vs = [.int j] ∧ -(2 ^ 62) ≤ j ∧ j < 2 ^ 62 ∧ R (Itr 0 j.toNat) H1 := rfl
theorem ap_iRng2 : iRng2 ta σ H R = ta σ H fun vs H1 => ∃ i j : Int, vs = [.int i, .int j] ∧ (-(2 ^ 62) ≤ i ∧ i < 2 ^ 62 ∧ -(2 ^ 62) ≤ j ∧ j < 2 ^ 62) ∧ R (Itr i (j - i).toNat) H1 := rfl
def CompP (cap : List (Option Nat)) (J : It) (g : TG) (tt : TT) (te : TE) (σ : St) (H1 : Hp) (Q : VK) : Prop := ∀ D, H1 D = Option.none →
  ∃ W : Nat → Nat → List V → St → Hp → Prop, (∃ m, W 0 m [] (capSt σ cap) (upd H1 D (.lst []))) ∧ ∀ i m acc σ1 H2, W i m acc σ1 H2 → H2 D = some (.lst acc) →
    (J.stop i H2 ∧ Q (.ref D) H2) ∨ (J.go i H2 ∧ ∀ x H3, J.yld i H2 x H3 → g x σ1 H3 fun σ4 H4 => tt σ4 H4 fun b H5 =>
      if b = true then te σ4 H5 fun v H6 => ∃ acc', H6 D = some (.lst acc') ∧ acc'.length < sizeLine ∧ ∃ m', m' < m ∧ W (i + 1) m' (acc' ++ [v]) σ4 (upd H6 D (.lst (acc' ++ [v])))
      else ∃ m', m' < m ∧ ∃ acc', H5 D = some (.lst acc') ∧ W (i + 1) m' acc' σ4 H5)
theorem ap_comp : tComp cap wi g tt te σ H Q = wi σ H fun J H1 => CompP cap J g tt te σ H1 Q := rfl
theorem CompP.list (Sσ : St → Prop) (p : V → Bool) (F : V → V) (hS : SqL K H a xs) (h0 : Sσ (capSt σ cap)) (hz : xs.length ≤ sizeLine)
    (hs : ∀ x ∈ xs, ∀ (σ : St) (H5 : Hp) (R1 : St → VK) (R2 : St → Hp → Prop), Sσ σ → Same H H5 → (p x = true → ∀ σ4 H6, Sσ σ4 → Same H5 H6 → R1 σ4 (F x) H6) → (p x = false → ∀ σ4 H6, Sσ σ4 → Same H5 H6 → R2 σ4 H6) →
      g x σ H5 fun σ4 H4 => tt σ4 H4 fun b H5 => if b = true then te σ4 H5 (R1 σ4) else R2 σ4 H5)
    (k : ∀ D H', H D = Option.none → Same H H' → H' D = some (.lst ((xs.filter p).map F)) → Q (.ref D) H') : CompP cap (Itl K a) g tt te σ H Q :=
  fun D hD => comp_list Sσ p F hS hD h0 hz hs fun H' s e => k D H' hD s e
theorem CompP.range {lo : Int} {n : Nat} (Sσ : St → Prop) (p : V → Bool) (F : V → V) (h0 : Sσ (capSt σ cap)) (hz : n ≤ sizeLine)
    (hs : ∀ i : Nat, i < n → ∀ (σ : St) (H5 : Hp) (R1 : St → VK) (R2 : St → Hp → Prop), Sσ σ → Same H H5 → (p (.int (lo + i)) = true → ∀ σ4 H6, Sσ σ4 → Same H5 H6 → R1 σ4 (F (.int (lo + i))) H6) → (p (.int (lo + i)) = false → ∀ σ4 H6, Sσ σ4 → Same H5 H6 → R2 σ4 H6) →
      g (.int (lo + i)) σ H5 fun σ4 H4 => tt σ4 H4 fun b H5 => if b = true then te σ4 H5 (R1 σ4) else R2 σ4 H5)
    (k : ∀ D H', H D = Option.none → Same H H' → H' D = some (.lst ((((List.range n).map fun (i : Nat) => V.int (lo + i)).filter p).map F)) → Q (.ref D) H') : CompP cap (Itr lo n) g tt te σ H Q :=
  fun D hD => comp_range Sσ p F hD h0 hz hs fun H' s e => k D H' hD s e
end
end L2
namespace L2
open PySem PySem.Spec PyProof.Rows
def MonoE (t : TE) : Prop := ∀ σ H (Q Q' : VK), (∀ v H', Q v H' → Q' v H') → t σ H Q → t σ H Q'
def MonoT (t : TT) : Prop := ∀ σ H (Q Q' : Bool → Hp → Prop), (∀ v H', Q v H' → Q' v H') → t σ H Q → t σ H Q'
def MonoA (t : TA) : Prop := ∀ σ H (Q Q' : List V → Hp → Prop), (∀ v H', Q v H' → Q' v H') → t σ H Q → t σ H Q'
def MonoO (t : TO) : Prop := ∀ σ H (Q Q' : Option Int → Hp → Prop), (∀ v H', Q v H' → Q' v H') → t σ H Q → t σ H Q'
def MonoR (r : R2) : Prop := ∀ x y H (Q Q' : VK), (∀ v H', Q v H' → Q' v H') → r x y H Q → r x y H Q'
def MonoU (r : V → Hp → VK → Prop) : Prop := ∀ x H (Q Q' : VK), (∀ v H', Q v H' → Q' v H') → r x H Q → r x H Q'
def MonoC (r : List V → Hp → VK → Prop) : Prop := ∀ xs H (Q Q' : VK), (∀ v H', Q v H' → Q' v H') → r xs H Q → r xs H Q'
def MonoM (r : V → List V → Hp → VK → Prop) : Prop := ∀ x xs H (Q Q' : VK), (∀ v H', Q v H' → Q' v H') → r x xs H Q → r x xs H Q'
def MonoL (r : V → Option Int → Option Int → Hp → VK → Prop) : Prop := ∀ x l u H (Q Q' : VK), (∀ v H', Q v H' → Q' v H') → r x l u H Q → r x l u H Q'
def MonoG (g : TG) : Prop := ∀ v σ H (Q Q' : St → Hp → Prop), (∀ σ H, Q σ H → Q' σ H) → g v σ H Q → g v σ H Q'
def MonoGs (g : TGs) : Prop := ∀ v σ H (Q Q' : St → Hp → Prop), (∀ σ H, Q σ H → Q' σ H) → g v σ H Q → g v σ H Q'
def MonoI (wi : TI) : Prop := ∀ σ H (R R' : It → Hp → Prop), (∀ J H', R J H' → R' J H') → wi σ H R → wi σ H R'
def MonoP (sp : Sp) : Prop := ∀ vs H (Q Q' : VK) (E : XK), (∀ v H', Q v H' → Q' v H') → sp vs H Q E → sp vs H Q' E
structure LeE (D D' : Ends) : Prop where
  nx : ∀ σ H, D.nx σ H → D'.nx σ H
  rt : ∀ v H, D.rt v H → D'.rt v H
  bk : ∀ σ H, D.bk σ H → D'.bk σ H
  ct : ∀ σ H, D.ct σ H → D'.ct σ H
def MonoS (t : TS) : Prop := ∀ D D' σ H, LeE D D' → t D σ H → t D' σ H
section
variable {t u : TS} {te ta tb tc : TE} {tt tu : TT} {A : TA} {g : TG} {gs : TGs} {r r' : R2} {i n : Nat} {v : V} {K : PySem.W.Frag} {wi : TI}
theorem mn_var : MonoE (tVar i) := fun _ _ _ _ f ⟨v, e, q⟩ => ⟨v, e, f _ _ q⟩
theorem mn_c : MonoE (tC v) := fun _ _ _ _ f q => f _ _ q
theorem mn_op (hr : MonoR r) (ha : MonoE ta) (hb : MonoE tb) : MonoE (tOp r ta tb) := fun σ H _ _ f q => ha σ H _ _ (fun x H1 q1 => hb σ H1 _ _ (fun y H2 q2 => hr x y H2 _ _ f q2) q1) q
theorem mn_un {r : V → Hp → VK → Prop} (hr : MonoU r) (ha : MonoE ta) : MonoE (tUn r ta) := fun σ H _ _ f q => ha σ H _ _ (fun x H1 q1 => hr x H1 _ _ f q1) q
theorem mn_rI {C : Int → Int → Prop} {f : Int → Int → V} : MonoR (rI C f) := fun _ _ _ _ _ k ⟨i, j, e1, e2, c, q⟩ => ⟨i, j, e1, e2, c, k _ _ q⟩
theorem mn_rI0 {f : Int → Int → V} : MonoR (rI0 f) := fun _ _ _ _ _ k ⟨i, j, e1, e2, q⟩ => ⟨i, j, e1, e2, k _ _ q⟩
theorem mn_rU {f : Int → V} : MonoU (rU f) := fun _ _ _ _ k ⟨i, e1, q⟩ => ⟨i, e1, k _ _ q⟩
theorem mn_rEq : MonoR rEq := fun _ _ _ _ _ k ⟨s, q⟩ => ⟨s, k _ _ q⟩
theorem mn_rNe : MonoR rNe := fun _ _ _ _ _ k ⟨s, q⟩ => ⟨s, k _ _ q⟩
theorem mn_rEqD : MonoR (rEqD K) := fun _ _ _ _ _ k ⟨a, b, c, d, e, f, q⟩ => ⟨a, b, c, d, e, f, k _ _ q⟩
theorem mn_rNeD : MonoR (rNeD K) := fun _ _ _ _ _ k ⟨a, b, c, d, e, f, q⟩ => ⟨a, b, c, d, e, f, k _ _ q⟩
theorem mn_ixL : MonoR (rIxL K) := fun _ _ _ _ _ k ⟨p, xs, i, v, a, b, c, d, q⟩ => ⟨p, xs, i, v, a, b, c, d, k _ _ q⟩
theorem mn_ixT : MonoR (rIxT K) := fun _ _ _ _ _ k ⟨p, xs, i, v, a, b, c, d, q⟩ => ⟨p, xs, i, v, a, b, c, d, k _ _ q⟩
theorem mn_in {b : Bool} : MonoR (rIn K b) := fun _ _ _ _ _ k ⟨p, xs, a, b, c, d, q⟩ => ⟨p, xs, a, b, c, d, k _ _ q⟩
theorem mn_isN : MonoR (fun x y H Q => y = V.non ∧ Q (.bl (decide (x = .non))) H) := fun _ _ _ _ _ k ⟨e, q⟩ => ⟨e, k _ _ q⟩
theorem mn_notN : MonoR (fun x y H Q => y = V.non ∧ Q (.bl (!decide (x = .non))) H) := fun _ _ _ _ _ k ⟨e, q⟩ => ⟨e, k _ _ q⟩
theorem mn_cat : MonoR rCat := fun _ _ _ _ _ k ⟨a, b, c, d, e, f, g, h, i, q⟩ => ⟨a, b, c, d, e, f, g, h, i, fun p hp => k _ _ (q p hp)⟩
theorem mn_test (h : MonoE te) : MonoT (tTest te) := fun σ H _ _ f q => h σ H _ _ (fun x H1 ⟨k, e, q1⟩ => ⟨k, e, f _ _ q1⟩) q
theorem mn_tB (h : MonoE te) : MonoT (tB te) := fun σ H _ _ f q => h σ H _ _ (fun x H1 ⟨k, e, q1⟩ => ⟨k, e, f _ _ q1⟩) q
theorem mn_not (h : MonoT tt) : MonoT (tNot tt) := fun σ H _ _ f q => h σ H _ _ (fun c H1 q1 => f _ _ q1) q
theorem mn_and (h : MonoT tt) (h2 : MonoT tu) : MonoT (tAnd tt tu) := fun σ H _ _ f q => h σ H _ _ (fun c H1 q1 => by
  cases c with
  | true => exact h2 σ H1 _ _ f q1
  | false => exact f _ _ q1) q
theorem mn_or (h : MonoT tt) (h2 : MonoT tu) : MonoT (tOr tt tu) := fun σ H _ _ f q => h σ H _ _ (fun c H1 q1 => by
  cases c with
  | true => exact f _ _ q1
  | false => exact h2 σ H1 _ _ f q1) q
theorem mn_nil : MonoA tNil := fun _ _ _ _ f q => f _ _ q
theorem mn_cons (h : MonoE ta) (h2 : MonoA A) : MonoA (tCons ta A) := fun σ H _ _ f q => h σ H _ _ (fun x H1 q1 => h2 σ H1 _ _ (fun xs H2 q2 => f _ _ q2) q1) q
theorem mn_cb {r : List V → Hp → VK → Prop} (hr : MonoC r) (h : MonoA A) : MonoE (tCB r A) := fun σ H _ _ f q => h σ H _ _ (fun x H1 q1 => hr _ _ _ _ f q1) q
theorem mn_call {sp : Sp} {dvs : List V} {E : XK} (hr : MonoP sp) (h : MonoA A) : MonoE (tCall sp dvs E A) := fun σ H _ _ f q => h σ H _ _ (fun x H1 q1 => hr _ _ _ _ _ f q1) q
theorem mn_lst (h : MonoA A) : MonoE (tLst A) := fun σ H _ _ f q => h σ H _ _ (fun x H1 ⟨z, q1⟩ => ⟨z, fun p hp => f _ _ (q1 p hp)⟩) q
theorem mn_tup (h : MonoA A) : MonoE (tTup A) := fun σ H _ _ f q => h σ H _ _ (fun x H1 ⟨z, q1⟩ => ⟨z, fun p hp => f _ _ (q1 p hp)⟩) q
theorem mn_len : MonoC (rLen K) := fun _ _ _ _ k ⟨p, ys, a, b, q⟩ => ⟨p, ys, a, b, k _ _ q⟩
theorem mn_sum : MonoC (rSum K) := fun _ _ _ _ k ⟨p, ys, a, b, q⟩ => ⟨p, ys, a, b, k _ _ q⟩
theorem mn_any : MonoC (rAny K) := fun _ _ _ _ k ⟨p, ys, a, b, q⟩ => ⟨p, ys, a, b, k _ _ q⟩
theorem mn_all : MonoC (rAll K) := fun _ _ _ _ k ⟨p, ys, a, b, q⟩ => ⟨p, ys, a, b, k _ _ q⟩
theorem mn_max : MonoC rMax := fun _ _ _ _ k ⟨p, ys, a, q⟩ => ⟨p, ys, a, k _ _ q⟩
theorem mn_min : MonoC rMin := fun _ _ _ _ k ⟨p, ys, a, q⟩ => ⟨p, ys, a, k _ _ q⟩
theorem mn_listOf : MonoC (rListOf K) := fun _ _ _ _ k ⟨p, ys, a, b, q⟩ => ⟨p, ys, a, b, fun l hl => k _ _ (q l hl)⟩
theorem mn_isT : MonoC (rIsT K) := fun _ _ _ _ k ⟨x, n, t, kk, a, b, c, q⟩ => ⟨x, n, t, kk, a, b, c, k _ _ q⟩
theorem mn_isC : MonoC (rIsC K) := fun _ _ _ _ k ⟨x, n, t, kk, a, b, c, q⟩ => ⟨x, n, t, kk, a, b, c, k _ _ q⟩
theorem mn_noPart : MonoO tNoPart := fun _ _ _ _ f q => f _ _ q
theorem mn_part (h : MonoE te) : MonoO (tPart te) := fun σ H _ _ f q => h σ H _ _ (fun x H1 ⟨i, e, q1⟩ => ⟨i, e, f _ _ q1⟩) q
theorem mn_sl {r : V → Option Int → Option Int → Hp → VK → Prop} {tl th : TO} (hr : MonoL r) (h : MonoE te) (hl : MonoO tl) (hh : MonoO th) : MonoE (tSl r te tl th) := fun σ H _ _ f q =>
  h σ H _ _ (fun x H1 q1 => hl σ H1 _ _ (fun l H2 q2 => hh σ H2 _ _ (fun u H3 q3 => hr _ _ _ _ _ _ f q3) q2) q1) q
theorem mn_slL : MonoL (rSlL K) := fun _ _ _ _ _ _ k ⟨a, xs, e, h, q⟩ => ⟨a, xs, e, h, fun p hp => k _ _ (q p hp)⟩
theorem mn_bm {T : String} {r : V → List V → Hp → VK → Prop} (hr : MonoM r) (h : MonoE te) (hA : MonoA A) : MonoE (tBM K T r te A) := fun σ H _ _ f q => h σ H _ _ (fun x H1 ⟨ty, q1⟩ => ⟨ty, hA σ H1 _ _ (fun xs H2 q2 => hr _ _ _ _ _ f q2) q1⟩) q
theorem mn_bm0 {T : String} {r : V → List V → Hp → VK → Prop} (hr : MonoM r) (h : MonoE te) : MonoE (tBM0 K T r te) := fun σ H _ _ f q => h σ H _ _ (fun x H1 ⟨ty, q1⟩ => ⟨ty, hr _ _ _ _ _ f q1⟩) q
theorem mn_append : MonoM rAppend := fun _ _ _ _ _ k ⟨l, xs, y, a, b, c, d, q⟩ => ⟨l, xs, y, a, b, c, d, k _ _ q⟩
theorem mn_chain (h1 : MonoR r) (h2 : MonoR r') (ha : MonoE ta) (hb : MonoE tb) (hc : MonoE tc) : MonoE (tChain r r' ta tb tc) := fun σ H _ _ f q =>
  ha σ H _ _ (fun x H1 q1 => hb σ H1 _ _ (fun y H2 q2 => h1 x y H2 _ _ (fun z H3 ⟨k, e, q3⟩ => ⟨k, e, by
    cases k with
    | true => exact hc σ H3 _ _ (fun w' H4 q4 => h2 y w' H4 _ _ f q4) q3
    | false => exact f _ _ q3⟩) q2) q1) q
theorem mn_andV (ha : MonoE ta) (hb : MonoE tb) : MonoE (tAndV ta tb) := fun σ H _ _ f q => ha σ H _ _ (fun x H1 ⟨c, e, q1⟩ => ⟨c, e, by
  cases c with
  | true => exact hb σ H1 _ _ f q1
  | false => exact f _ _ q1⟩) q
theorem mn_orV (ha : MonoE ta) (hb : MonoE tb) : MonoE (tOrV ta tb) := fun σ H _ _ f q => ha σ H _ _ (fun x H1 ⟨c, e, q1⟩ => ⟨c, e, by
  cases c with
  | true => exact f _ _ q1
  | false => exact hb σ H1 _ _ f q1⟩) q
theorem mn_notV (ha : MonoE ta) : MonoE (tNotV ta) := fun σ H _ _ f q => ha σ H _ _ (fun x H1 ⟨c, e, q1⟩ => ⟨c, e, f _ _ q1⟩) q
theorem mn_ifE (h : MonoT tt) (ha : MonoE ta) (hb : MonoE tb) : MonoE (tIf tt ta tb) := fun σ H _ _ f q => h σ H _ _ (fun c H1 q1 => by
  cases c with
  | true => exact ha σ H1 _ _ f q1
  | false => exact hb σ H1 _ _ f q1) q
theorem mn_name : MonoG (gName i) := fun _ _ _ _ _ f q => f _ _ q
theorem mn_gNil : MonoGs gNil := fun _ _ _ _ _ f ⟨e, q⟩ => ⟨e, f _ _ q⟩
theorem mn_gCons (h : MonoG g) (h2 : MonoGs gs) : MonoGs (gCons g gs) := fun _ σ H _ _ f ⟨v, r, e, q⟩ => ⟨v, r, e, h _ _ _ _ _ (fun σ1 H1 q1 => h2 _ _ _ _ _ f q1) q⟩
theorem mn_gLst (h : MonoGs gs) : MonoG (gLst K n gs) := fun _ _ _ _ _ f ⟨a, xs, e, s, l, q⟩ => ⟨a, xs, e, s, l, h _ _ _ _ _ f q⟩
theorem mn_gTup (h : MonoGs gs) : MonoG (gTup K n gs) := fun _ _ _ _ _ f ⟨a, xs, e, s, l, q⟩ => ⟨a, xs, e, s, l, h _ _ _ _ _ f q⟩
theorem mn_next : MonoS tNext := fun _ _ _ _ f q => f.nx _ _ q
theorem mn_nxE : MonoS Ends.nx := fun _ _ _ _ f q => f.nx _ _ q
theorem mn_never : MonoS tNever := fun _ _ _ _ _ q => q
theorem mn_break : MonoS tBreak := fun _ _ _ _ f q => f.bk _ _ q
theorem mn_cont : MonoS tCont := fun _ _ _ _ f q => f.ct _ _ q
theorem mn_ret (h : MonoE te) : MonoS (tRet te) := fun _ _ σ H f q => h σ H _ _ f.rt q
theorem mn_retN : MonoS tRetN := fun _ _ _ _ f q => f.rt _ _ q
theorem mn_drop (h : MonoE te) : MonoS (tDrop te) := fun _ _ σ H f q => h σ H _ _ (fun _ H1 q1 => f.nx _ _ q1) q
theorem mn_asg (h : MonoE te) (hg : MonoG g) : MonoS (tAsg te g) := fun _ _ σ H f q => h σ H _ _ (fun x H1 q1 => hg _ _ _ _ _ f.nx q1) q
theorem mn_seq (h : MonoS t) (h2 : MonoS u) : MonoS (tSeq t u) := fun D D' σ H f q => h { D with nx := u D } { D' with nx := u D' } σ H ⟨fun σ1 H1 q1 => h2 D D' σ1 H1 f q1, f.rt, f.bk, f.ct⟩ q
theorem mn_if (h : MonoT tt) (ht : MonoS t) (hu : MonoS u) : MonoS (tIfS tt t u) := fun _ _ σ H f q => h σ H _ _ (fun c H1 q1 => by
  cases c with
  | true => exact ht _ _ σ H1 f q1
  | false => exact hu _ _ σ H1 f q1) q
end
end L2
namespace L2
open PySem PySem.Spec PyProof.Rows
section
variable {X : Cx} {pins : List (Addr × Obj)} {σ : St} {H : Hp} {s : Shared} {h' : Heap}
end
def Itz (K : PySem.W.Frag) (a b : Addr) : It :=
  ⟨fun i H => ∃ xs ys x y, SqL K H a xs ∧ SqL K H b ys ∧ xs[i]? = some x ∧ ys[i]? = some y,
   fun i H v H' => ∃ p x y, H p = none ∧ v = .ref p ∧ H' = upd H p (.tup [x, y]) ∧ (∀ xs, SqL K H a xs → xs[i]? = some x) ∧ ∀ ys, SqL K H b ys → ys[i]? = some y,
   fun i H => ∃ xs ys, SqL K H a xs ∧ SqL K H b ys ∧ (xs.length ≤ i ∨ ys.length ≤ i)⟩
def Ite (K : PySem.W.Frag) (a : Addr) : It :=
  ⟨fun i H => ∃ xs x, SqL K H a xs ∧ xs[i]? = some x,
   fun i H v H' => ∃ p x, H p = none ∧ v = .ref p ∧ H' = upd H p (.tup [.int i, x]) ∧ ∀ xs, SqL K H a xs → xs[i]? = some x,
   fun i H => ∃ xs, SqL K H a xs ∧ xs.length ≤ i⟩
section
variable {X : Cx} {K : PySem.W.Frag} {ta : TA} {elts : List Expr} {x1 : Nat} {tpos : Pos}
def iZip (K : PySem.W.Frag) (ta : TA) : TI := fun σ H R => ta σ H fun vs H1 => ∃ a b, vs = [.ref a, .ref b] ∧ (∃ xs, SqL K H1 a xs) ∧ (∃ ys, SqL K H1 b ys) ∧ R (Itz K a b) H1
def iEnum (K : PySem.W.Frag) (ta : TA) : TI := fun σ H R => ta σ H fun vs H1 => ∃ a, vs = [.ref a] ∧ (∃ xs, SqL K H1 a xs) ∧ R (Ite K a) H1
variable {σ : St} {H : Hp} {R : It → Hp → Prop} {g : TG} {tb : TS} {D : Ends} {a b : Addr} {xs ys : List V}
theorem ap_iZip : iZip K ta σ H R = ta σ H fun vs H1 => ∃ a b, vs = [.ref a, .ref b] ∧ (∃ xs, SqL K H1 a xs) ∧ (∃ ys, SqL K H1 b ys) ∧ R (Itz K a b) H1 := rfl
theorem ap_iEnum : iEnum K ta σ H R = ta σ H fun vs H1 => ∃ a, vs = [.ref a] ∧ (∃ xs, SqL K H1 a xs) ∧ R (Ite K a) H1 := rfl
theorem ForP.zip (Pv : Nat → St → Hp → Prop) (hlen : xs.length = ys.length) (h0 : Pv 0 σ H) (hl : ∀ i σ H, i ≤ xs.length → Pv i σ H → SqL K H a xs ∧ SqL K H b ys)
    (hs : ∀ i x y σ H p, xs[i]? = some x → ys[i]? = some y → Pv i σ H → H p = none → g (.ref p) σ (upd H p (.tup [x, y])) fun σ2 H2 => tb { D with nx := Pv (i + 1), ct := Pv (i + 1), bk := D.nx } σ2 H2) (hd : ∀ σ H, Pv xs.length σ H → D.nx σ H) : ForP (Itz K a b) g tb D σ H := by
  refine ⟨fun i m σ H => m = xs.length - i ∧ i ≤ xs.length ∧ Pv i σ H, ⟨xs.length, by simp, Nat.zero_le _, h0⟩, ?_⟩
  rintro i m σ H ⟨rfl, hi, p⟩
  obtain ⟨q1, q2⟩ := hl i σ H hi p
  by_cases hlt : i < xs.length
  · refine .inr ⟨⟨xs, ys, xs[i], ys[i], q1, q2, by simp [hlt], by simp [hlen ▸ hlt]⟩, Pv (i + 1), fun σ' H' p' => ⟨xs.length - (i + 1), by omega, rfl, hlt, p'⟩, fun v H' y => ?_⟩
    obtain ⟨pp, x, y, hp, rfl, rfl, e1, e2⟩ := y
    exact hs i x y σ _ pp (e1 xs q1) (e2 ys q2) p hp
  · have e : i = xs.length := by omega
    subst e
    exact .inl ⟨⟨xs, ys, q1, q2, .inl (Nat.le_refl _)⟩, hd σ H p⟩
end
end L2
namespace L2
open PySem PySem.Spec PyProof.Rows
theorem ObjOk.there {P : Program} {w : World} {H : Hp} {h : Heap} {a : Addr} {o : HO} (x : ObjOk P w H h a o) : ∃ u, h.get? a = some u := by
  induction o with
  | lst xs => obtain ⟨z, its, n, r, e⟩ := x; exact ⟨_, e⟩
  | tup xs => obtain ⟨z, its, r, ob, e, c⟩ := x; exact ⟨_, e⟩
  | dK kvs => obtain ⟨z, y, vs, r, ob, es, ep, e, c⟩ := x; exact ⟨_, e⟩
  | dT kvs => obtain ⟨z, y, xs, r, ob, es, ep, e, c⟩ := x; exact ⟨_, e⟩
  | set S n => obtain ⟨ob, es, ep, t, e, c⟩ := x; exact ⟨_, e⟩
  | ins C dx fs => obtain ⟨d, z, ne, e, mA, _⟩ := x; exact ⟨_, e⟩
  | own y => exact x
  | xd fs => obtain ⟨mA, ⟨od, es, ep, e, c⟩, r⟩ := x; exact ⟨_, e⟩
  | rng lo hi => obtain ⟨t, u, v, e⟩ := x; exact ⟨_, e⟩
  | frz ob u ih => obtain ⟨e, q⟩ := x; exact ⟨_, e⟩
  | tbl ps => exact ⟨_, (show h.get? a = some _ from x)⟩
  | met f y => exact ⟨_, (show h.get? a = some _ from x)⟩
  | ext φ => obtain ⟨p, e, st⟩ := x; exact e
theorem Inv.untracked {X : Cx} {pins : List (Addr × Obj)} {σ : St} {H : Hp} {s : Shared} {a : Addr} (I : Inv X pins σ H s) (e : s.heap.get? a = none) : H a = none := by
  cases q : H a with
  | none => rfl
  | some o =>
    obtain ⟨u, z⟩ := (I.hok a o q).there
    rw [e] at z; cases z
def CX1 (P : Program) (w : World) : CXT := fun outer H s E e s' => ∃ (ea C : Addr) (a0 : Value) (H' : Hp) (B : Heap), e = .ref ea ∧ s'.os = s.os ∧ AllBare s'.gens ∧ Un (frs outer) [] H H' s.heap s'.heap ∧ HOk P w H' B ∧
  Heap.FlyingW B outer ea (.ref C) a0 s'.heap ∧ (∀ b o, s.heap.get? b = some o → H b = none → b ∉ frs outer → B.get? b = some o) ∧ (∀ b o, s.heap.get? b = some o → b ∉ frs outer → ∃ o', B.get? b = some o') ∧ H' ea = none ∧ E (.ref C) none H'
theorem pass1 {P : Program} {w : World} {X : Cx} : Passes (CX1 P w) X E0 := fun _ _ _ _ _ _ _ ⟨_, _, _, _, _, _, _, _, _, _, _, _, _, _, h⟩ => h.elim
section
variable {P : Program} {w : World} {K : PySem.W.Frag} {mg : Str → Option Value} {base : Heap} {N : List Str} {qual : Str} {scope : Scope} {f : Addr} {cd : Value} {A : Around} {outer : List Env} {s₀ : Shared} {H₀ : Hp} {E : XK}
def Raises (X : Cx) (E : XK) : Prop := ∀ (pins : List (Addr × Obj)) (σ : St) (H : Hp) (s : Shared) (e C : Addr) (args : List Value) (h' : Heap), Inv X pins σ H s → Heap.MadeExcOf s.heap h' e (.ref C) args → E (.ref C) none H → X.xe (.ref e) { s with heap := h' }
theorem raises_cx : Raises (cxOf (CX1 P w) P w K mg base N qual scope f cd A outer s₀ H₀ E) E := by
  intro pins σ H s e C args h' I hx hE
  have hstk : (cxOf (CX1 P w) P w K mg base N qual scope f cd A outer s₀ H₀ E).stack = envOfC qual scope s₀.heap.objs.size f cd :: outer := rfl
  have fr := I.ok.frames
  have nfr : ∀ b o, s₀.heap.get? b = some o → b ∉ frs outer → b ∉ frs (envOfC qual scope s₀.heap.objs.size f cd :: outer) := fun b o q n hb => by
    rcases List.mem_cons.mp (I.stkSub b hb) with z | z
    · exact absurd (Heap.lt_size q) (by rw [z]; exact Nat.lt_irrefl _)
    · exact n z
  have hin : ∀ env ∈ (envOfC qual scope s₀.heap.objs.size f cd :: outer), ∀ b, env.frame = some b → b ∈ frs (envOfC qual scope s₀.heap.objs.size f cd :: outer) := fun env he b hb => List.mem_filterMap.mpr ⟨env, he, hb⟩
  have stk : s.heap.FunFrames (PySem.W.hideAll s.heap (frs (envOfC qual scope s₀.heap.objs.size f cd :: outer))) (envOfC qual scope s₀.heap.objs.size f cd :: outer) := PySem.W.funFrames_hide I.stack hin
  have hB : ∀ b o, s.heap.get? b = some o → b ∉ frs (envOfC qual scope s₀.heap.objs.size f cd :: outer) → (PySem.W.hideAll s.heap (frs (envOfC qual scope s₀.heap.objs.size f cd :: outer))).get? b = some o := fun b o q n => PySem.W.hideAll_get _ q n
  refine wpAny_leaves_madeW (base := PySem.W.hideAll s.heap (frs (envOfC qual scope s₀.heap.objs.size f cd :: outer))) (h := s.heap) fr rfl (fun b o q => PySem.W.of_hideAll _ q) stk hx fun h2 t fl tup nt ups => ?_
  have st : ∀ b o, (PySem.W.hideAll s.heap (frs (envOfC qual scope s₀.heap.objs.size f cd :: outer))).get? b = some o → h2.get? b = some o := fl.1
  have k1 : ∀ b o, s₀.heap.get? b = some o → H₀ b = none → b ∉ frs outer → (PySem.W.hideAll s.heap (frs (envOfC qual scope s₀.heap.objs.size f cd :: outer))).get? b = some o := fun b o q n hb => hB b o (I.base.keep b o q n hb (by simp [cxOf])) (nfr b o q hb)
  have k2 : ∀ b o, s₀.heap.get? b = some o → b ∉ frs outer → ∃ o', (PySem.W.hideAll s.heap (frs (envOfC qual scope s₀.heap.objs.size f cd :: outer))).get? b = some o' := fun b o q hb => by
    obtain ⟨o', q'⟩ := I.base.there b o q (by simp [cxOf])
    exact ⟨o', hB b o' q' (nfr b o q hb)⟩
  have k3 : ∀ b o, s₀.heap.get? b = some o → b ∈ frs outer → ∃ o1, s.heap.get? b = some o1 ∧ (H₀ b = none → ∃ sl, o1 = { o with slots := sl }) ∧ ∃ sl, h2.get? b = some { o1 with slots := sl } := fun b o q hb => by
    obtain ⟨o1, q1⟩ := I.base.there b o q (by simp [cxOf])
    have hm : b ∈ frs (envOfC qual scope s₀.heap.objs.size f cd :: outer) := by
      obtain ⟨env, he, hf⟩ := List.mem_filterMap.mp hb
      exact List.mem_filterMap.mpr ⟨env, List.mem_cons_of_mem _ he, hf⟩
    obtain ⟨_, o2, q2, nd⟩ := stk.mem hm
    rw [q1] at q2; cases q2
    refine ⟨o1, q1, fun n => ?_, ups b o1 (hx.keeps b o1 q1) nd⟩
    obtain ⟨sl, q3⟩ := I.base.slot b o q n hb (by simp [cxOf])
    rw [q1] at q3
    exact ⟨sl, Option.some.inj q3⟩
  refine ⟨e, C, .ref t, H, _, rfl, I.os, I.bare, ⟨fun b o q n hb _ => st b o (k1 b o q n hb), fun b o q n hb _ => ?_, fun b o q n _ => I.base.free b o q n (by simp [cxOf]), fun b o q _ => ?_, I.base.tups, I.base.frzs, I.base.tbls⟩, fun a o q => ?_, fl, k1, k2, I.untracked hx.new, hE⟩
  · obtain ⟨o1, _, e1, sl, e2⟩ := k3 b o q hb
    obtain ⟨sl1, rfl⟩ := e1 n
    exact ⟨sl, e2⟩
  · by_cases hb : b ∈ frs outer
    · obtain ⟨o1, _, _, sl, e2⟩ := k3 b o q hb
      exact ⟨_, e2⟩
    · obtain ⟨o', q'⟩ := k2 b o q hb
      exact ⟨o', st b o' q'⟩
  · have nf : ∀ b u, H b = some u → b ∉ frs (envOfC qual scope s₀.heap.objs.size f cd :: outer) := fun b u z hb => by
      have := I.stkFree b hb
      rw [this] at z; cases z
    refine (I.hok a o q).stay (fun b u hb z => hB b u z ?_) (fun _ z => z) fun _ _ z => z
    rcases hb with z1 | z1
    · rw [z1]; exact nf a o q
    · exact nf b _ z1
end
end L2
namespace L2
open PySem PySem.Spec PyProof.Rows
structure XCls (K : PySem.W.Frag) (C : Addr) : Prop where
  ex : PySem.W.excIn K C [.type "ValueError", .type "Exception", .type "BaseException", .type "object"] "ValueError.__new__" = true
theorem XCls.obj {K : PySem.W.Frag} {C : Addr} {h : Heap} (c : XCls K C) (X : K.In h) : ∃ bm N nm qn bs hdc sn sub ab col dd k0 k1 k2 k3 k5 mN, h.get? C = some (excClassObj nm qn C N bs bm hdc sn sub ab col dd k0 k1 k2 k3 k5 "ValueError.__new__") ∧ h.Ns N mN ∧ mN "__init__" = none ∧
    OwnTail h [.type "ValueError", .type "Exception", .type "BaseException", .type "object"] bm := by
  have z := c.ex
  unfold PySem.W.excIn at z
  split at z
  · rename_i dd cd sl hlook
    split at z
    · rename_i C2 tl k0 k1 k2 k3 nn k5 hmro hsl
      simp only [Bool.and_eq_true, beq_iff_eq, Bool.not_eq_true'] at z
      obtain ⟨⟨⟨⟨⟨e1, e2⟩, e3⟩, e4⟩, e5⟩, e6⟩ := z
      subst e1 e2
      obtain ⟨nm, bs, mro, ns, qn, hdc, sn, sub, ab, col, del⟩ := cd
      dsimp only at hmro e3 e5 e6
      subst hmro e3
      obtain ⟨lst⟩ := sl
      dsimp only at hsl
      subst hsl
      exact ⟨tl, ns, nm, qn, bs, hdc, sn, sub, ab, col, dd, k0, k1, k2, k3, k5, _, X _ _ hlook, .of_isNs (PySem.W.isNs_of_in X e5), PySem.W.nsMap_none_of_in X e5 e6, PySem.W.tail_of_in X e4⟩
    · cases z
  · cases z
def tRaise (C : Addr) (E : XK) (t : TA) : TS := fun _ σ H => t σ H fun vs H1 => vs.length ≤ sizeLine ∧ E (.ref C) none H1
section
variable {X : Cx} {x : Str} {C : Addr} {E : XK} {e : Expr} {es : List Expr} {t : TA} {np cpos pos : Pos}
theorem ps_raise (hr : Raises X E) (hc : X.calm = true) (c : XCls X.K C) (hg : Gl X x) (hm : X.mg x = some (.ref C)) (ha : PA X (e :: es) t) (hd : (x == ("__debug__" : Str)) = false := by decide)
    (he : starEach (e :: es) X.env = (false, eval e X.env) :: starEach es X.env := by rfl) (hpl : (backTo cpos (starEach es X.env)).any (·.1) = false := by rfl) :
    PS X (.Raise (some (.Call (.Name x np) (e :: es) [] cpos)) none pos) (tRaise C E t) := by
  intro pins s σ H D I h
  obtain ⟨bm, N, nm, qn, bs, hdc, sn, sub, ab, col, dd, k0, k1, k2, k3, k5, mN, g1, g2, g3, g4⟩ := c.obj I.ok.mod.kin
  refine wpAny_Raise_call_subT (C := C) (nm := nm) (q := qn) (N := N) (bs := bs) (bm := bm) (hdct := hdc) (sn := sn) (sub := sub) (ab := ab) (col := col) (dd := dd) (k0 := k0) (k1 := k1) (k2 := k2) (k3 := k3) (k5 := k5)
    PySem.F.excBase_ValueError (mN := mN) (g4.hasType PySem.F.excBase_ValueError.hasBase) (I.ok.hd hc) (by rw [he]; show (false || (backTo cpos (starEach es X.env)).any (·.1)) = false; rw [hpl]; rfl) g3 (ld_glob I hg hm ⟨rfl, ?_⟩ hd)
  have ha' := ha cpos pins s σ H _ I h
  rw [he] at ha' ⊢
  refine Calls.evalArgs_plain (thn ha' fun us s2 ⟨vs, H2, I2, rv, hz, hE⟩ => ⟨rfl, by show us.length ≤ sizeLine; rw [← rv.length]; exact hz, I2.bk _ _ g1, g2.keeps I2.bk, g4.keeps I2.bk, fun h' ea made => ?_⟩)
  exact hr pins σ H2 s2 ea C us h' I2 made hE
theorem PS.nox {st : Stmt} {t : TS} (h : PS X.nox st t) : PS X st t := fun pins s σ H D I hw =>
  wpAny_mono (h pins s σ H D (I.wish _) hw) (fun _ _ q => q.unwish) fun _ _ z => False.elim z
theorem PA.nox {es : List Expr} {t : TA} (h : PA X.nox es t) : PA X es t := fun pos pins s σ H Q I hw =>
  wpAny_mono (h pos pins s σ H Q (I.wish _) hw) (fun _ _ ⟨v, H', I', r, q⟩ => ⟨v, H', I'.unwish, r, q⟩) fun _ _ z => False.elim z
theorem Fun.okX {P : Program} {w : World} {K : PySem.W.Frag} {mg : Str → Option Value} {base : Heap} {x qual : Str} {st : Stmt} {f : Addr} {fd : FuncData} {N ps : List Str} {k : Nat} {sp : Sp} (F : Fun K x qual st f fd) (S : FnScope N ps (defScope st)) (len : ∀ vs H Q E, sp vs H Q E → vs.length = ps.length)
    (hbody : ∀ (cdv : Value) (A : Around) (outer : List Env) (s : Shared) (H : Hp) (vs : List V) (Q : VK) (E : XK), Room k (A.deeper (envOfC qual (defScope st) s.heap.objs.size f cdv)) → sp vs H Q E →
      ∃ t, PSs (cxOf (CX1 P w) P w K mg base N qual (defScope st) f cdv A outer s H E) (defBody st) t ∧ t { nx := fun _ H' => Q .non H', rt := Q } (start N vs) H) : FnOk P w K mg base (CX1 P w) (k + 1) f fd ps sp := by
  obtain ⟨oc, od, kV, doc, pm, an, cdv, ct, osl, rfl, lk, hcd⟩ := F.ex
  exact fn_of lk hcd S len fun A outer s H vs Q E hr hsp => hbody cdv A outer s H vs Q E hr hsp
theorem FnOk.calm {P : Program} {w : World} {K : PySem.W.Frag} {mg : Str → Option Value} {base : Heap} {k : Nat} {f : Addr} {fd : FuncData} {ps : List Str} {sp : Sp} (F : FnOk P w K mg base CX0 k f fd ps sp) : FnOk P w K mg base (CX1 P w) k f fd ps sp :=
  ⟨F.len, fun A outer s H args us vs Q E hr e0 hb hv hs => codeAny_mono (F.run A outer s H args us vs Q E hr e0 hb hv hs) fun r s' h => by
    cases r with
    | error e => exact False.elim h
    | ok fl => cases fl <;> exact h⟩
end
end L2
namespace L2
open PySem PySem.Spec PyProof.Rows
section
variable {prog : Program} {w : World} {A : Around} {E : Value → Shared → Prop} {h : Heap} {g : Array GenState} {d : Drawn} {t : Nat} {os : OsState} {a : Addr} {o : Obj}
  {nm q : Str} {C N : Addr} {bs bm : List Value} {hdct : Bool} {sn : List Str} {sub : List Value} {ab : Bool} {col : Option Bool} {dd : Option Addr} {k0 k1 k2 k3 k5 : Option Value} {newId : String} {K : PySem.W.Frag}
theorem xc_get {R : Result → Shared → Prop} (hC : h.get? C = some (excClassObj nm q C N bs bm hdct sn sub ab col dd k0 k1 k2 k3 k5 newId)) (hob : bm.contains (.type "object") = true)
    (hx : h.get? a = some o) (hc : o.cls = .ref C) (hq : R (.ok (.ret (.ref C))) ⟨h, g, d, t, os⟩) :
    codeAny (model prog w) A (.call (.builtin "getset_descriptor.__get__") ⟨[.builtin "object.__class__", .ref a, .ref C], []⟩) R ⟨h, g, d, t, os⟩ := by
  have hT5 : (⟨h, g, d, t, os⟩ : Shared).TypeIs (.builtin "object.__class__") "getset_descriptor" := F.typeOf_object_class
  have hcB : (Value.ref C :: bm).contains (.type (".".intercalate ("object.__class__".cutAt '.').dropLast)) = true := by
    rw [show (".".intercalate ("object.__class__".cutAt '.').dropLast) = "object" by decide +kernel, List.contains_cons, hob, Bool.or_true]
  refine codeAny_call_builtin F.slot_gs_get.plain F.entry_gs_get (F.slot_gs_get.check _ _ _ _ _ _ _ _ hT5 (F.args_gs_get _ _ _) ?_)
  repeat (any_goals (first | assumption | (with_reducible refine wpAny_loadPart_at hx ?_; rw [hc]) | (with_reducible refine wpAny_isSubtype_exc hC ?_; rw [hcB]) | wp_step))
  refine ⟨Code.quiet_builtin _ (by decide +kernel), codeAny_builtin F.entry_object_class ?_⟩
  repeat (any_goals (first | assumption | (with_reducible refine wpAny_loadPart_at hx ?_; rw [hc]) | wp_step))
structure XAsk (K : PySem.W.Frag) (C : Addr) : Prop where
  cl : PySem.W.findIn K (.ref C) "__class__" = some (some (.builtin "object.__class__"))
  ga : PySem.W.findIn K (.ref C) "__getattribute__" = some (some (.builtin "BaseException.__getattribute__"))
  gh : PySem.W.findIn K (.ref C) "__getattr__" = some none
theorem xc_entry {tk : Tok} {Q : Fin → Shared → Prop} (KX : K.In h) (Z : XAsk K C) (hC : h.get? C = some (excClassObj nm q C N bs bm hdct sn sub ab col dd k0 k1 k2 k3 k5 newId)) (hob : bm.contains (.type "object") = true)
    (hx : h.get? a = some o) (hc : o.cls = .ref C) (hq : Q (.done (.ret (.ref C))) ⟨h, g, d, t, os⟩) :
    wpAny (model prog w) A (Builtin.«object.__getattribute__» ⟨[.ref a, .str "__class__" tk], []⟩) Q E ⟨h, g, d, t, os⟩ := by
  have hT5 : (⟨h, g, d, t, os⟩ : Shared).TypeIs (.builtin "object.__class__") "getset_descriptor" := F.typeOf_object_class
  have f5 := F.typeOf_object_class
  have f6 := F.slot_gs_get.lookup
  have f7 := F.slot_gs_set.lookup
  have LK := PySem.W.looks_findIn (M := model prog w) KX Z.cl
  repeat (any_goals (first | assumption | (with_reducible refine wpAny_loadPart_at hx ?_; rw [hc]) | with_reducible refine LK.at ?_ | wp_step))
  refine xc_get hC hob hx hc ?_
  repeat (any_goals (first | assumption | wp_step))
theorem xc_call {tk : Tok} {R : Result → Shared → Prop} (KX : K.In h) (Z : XAsk K C) (hC : h.get? C = some (excClassObj nm q C N bs bm hdct sn sub ab col dd k0 k1 k2 k3 k5 newId)) (hob : bm.contains (.type "object") = true) (hbe : bm.contains (.type "BaseException") = true)
    (hx : h.get? a = some o) (hc : o.cls = .ref C) (hq : R (.ok (.ret (.ref C))) ⟨h, g, d, t, os⟩) :
    codeAny (model prog w) A (.call (.builtin "BaseException.__getattribute__") ⟨[.ref a, .str "__class__" tk], []⟩) R ⟨h, g, d, t, os⟩ := by
  have hcB : (Value.ref C :: bm).contains (.type "BaseException") = true := by rw [List.contains_cons, hbe, Bool.or_true]
  have hk : builtinKind "BaseException.__getattribute__" = some .slot := by decide +kernel
  have hsplit : splitId "BaseException.__getattribute__" = some ("BaseException", "__getattribute__") := by decide +kernel
  have hargs := F.args_bexc_ga (.ref a) (.str "__class__" tk)
  have ck : ∀ {M : Model} {A' : Around} {E' : Value → Shared → Prop} {Q' : Unit → Shared → Prop}, Q' () ⟨h, g, d, t, os⟩ → wpAny M A' (checkBuiltinCall "BaseException.__getattribute__" ⟨[.ref a, .str "__class__" tk], []⟩) Q' E' ⟨h, g, d, t, os⟩ := by
    intro M A' E' Q' hq'
    simp only [checkBuiltinCall, hk, hsplit]
    refine wpAny_bind ?_
    unfold isInstance
    repeat (first | (with_reducible refine wpAny_loadPart_at hx ?_; rw [hc]) | (with_reducible refine wpAny_isSubtype_exc hC ?_; rw [hcB]) | wp_step)
    exact hq'
  exact codeAny_call_builtin (by decide +kernel) F.entry_bexc_ga (ck (xc_entry KX Z hC hob hx hc hq))
theorem xc_by {tk : Tok} {Q : Value → Shared → Prop} (KX : K.In h) (Z : XAsk K C) (hC : h.get? C = some (excClassObj nm q C N bs bm hdct sn sub ab col dd k0 k1 k2 k3 k5 newId)) (hob : bm.contains (.type "object") = true) (hbe : bm.contains (.type "BaseException") = true)
    (hx : h.get? a = some o) (hc : o.cls = .ref C) (hq : Q (.ref C) ⟨h, g, d, t, os⟩) :
    wpAny (model prog w) A (getAttrBy (.ref a) (.str "__class__" tk) false) Q E ⟨h, g, d, t, os⟩ := by
  have f3 := PySem.F.excAttr_ValueError.ga.bind (.ref a)
  have hx0 : (false && onTheHeap (Value.builtin "BaseException.__getattribute__")) = false := rfl
  have hx2 : (Value.builtin "BaseException.__getattribute__" == Value.builtin "object.__getattribute__") = false := by decide +kernel
  have hx1 : (onTheHeap (Value.ref C) && Value.builtin "BaseException.__getattribute__" == Value.builtin "object.__getattribute__") = false := by rw [hx2]; rfl
  have L1 := PySem.W.looks_findIn (M := model prog w) KX Z.ga
  have L2 := PySem.W.looks_findIn (M := model prog w) KX Z.gh
  repeat (any_goals (first | assumption | (with_reducible refine wpAny_loadPart_at hx ?_; rw [hc]) | with_reducible refine L1.at ?_ | with_reducible refine L2.at ?_ | wp_step))
  refine xc_call KX Z hC hob hbe hx hc ?_
  repeat (any_goals (first | assumption | wp_step))
theorem xc_attr {Q : Option Value → Shared → Prop} (KX : K.In h) (Z : XAsk K C) (hC : h.get? C = some (excClassObj nm q C N bs bm hdct sn sub ab col dd k0 k1 k2 k3 k5 newId)) (hob : bm.contains (.type "object") = true) (hbe : bm.contains (.type "BaseException") = true)
    (hx : h.get? a = some o) (hc : o.cls = .ref C) (hq : Q (some (.ref C)) ⟨h, g, d, t + 1, os⟩) : wpAny (model prog w) A (getAttr? (.ref a) "__class__") Q E ⟨h, g, d, t, os⟩ := by
  unfold getAttr? getAttrBy?
  repeat (any_goals (first | assumption | with_reducible apply xc_by KX Z hC hob hbe hx hc | wp_step))
theorem kitx_exc {a C : Addr} (c : XCls K C) (Z : XAsk K C) : PySem.W.KitX K (.ref a) (.ref C) (fun h => ∃ o, h.get? a = some o ∧ o.cls = .ref C) where
  ty := fun M h _ ⟨o, e1, e2⟩ => e2 ▸ (PySem.W.Looks.ld e1).andThen .now
  it := fun M h X _ => by
    obtain ⟨bm, N, nm, qn, bs, hdc, sn, sub, ab, col, dd, k0, k1, k2, k3, k5, mN, g1, _⟩ := c.obj X
    intro A' Q' E' s' k q
    unfold isType loadHead
    exact wpAny_bind (wpAny_loadPart (k _ _ g1) (wpAny_pure q))
  ne := fun h tp dd its n sl X htp => by
    obtain ⟨bm, N, nm, qn, bs, hdc, sn, sub, ab, col, dd, k0, k1, k2, k3, k5, mN, g1, _⟩ := c.obj X
    refine Bool.eq_false_iff.mpr fun z => ?_
    have e : C = tp := Value.ref.inj (beq_iff_eq.mp z)
    subst e
    rw [g1] at htp
    exact absurd (show Value.type "type" = Value.type "tuple" from congrArg Obj.cls (Option.some.inj htp)) (by simp)
  ca := fun {prog w A E Q s} X ⟨o, e1, e2⟩ k => by
    obtain ⟨bm, N, nm, qn, bs, hdc, sn, sub, ab, col, dd, k0, k1, k2, k3, k5, mN, g1, g2, g3, g4⟩ := c.obj X
    obtain ⟨h, g, d, t, os⟩ := s
    exact xc_attr X Z g1 (g4.hasType rfl) (g4.hasType rfl) e1 e2 k
end
end L2
namespace L2
open PySem PySem.Spec PyProof.Rows
abbrev TX := St → Hp → VK → XK → Prop
def PEx (X : Cx) (CX : CXT) (e : Expr) (t : TX) : Prop :=
  ∀ (pins : List (Addr × Obj)) (s : Shared) (σ : St) (H : Hp) (Q : VK) (E : XK), Inv X pins σ H s → t σ H Q E → wpAny (model X.prog X.w) X.A (eval e X.env) (EP X pins σ Q) (fun ev s' => ∃ H1 s1, Inv X pins σ H1 s1 ∧ CX X.stack H1 s1 E ev s') s
def xCall (sp : Sp) (dvs : List V) (t : TA) : TX := fun σ H Q E => t σ H fun vs H1 => sp (vs ++ dvs) H1 Q E
section
variable {X : Cx} {CX : CXT} {k : Nat} {f C : Addr} {fd : FuncData} {ps : List Str} {sp : Sp} {dvs : List V} {ds : List Value} {x : Str} {p pos : Pos} {e : Expr} {es : List Expr} {t : TA}
theorem run_fnx {pins : List (Addr × Obj)} {σ : St} {H : Hp} {s : Shared} {Q : VK} {E : XK} {us : List Value} {vs : List V} (F : FnOk X.prog X.w X.K X.mg X.base CX k f fd ps sp) (hr : Room k X.A) (hb : Binds X.K fd ps ds) (hd : Vals dvs ds)
    (I : Inv X pins σ H s) (r : Vals vs us) (h : sp (vs ++ dvs) H Q E) : wpAny (model X.prog X.w) X.A (call (.ref f) us) (EP X pins σ Q) (fun ev s' => ∃ H1 s1, Inv X pins σ H1 s1 ∧ CX X.stack H1 s1 E ev s') s := by
  have r2 : Vals (vs ++ dvs) (us ++ ds) := r.append hd
  have hl : (us ++ ds).length = ps.length := by rw [← r2.length]; exact F.len _ _ _ _ h
  refine wpAny_call (codeAny_mono (F.run X.A X.stack s H ⟨us, []⟩ (us ++ ds) (vs ++ dvs) Q E hr I.env0 (hb s us I.kIn hl) r2 h) fun r s' hq => ?_)
  cases r with
  | error e => exact ⟨H, s, I, hq⟩
  | ok fl =>
    cases fl with
    | ret u => exact I.after hq
    | next => exact False.elim hq
    | brk => exact False.elim hq
    | cont => exact False.elim hq
theorem pex_call (F : FnOk X.prog X.w X.K X.mg X.base CX k f fd ps sp) (hr : Room k X.A) (hg : Gl X x) (hm : X.mg x = some (.ref f)) (hk : PySem.W.keepIn X.K (.ref f) = true) (hb : Binds X.K fd ps ds) (hd : Vals dvs ds)
    (ha : PA X.nox (e :: es) t) (hdb : (x == ("__debug__" : Str)) = false := by decide) (he : starEach (e :: es) X.env = (false, eval e X.env) :: starEach es X.env := by rfl) (hpl : (backTo pos (starEach es X.env)).any (·.1) = false := by rfl) :
    PEx X CX (.Call (.Name x p) (e :: es) [] pos) (xCall sp dvs t) := by
  intro pins s σ H Q E I h
  refine wpAny_Call_Name_kw (ld_glob I hg hm ?_ hdb)
  refine PySem.W.callWith_K (h₀ := X.base) I.ok.mod.kin hk (wpAny_mono (ha pos pins s σ H _ (I.wish _) h) (fun us s1 ⟨vs, H1, I1, r, q⟩ => ⟨I1.unwish.kIn, ?_⟩) fun _ _ z => False.elim z) he hpl
  exact run_fnx F hr hb hd I1.unwish r q
def excO (C ea : Addr) : HO := .ext fun h => ∃ o, h.get? ea = some o ∧ o.cls = .ref C
abbrev Cx.inSuite (X : Cx) (ea : Addr) : Cx := { X with A := X.A.mark (some (.ref ea)), calm := false, xe := fun _ _ => False }
theorem Inv.inSuite {pins : List (Addr × Obj)} {σ : St} {H : Hp} {s : Shared} (I : Inv X pins σ H s) (ea : Addr) : Inv (X.inSuite ea) pins σ H s :=
  ⟨⟨I.ok.mod, I.ok.kind, I.ok.glob, I.ok.blt, I.ok.above, I.ok.inj, I.ok.has, I.ok.cab, fun z => (nomatch z), I.ok.frames, I.ok.stk, I.ok.exf, I.ok.bs, I.ok.bsz, I.ok.noex, I.ok.exfs, I.ok.funs, I.ok.frf⟩, I.os, I.bare, I.base, I.loc, I.cell, I.free, I.freeC, I.pin, I.hok, I.len⟩
theorem Inv.outSuite {pins : List (Addr × Obj)} {σ : St} {H : Hp} {s : Shared} {ea : Addr} (ok : X.Ok) (I : Inv (X.inSuite ea) pins σ H s) : Inv X pins σ H s :=
  ⟨ok, I.os, I.bare, I.base, I.loc, I.cell, I.free, I.freeC, I.pin, I.hok, I.len⟩
def tTry (te : TX) (C : Addr) (i : Nat) (ts : TS) : TS := fun D σ H => te σ H (fun _ H1 => D.nx σ H1) fun cls _ H1 => cls = .ref C ∧ ∀ ea, H1 ea = none →
  ts { nx := fun σ2 H2 => D.nx (σ2.set i none) H2, rt := D.rt, bk := fun σ2 H2 => D.bk (σ2.set i none) H2, ct := fun σ2 H2 => D.ct (σ2.set i none) H2 } (σ.set i (some (.ref ea))) (upd H1 ea (excO C ea))
theorem Inv.gone {pins : List (Addr × Obj)} {σ : St} {H : Hp} {s : Shared} {i : Nat} {n : Str} {Q : Unit → Shared → Prop} {M : Model} {A : Around} {E : Value → Shared → Prop} {hpos : Pos} (I : Inv X pins σ H s) (hN : X.N.Nodup) (hi : X.N[i]? = some n) (hk : X.env.kindOf n = some .local)
    (h : ∀ s', Inv X pins (σ.set i none) H s' → Q () s') : wpAny M A (do bindName X.env n .none; unbindBehindTheSuite X.env n hpos) Q E s := by
  obtain ⟨m, hn, hl⟩ := id I.loc
  obtain ⟨oL, _, _, hoL, _⟩ := id hn
  refine wpAny_nameGoes_keeps hk hn (by rw [I.ok.kind]; rfl) fun h' v hn' hs => h _ ?_
  have iL : ∀ b o, X.s₀.heap.get? b = some o → b ≠ X.env.locals := fun b o e => Nat.ne_of_lt (Nat.lt_of_lt_of_le (Heap.lt_size e) I.ok.above)
  refine ⟨I.ok, I.os, I.bare, ⟨fun b o e n hb hx => (hs.2 b (iL b o e)).trans (I.base.keep b o e n hb hx), fun b o e n hb hx => ?_, I.base.free, fun b o e hx => ?_, I.base.tups, I.base.frzs, I.base.tbls⟩, ⟨_, hn', fun j y v' e1 e2 e3 => ?_⟩, fun y c e => ?_, I.free, I.freeC, fun p hp => ?_, fun b ob e => ?_, by simpa using I.len⟩
  · obtain ⟨sl, e1⟩ := I.base.slot b o e n hb hx
    exact ⟨sl, (hs.2 b (iL b o e)).trans e1⟩
  · obtain ⟨o', e1⟩ := I.base.there b o e hx
    exact ⟨o', (hs.2 b (iL b o e)).trans e1⟩
  · by_cases hj : j = i
    · subst hj
      by_cases hz : j < σ.length
      · rw [List.getElem?_set_self hz] at e2; cases e2
      · rw [List.getElem?_eq_none (by simpa using hz)] at e2; cases e2
    · rw [List.getElem?_set_ne (Ne.symm hj)] at e2
      obtain ⟨u', r', q⟩ := hl j y v' e1 e2 e3
      refine ⟨u', r', ?_⟩
      have ny : y ≠ n := fun e => hj (nodup_ix hN e1 (e ▸ hi))
      rcases q with ⟨k, e⟩ | ⟨k, c, e, z⟩
      · exact .inl ⟨k, by show (if y = n then v else m y) = some u'; rw [if_neg ny]; exact e⟩
      · exact .inr ⟨k, c, e, z.sameBut hs (I.cne y c e)⟩
  · obtain ⟨w', z⟩ := I.cell y c e
    exact ⟨w', z.sameBut hs (I.cne y c e)⟩
  · obtain ⟨e, n, ne, nf, d⟩ := I.pin p hp
    exact ⟨(hs.2 p.1 ne).trans e, n, ne, nf, d⟩
  · refine (I.hok b ob e).stay (fun c w' hc q => (hs.2 c ?_).trans q) (fun _ q => q) fun _ _ q => q
    rintro rfl
    rcases hc with z | z
    · rw [← z, I.free] at e; cases e
    · rw [I.free] at z; cases z
theorem Inv.landed {pins : List (Addr × Obj)} {σ : St} {H1 H' : Hp} {s1 s' : Shared} {ea C : Addr} {a0 : Value} {B h6 : Heap} (I : Inv X pins σ H1 s1) (os : s'.os = s1.os) (bare : AllBare s'.gens) (un : Un (frs X.stack) [] H1 H' s1.heap s'.heap) (hok : HOk X.prog X.w H' B)
    (fl : Heap.FlyingW B X.stack ea (.ref C) a0 s'.heap) (k1 : ∀ b o, s1.heap.get? b = some o → H1 b = none → b ∉ frs X.stack → B.get? b = some o) (k2 : ∀ b o, s1.heap.get? b = some o → b ∉ frs X.stack → ∃ o', B.get? b = some o') (hn : H' ea = none)
    (fl6 : Heap.FlyingW B X.stack ea (.ref C) a0 h6) (ups : s'.heap.UpToSlots h6) : Inv X pins σ (upd H' ea (excO C ea)) { s' with heap := h6 } := by
  have st : ∀ b o, B.get? b = some o → h6.get? b = some o := fl6.1
  have nea : ∀ b o, s1.heap.get? b = some o → b ≠ ea := fun b o q z => by
    subst z
    by_cases hb : b ∈ frs X.stack
    · obtain ⟨_, o2, q2, nd⟩ := fl6.2.2.1.mem hb
      obtain ⟨oe, vs, q3, _, dd, _⟩ := fl6.first
      rw [q2] at q3; cases q3
      exact nd vs dd
    · obtain ⟨o', q'⟩ := k2 b o q hb
      rw [fl6.2.1] at q'; cases q'
  have q3 : ∀ b o, s1.heap.get? b = some o → b ∈ frs X.stack → ∃ o1, s'.heap.get? b = some o1 ∧ (H1 b = none → ∃ sl, o1 = { o with slots := sl }) ∧ ∃ sl, h6.get? b = some { o1 with slots := sl } := fun b o q hb => by
    obtain ⟨_, o1, z1, nd⟩ := fl.2.2.1.mem hb
    refine ⟨o1, z1, fun n => ?_, ups b o1 z1 nd⟩
    obtain ⟨sl2, y2⟩ := un.slot b _ q n hb (by simp)
    rw [z1] at y2
    exact ⟨sl2, Option.some.inj y2⟩
  refine I.call' (ch := []) (s' := { s' with heap := h6 }) os ⟨fun b o q n hb _ => st b o (k1 b o q n hb), fun b o q n hb _ => ?_, fun b o q n _ => ?_, fun b o q _ => ?_, fun b xs z => ?_, fun b o xs z => ?_, fun b ps z => ?_⟩ (fun b u q => ?_) bare (fun b hb => absurd hb (by simp))
  · obtain ⟨o1, _, e1, sl, e2⟩ := q3 b o q hb
    obtain ⟨sl1, rfl⟩ := e1 n
    exact ⟨sl, e2⟩
  · rw [upd_ne (nea b o q)]
    exact un.free b o q n (by simp)
  · by_cases hb : b ∈ frs X.stack
    · obtain ⟨o1, _, _, sl, e2⟩ := q3 b o q hb
      exact ⟨_, e2⟩
    · obtain ⟨o', q'⟩ := k2 b o q hb
      exact ⟨o', st b o' q'⟩
  · have z' := un.tups b xs z
    rw [upd_ne (ne_of_none z' hn)]; exact z'
  · have z' := un.frzs b o xs z
    rw [upd_ne (ne_of_none z' hn)]; exact z'
  · obtain ⟨mo, z'⟩ := un.tbls b ps z
    exact ⟨mo, by rw [upd_ne (ne_of_none z' hn)]; exact z'⟩
  · by_cases hb : b = ea
    · subst hb
      rw [upd_same] at q; cases q
      obtain ⟨oe, vs, q3, cc, dd, _⟩ := fl6.first
      exact ⟨⟨oe, q3, cc⟩, ⟨oe, q3⟩, fun h1 h2 ⟨o, e1, e2⟩ k => ⟨o, k o e1, e2⟩⟩
    · rw [upd_ne hb] at q
      exact (hok b u q).stay (fun c v _ z => st c v z) (fun c z => by rw [upd_ne (ne_of_none z hn)]; exact z) fun c xs z => by rw [upd_ne (ne_of_none z hn)]; exact z
def rIsX (K : PySem.W.Frag) : List V → Hp → VK → Prop := fun xs H Q => ∃ ea C c k, xs = [.ref ea, c] ∧ H ea = some (excO C ea) ∧ XCls K C ∧ XAsk K C ∧ ((∃ D, c = .ref D ∧ PySem.W.kitOne K (.ref C) (.ref D) = some k) ∨ (∃ T, c = .ty T ∧ PySem.W.kitOne K (.ref C) (.type T) = some k)) ∧ Q (.bl k) H
theorem call_isX : CallR X (.builtin "isinstance") (rIsX X.K) := by
  intro pins s σ H vs us Q I r h
  obtain ⟨ea, C, c, k, rfl, hE, xc, xa, hk, q⟩ := h
  obtain ⟨u, v, rfl, ru, rv⟩ := vals2 r
  cases ru
  obtain ⟨hφ, _, _⟩ := (show ObjOk X.prog X.w H s.heap ea (excO C ea) from I.hok ea _ hE)
  rcases hk with ⟨D, rfl, e⟩ | ⟨T, rfl, e⟩
  · cases rv
    exact PySem.W.kia_one (kitx_exc xc xa) I.kIn hφ e (fun z => nomatch z) fun tk => ⟨.bl k, H, I.tok _, rfl, q⟩
  · cases rv
    exact PySem.W.kia_one (kitx_exc xc xa) I.kIn hφ e (fun z => nomatch z) fun tk => ⟨.bl k, H, I.tok _, rfl, q⟩
def rIsXs (K : PySem.W.Frag) : List V → Hp → VK → Prop := fun xs H Q => ∃ (ea C p : Addr) (cs : List Addr) (k : Bool), xs = [.ref ea, .ref p] ∧ H ea = some (excO C ea) ∧ XCls K C ∧ XAsk K C ∧ H p = some (.tup (cs.map V.ref)) ∧ PySem.W.kitAny K (.ref C) (cs.map Value.ref) = some k ∧ Q (.bl k) H
theorem vals_refs : ∀ {cs : List Addr} {its : List Value}, Vals (cs.map V.ref) its → its = cs.map Value.ref
  | [], _, .nil => rfl
  | c :: r, _, .cons h t => by
    cases h
    rw [vals_refs t]
    rfl
theorem call_isXs : CallR X (.builtin "isinstance") (rIsXs X.K) := by
  intro pins s σ H vs us Q I r h
  obtain ⟨ea, C, p, cs, k, rfl, hE, xc, xa, hp, e, q⟩ := h
  obtain ⟨u, v, rfl, ru, rv⟩ := vals2 r
  cases ru
  cases rv
  obtain ⟨hφ, _, _⟩ := (show ObjOk X.prog X.w H s.heap ea (excO C ea) from I.hok ea _ hE)
  obtain ⟨_, its, rit, o, ho, hcls, nn, hdat⟩ := (show ObjOk X.prog X.w H s.heap p (.tup (cs.map V.ref)) from I.hok p _ hp)
  have ei := vals_refs rit
  subst ei
  obtain ⟨oc, od, odt, osl⟩ := o
  dsimp only at hcls hdat
  subst hcls hdat
  exact PySem.W.kia_tup (kitx_exc xc xa) I.kIn hφ ho e (fun z => nomatch z) fun tk => ⟨.bl k, H, I.tok _, rfl, q⟩
end
end L2
namespace L2
open PySem PySem.Spec PyProof.Rows
section
variable {X : Cx} {K : PySem.W.Frag}
theorem call_isXK (hK : X.K = K := by rfl) : CallR X (.builtin "isinstance") (rIsX K) := hK ▸ call_isX
theorem call_isXsK (hK : X.K = K := by rfl) : CallR X (.builtin "isinstance") (rIsXs K) := hK ▸ call_isXs
variable {σ : St} {H : Hp} {Q : VK} {D : Ends} {t : TA} {E : XK} {C ea p : Addr} {te : TX} {i : Nat} {ts : TS} {sp : Sp} {dvs : List V} {c : V}
theorem ap_raise : tRaise C E t D σ H = t σ H fun vs H1 => vs.length ≤ sizeLine ∧ E (.ref C) none H1 := rfl
theorem ap_xCall : xCall sp dvs t σ H Q E = t σ H fun vs H1 => sp (vs ++ dvs) H1 Q E := rfl
theorem ap_try : tTry te C i ts D σ H = te σ H (fun _ H1 => D.nx σ H1) fun cls _ H1 => cls = .ref C ∧ ∀ ea, H1 ea = none →
  ts { nx := fun σ2 H2 => D.nx (σ2.set i none) H2, rt := D.rt, bk := fun σ2 H2 => D.bk (σ2.set i none) H2, ct := fun σ2 H2 => D.ct (σ2.set i none) H2 } (σ.set i (some (.ref ea))) (upd H1 ea (excO C ea)) := rfl
theorem ap_isX : rIsX K [.ref ea, c] H Q = ∃ C k, H ea = some (excO C ea) ∧ XCls K C ∧ XAsk K C ∧ ((∃ D, c = .ref D ∧ PySem.W.kitOne K (.ref C) (.ref D) = some k) ∨ (∃ T, c = .ty T ∧ PySem.W.kitOne K (.ref C) (.type T) = some k)) ∧ Q (.bl k) H := propext
  ⟨fun ⟨ea', C, c', k, e, r⟩ => by cases e; exact ⟨C, k, r⟩, fun ⟨C, k, r⟩ => ⟨ea, C, c, k, rfl, r⟩⟩
theorem ap_isXs : rIsXs K [.ref ea, .ref p] H Q = ∃ (C : Addr) (cs : List Addr) (k : Bool), H ea = some (excO C ea) ∧ XCls K C ∧ XAsk K C ∧ H p = some (.tup (cs.map V.ref)) ∧ PySem.W.kitAny K (.ref C) (cs.map Value.ref) = some k ∧ Q (.bl k) H := propext
  ⟨fun ⟨ea', C, p', cs, k, e, r⟩ => by cases e; exact ⟨C, cs, k, r⟩, fun ⟨C, cs, k, r⟩ => ⟨ea, C, p, cs, k, rfl, r⟩⟩
end
end L2
namespace L2
open PySem PySem.Spec PyProof.Rows
section
variable {κ : Type} [DecidableEq κ]
def valV (kvs : List (κ × V)) (k : κ) : Option V := (kvs.find? fun kv => decide (kv.1 = k)).map (·.2)
def putK (kvs : List (κ × V)) (k : κ) (v : V) : List (κ × V) :=
  if (kvs.any fun kv => decide (kv.1 = k)) = true then kvs.map (fun kv => if kv.1 = k then (kv.1, v) else kv) else kvs ++ [(k, v)]
def dropK (kvs : List (κ × V)) (k : κ) : List (κ × V) := kvs.filter fun kv => decide (kv.1 ≠ k)
theorem valV_pos {p : κ × V} {r : List (κ × V)} {k : κ} (e : p.1 = k) : valV (p :: r) k = some p.2 := by simp [valV, List.find?_cons, e]
theorem valV_neg {p : κ × V} {r : List (κ × V)} {k : κ} (e : ¬ p.1 = k) : valV (p :: r) k = valV r k := by simp [valV, List.find?_cons, e]
theorem valV_any (k : κ) : ∀ kvs : List (κ × V), (kvs.any fun kv => decide (kv.1 = k)) = (valV kvs k).isSome
  | [] => rfl
  | p :: r => by
    rw [List.any_cons]
    by_cases e : p.1 = k
    · simp only [valV_pos e, decide_eq_true e, Bool.true_or, Option.isSome_some]
    · rw [valV_neg e, decide_eq_false e, Bool.false_or]; exact valV_any k r
theorem valV_map (k j : κ) (y : V) : ∀ kvs : List (κ × V), valV (kvs.map fun kv => if kv.1 = k then (kv.1, y) else kv) j = (valV kvs j).map fun x => if j = k then y else x
  | [] => rfl
  | p :: r => by
    have ih := valV_map k j y r
    rw [List.map_cons]
    by_cases h : p.1 = k
    · rw [if_pos h]
      by_cases e : p.1 = j
      · rw [valV_pos (p := (p.1, y)) e, valV_pos e, Option.map_some, if_pos (e.symm.trans h)]
      · rw [valV_neg (p := (p.1, y)) e, valV_neg e, ih]
    · rw [if_neg h]
      by_cases e : p.1 = j
      · rw [valV_pos (p := p) e, valV_pos e, Option.map_some, if_neg (fun z => h (e.trans z))]
      · rw [valV_neg (p := p) e, valV_neg e, ih]
theorem valV_snoc (k j : κ) (y : V) : ∀ kvs : List (κ × V), valV kvs k = none → valV (kvs ++ [(k, y)]) j = if j = k then some y else valV kvs j
  | [], _ => by
    by_cases e : k = j
    · rw [if_pos e.symm]; exact valV_pos (p := (k, y)) e
    · rw [if_neg (fun z => e z.symm)]; exact valV_neg (p := (k, y)) e
  | p :: r, hn => by
    rw [List.cons_append]
    have hk : ¬ p.1 = k := fun z => by rw [valV_pos z] at hn; cases hn
    rw [valV_neg hk] at hn
    have ih := valV_snoc k j y r hn
    by_cases e : p.1 = j
    · rw [valV_pos e, valV_pos e, if_neg (fun z => hk (e.trans z))]
    · rw [valV_neg e, valV_neg e, ih]
theorem valV_put (kvs : List (κ × V)) (k j : κ) (y : V) : valV (putK kvs k y) j = if j = k then some y else valV kvs j := by
  unfold putK
  by_cases a : (kvs.any fun kv => decide (kv.1 = k)) = true
  · rw [if_pos a, valV_map]
    rw [valV_any] at a
    by_cases e : j = k
    · obtain ⟨x, hx⟩ := Option.isSome_iff_exists.mp a
      rw [if_pos e, e, hx, Option.map_some, if_pos rfl]
    · rw [if_neg e]
      cases valV kvs j with
      | none => rfl
      | some x => rw [Option.map_some, if_neg e]
  · rw [if_neg a]
    refine valV_snoc k j y kvs ?_
    rw [valV_any] at a
    cases q : valV kvs k with
    | none => rfl
    | some x => rw [q] at a; exact (a rfl).elim
theorem length_putK (kvs : List (κ × V)) (k : κ) (v : V) : (putK kvs k v).length ≤ kvs.length + 1 := by
  unfold putK
  split
  · rw [List.length_map]; omega
  · rw [List.length_append, List.length_cons, List.length_nil]; omega
theorem RelO.isSome_eq {o : Option V} {u : Option Value} (r : RelO o u) : o.isSome = u.isSome := by
  cases o with
  | none => cases u with
    | none => rfl
    | some _ => exact (show False from r).elim
  | some _ => cases u with
    | none => exact (show False from r).elim
    | some _ => rfl
theorem RelO.getD {o : Option V} {u : Option Value} {d : V} {d' : Value} (r : RelO o u) (rd : RelV d d') : RelV (o.getD d) (u.getD d') := by
  cases o with
  | none => cases u with
    | none => exact rd
    | some _ => exact (show False from r).elim
  | some _ => cases u with
    | none => exact (show False from r).elim
    | some _ => exact r
theorem KV.val {kvs : List (κ × V)} {vs : List (κ × Value)} (r : KV kvs vs) (k : κ) : RelO (valV kvs k) (valueAt vs k) := by
  unfold KV at r
  induction r with
  | nil => exact True.intro
  | @cons p q ps qs h t ih =>
    obtain ⟨h1, h2⟩ := h
    by_cases e : p.1 = k
    · have e' : q.1 = k := h1.symm.trans e
      have b : valueAt (q :: qs) k = some q.2 := by simp [valueAt, List.find?_cons, e']
      rw [valV_pos e, b]; exact h2
    · have e' : ¬ q.1 = k := fun z => e (h1.trans z)
      have b : valueAt (q :: qs) k = valueAt qs k := by simp [valueAt, List.find?_cons, e']
      rw [valV_neg e, b]; exact ih
theorem KV.any {kvs : List (κ × V)} {vs : List (κ × Value)} (r : KV kvs vs) (k : κ) : (kvs.any fun kv => decide (kv.1 = k)) = vs.any fun kv => decide (kv.1 = k) := by
  unfold KV at r
  induction r with
  | nil => rfl
  | cons h t ih => rw [List.any_cons, List.any_cons, ih, h.1]
theorem KV.repl {kvs : List (κ × V)} {vs : List (κ × Value)} (r : KV kvs vs) (k : κ) {y : V} {u : Value} (ry : RelV y u) :
    KV (kvs.map fun kv => if kv.1 = k then (kv.1, y) else kv) (vs.map fun kv => if kv.1 = k then (kv.1, u) else kv) := by
  unfold KV at r ⊢
  induction r with
  | nil => exact .nil
  | @cons p q ps qs h t ih =>
    rw [List.map_cons, List.map_cons]
    refine .cons ?_ ih
    obtain ⟨h1, h2⟩ := h
    by_cases e : p.1 = k
    · rw [if_pos e, if_pos (h1.symm.trans e)]; exact ⟨h1, ry⟩
    · rw [if_neg e, if_neg (fun z => e (h1.trans z))]; exact ⟨h1, h2⟩
theorem KV.put {kvs : List (κ × V)} {vs : List (κ × Value)} (r : KV kvs vs) (k : κ) {y : V} {u : Value} (ry : RelV y u) : KV (putK kvs k y) (stored vs k u) := by
  unfold putK stored
  rw [r.any k]
  by_cases e : (vs.any fun kv => decide (kv.1 = k)) = true
  · rw [if_pos e, if_pos e]; exact r.repl k ry
  · rw [if_neg e, if_neg e]; exact Paired.snoc r ⟨rfl, ry⟩
theorem KV.drop {kvs : List (κ × V)} {vs : List (κ × Value)} (r : KV kvs vs) (k : κ) : KV (dropK kvs k) (without vs k) := by
  unfold KV at r ⊢
  unfold dropK without
  induction r with
  | nil => exact .nil
  | @cons p q ps qs h t ih =>
    obtain ⟨h1, h2⟩ := h
    rw [List.filter_cons, List.filter_cons]
    by_cases e : p.1 = k
    · have a : ¬ decide (p.1 ≠ k) = true := by simp [e]
      have b : ¬ decide (q.1 ≠ k) = true := by simp [h1.symm.trans e]
      rw [if_neg a, if_neg b]; exact ih
    · have e' : ¬ q.1 = k := fun z => e (h1.trans z)
      have a : decide (p.1 ≠ k) = true := by simp [e]
      have b : decide (q.1 ≠ k) = true := by simp [e']
      rw [if_pos a, if_pos b]; exact .cons ⟨h1, h2⟩ ih
theorem KV.keys {kvs : List (κ × V)} {vs : List (κ × Value)} (r : KV kvs vs) : kvs.map (·.1) = vs.map (·.1) := by
  unfold KV at r
  induction r with
  | nil => rfl
  | cons h t ih => rw [List.map_cons, List.map_cons, ih, h.1]
theorem KV.length {kvs : List (κ × V)} {vs : List (κ × Value)} (r : KV kvs vs) : kvs.length = vs.length := Paired.length r
end
theorem kV_is {P : Program} {w : World} {k : Key} {u : Value} (r : RelV (kV k) u) : (mixKind P w).is k u = true := by
  cases k with
  | inl i => obtain ⟨t, e⟩ := (show ∃ t, u = Value.int i t from r); subst e; exact mixKind_int P w i t
  | inr x => obtain ⟨t, e⟩ := (show ∃ t, u = Value.str x t from r); subst e; exact mixKind_str P w x t
theorem items_are {P : Program} {w : World} : ∀ {ks : List Key} {us : List Value}, Vals (ks.map kV) us → ItemsAre (mixKind P w) ks us
  | [], _, r => by rw [List.map_nil] at r; cases r; exact .nil
  | k :: ks, _, r => by
    rw [List.map_cons] at r
    cases r with
    | cons h t => exact .cons (kV_is h) (items_are t)
abbrev KT (H : Hp) : List (List Key × V) → List (List Key × Addr × Value) → Prop := Paired fun p q => p.1 = q.1 ∧ H q.2.1 = some (.tup (p.1.map kV)) ∧ RelV p.2 q.2.2
theorem KT.val {H : Hp} {kvs : List (List Key × V)} {xs : List (List Key × Addr × Value)} (r : KT H kvs xs) (k : List Key) : RelO (valV kvs k) ((atKey xs k).map (·.2)) := by
  induction r with
  | nil => exact True.intro
  | @cons p q ps qs h t ih =>
    obtain ⟨h1, _, h2⟩ := h
    by_cases e : p.1 = k
    · have e' : q.1 = k := h1.symm.trans e
      have b : atKey (q :: qs) k = some q.2 := by simp [atKey, List.find?_cons, e']
      rw [valV_pos e, b]; exact h2
    · have e' : ¬ q.1 = k := fun z => e (h1.trans z)
      have b : atKey (q :: qs) k = atKey qs k := by simp [atKey, List.find?_cons, e']
      rw [valV_neg e, b]; exact ih
theorem KT.repl {H : Hp} {kvs : List (List Key × V)} {xs : List (List Key × Addr × Value)} (r : KT H kvs xs) (k : List Key) {y : V} {u : Value} (ry : RelV y u) :
    KT H (kvs.map fun kv => if kv.1 = k then (kv.1, y) else kv) (xs.map (putAt k u)) := by
  induction r with
  | nil => exact .nil
  | @cons p q ps qs h t ih =>
    rw [List.map_cons, List.map_cons]
    refine .cons ?_ ih
    obtain ⟨h1, h2, h3⟩ := h
    unfold putAt
    by_cases e : p.1 = k
    · rw [if_pos e, if_pos (h1.symm.trans e)]; exact ⟨h1, h2, ry⟩
    · rw [if_neg e, if_neg (fun z => e (h1.trans z))]; exact ⟨h1, h2, h3⟩
theorem KT.put {H : Hp} {kvs : List (List Key × V)} {xs : List (List Key × Addr × Value)} (r : KT H kvs xs) (k : List Key) {b : Addr} {y : V} {u : Value} (hb : H b = some (.tup (k.map kV))) (ry : RelV y u) :
    KT H (putK kvs k y) (storedH xs k b u) := by
  have e : (kvs.any fun kv => decide (kv.1 = k)) = (atKey xs k).isSome := by
    rw [valV_any, (r.val k).isSome_eq, Option.isSome_map]
  unfold putK storedH
  rw [e]
  by_cases q : (atKey xs k).isSome = true
  · rw [if_pos q, if_pos q]; exact r.repl k ry
  · rw [if_neg q, if_neg q]; exact Paired.snoc r ⟨rfl, hb, ry⟩
theorem KT.keeps {H H' : Hp} {kvs : List (List Key × V)} {xs : List (List Key × Addr × Value)} (r : KT H kvs xs) (ht : ∀ b ys, H b = some (.tup ys) → H' b = some (.tup ys)) : KT H' kvs xs :=
  Paired.mapP r fun _ _ z => ⟨z.1, ht _ _ z.2.1, z.2.2⟩
section
variable {P : Program} {w : World} {H : Hp} {h : Heap} {a : Addr}
theorem rd_of {u : HO} (ok : HOk P w H h) (e : Rd H a u) : ObjOk P w H h a u := e.ok ok
theorem dk_rd {kvs : List (Key × V)} (ok : HOk P w H h) (e : Rd H a (.dK kvs)) : kvs.length ≤ sizeLine ∧ (a == sysModules) = false ∧ ∃ vs, KV kvs vs ∧ h.DictOf (mixKind P w) a vs :=
  show ObjOk P w H h a (.dK kvs) from rd_of ok e
theorem dk_of {kvs : List (Key × V)} (ok : HOk P w H h) (e : H a = some (.dK kvs)) : kvs.length ≤ sizeLine ∧ (a == sysModules) = false ∧ ∃ vs, KV kvs vs ∧ h.DictOf (mixKind P w) a vs := dk_rd ok (.inl e)
theorem key_of {ks : List Key} (ok : HOk P w H h) (e : H a = some (.tup (ks.map kV))) : (tupleKind (mixKind P w)).is h ks a := by
  obtain ⟨_, its, r, o, h1, h2, n, h3⟩ := (show ObjOk P w H h a (.tup (ks.map kV)) from ok a _ e)
  exact ⟨o, its.toArray, n, h1, h2, h3, by simpa using items_are r⟩
theorem dt_rd {kvs : List (List Key × V)} (ok : HOk P w H h) (e : Rd H a (.dT kvs)) : kvs.length ≤ sizeLine ∧ (a == sysModules) = false ∧
    ∃ xs, KT H kvs xs ∧ h.DictOfH (tupleKind (mixKind P w)) a xs := by
  obtain ⟨z, y, xs, r, o, es, ep, h1, h2, h3, h4, h5⟩ := (show ObjOk P w H h a (.dT kvs) from rd_of ok e)
  refine ⟨z, y, xs, r, o, es, ep, h1, h2, h3, h4, fun x hx => ?_, h5⟩
  have all : ∀ {l : List (List Key × V)} {m : List (List Key × Addr × Value)}, KT H l m → ∀ x ∈ m, (tupleKind (mixKind P w)).is h x.1 x.2.1 := by
    intro l m q
    induction q with
    | nil => intro x hx; exact nomatch hx
    | @cons p q ps qs hq t ih =>
      intro x hx
      rcases List.mem_cons.mp hx with e | hx
      · subst e
        exact key_of ok (by rw [← hq.1]; exact hq.2.1)
      · exact ih x hx
  exact all r x hx
end
def DGet (H : Hp) (a : Addr) (y : V) (r : Option V) : Prop :=
  (∃ kvs k, Rd H a (.dK kvs) ∧ y = kV k ∧ r = valV kvs k) ∨ ∃ kvs k b, Rd H a (.dT kvs) ∧ y = .ref b ∧ H b = some (.tup (k.map kV)) ∧ r = valV kvs k
def DPut (H : Hp) (a : Addr) (y v : V) (H' : Hp) : Prop :=
  (∃ kvs k, H a = some (.dK kvs) ∧ y = kV k ∧ kvs.length < sizeLine ∧ H' = upd H a (.dK (putK kvs k v))) ∨
  ∃ kvs k b, H a = some (.dT kvs) ∧ y = .ref b ∧ H b = some (.tup (k.map kV)) ∧ kvs.length < sizeLine ∧ H' = upd H a (.dT (putK kvs k v))
theorem DGet.k {H : Hp} {a : Addr} {kvs : List (Key × V)} {k : Key} (e : H a = some (.dK kvs)) : DGet H a (kV k) (valV kvs k) := .inl ⟨kvs, k, .inl e, rfl, rfl⟩
theorem DGet.t {H : Hp} {a b : Addr} {kvs : List (List Key × V)} {k : List Key} (e : H a = some (.dT kvs)) (eb : H b = some (.tup (k.map kV))) : DGet H a (.ref b) (valV kvs k) := .inr ⟨kvs, k, b, .inl e, rfl, eb, rfl⟩
theorem DPut.k {H : Hp} {a : Addr} {kvs : List (Key × V)} {k : Key} {v : V} (e : H a = some (.dK kvs)) (hl : kvs.length < sizeLine) : DPut H a (kV k) v (upd H a (.dK (putK kvs k v))) := .inl ⟨kvs, k, e, rfl, hl, rfl⟩
theorem DPut.t {H : Hp} {a b : Addr} {kvs : List (List Key × V)} {k : List Key} {v : V} (e : H a = some (.dT kvs)) (eb : H b = some (.tup (k.map kV))) (hl : kvs.length < sizeLine) :
    DPut H a (.ref b) v (upd H a (.dT (putK kvs k v))) := .inr ⟨kvs, k, b, e, rfl, eb, hl, rfl⟩
section
variable {X : Cx} {pins : List (Addr × Obj)} {σ : St} {H : Hp} {s : Shared} {a : Addr} {y v : V} {u r : Value} {o : Option V} {A : Around} {E : Value → Shared → Prop}
theorem Inv.big (I : Inv X pins σ H s) : sysModules < s.heap.objs.size := by
  have h : mainGlobals < s.heap.objs.size := (I.mod.glob.keeps I.bk).lt
  exact Nat.lt_trans (by decide) h
theorem d_getItem {Q : Value → Shared → Prop} (hu : A.units + 1 < cLine) (I : Inv X pins σ H s) (g : DGet H a y (some v)) (ry : RelV y u) (h : ∀ w' s', Inv X pins σ H s' → RelV v w' → Q w' s') :
    wpAny (model X.prog X.w) A (getItem (.ref a) u) Q E s := by
  rcases g with ⟨kvs, k, e, ey, l⟩ | ⟨kvs, k, b, e, ey, eb, l⟩
  · subst ey
    obtain ⟨z, hd, vs, rel, dd⟩ := dk_rd I.hok e
    obtain ⟨w', hw, rw'⟩ := RelO.some_of (v := v) (o := valueAt vs k) (by rw [l]; exact rel.val k)
    exact wpAny_getItem_of (kV_is ry) dd.mapOf hw (h w' _ (I.tok _) rw')
  · subst ey
    cases (show u = Value.ref b from ry)
    obtain ⟨z, hd, xs, rel, dd⟩ := dt_rd I.hok e
    obtain ⟨w', hw, rw'⟩ := RelO.some_of (v := v) (o := (atKey xs k).map (·.2)) (by rw [l]; exact rel.val k)
    obtain ⟨p, hp, hp2⟩ := Option.map_eq_some_iff.mp hw
    refine wpAny_getItem_heap (tupleKind_room_in1 hu) (key_of I.hok eb) dd hp ?_
    rw [hp2]
    exact h w' _ (I.tok _) rw'
theorem d_write {h' : Heap} {t' : Nat} {ob : HO} (I : Inv X pins σ H s) (mu : Mut (H a)) (hs : Heap.SameBut a s.heap h') (he : ∃ q, h'.get? a = some q) (new : ObjOk X.prog X.w (upd H a ob) h' a ob) :
    Inv X pins σ (upd H a ob) { s with heap := h', toks := t' } :=
  I.write (x := a) (e := a) mu (.inl rfl) (fun b q hb z => (hs.2 b hb).trans z) he new
theorem dk_new {P : Program} {w : World} {H' : Hp} {h' : Heap} {kvs : List (Key × V)} {vs : List (Key × Value)} (z : kvs.length ≤ sizeLine) (hd : (a == sysModules) = false) (rel : KV kvs vs) (dd : h'.DictOf (mixKind P w) a vs) :
    ObjOk P w H' h' a (.dK kvs) := ⟨z, hd, vs, rel, dd⟩
end
section
variable {X : Cx} {pins : List (Addr × Obj)} {σ : St} {H : Hp} {s : Shared} {a : Addr} {kvs : List (Key × V)} {k : Key} {u : Value} {A : Around} {E : Value → Shared → Prop}
end
def NoSl (i : Expr) : Prop := ∀ ov iv, subscripted i false ov iv = operate [ov, iv] (getItem ov iv)
theorem subD_of {prog : Program} {w : World} {A : Around} {E : Value → Shared → Prop} {s : Shared} {env : Env} {value slice : Expr} {pos : Pos} {T id : String} {Q : Value → Shared → Prop}
    (hl : typeLookup (.type T) "__getitem__" = pure (some (.builtin id))) (hs : NoSl slice)
    (h : wpAny (model prog w) A (eval value env) (fun o s₁ => wpAny (model prog w) A (eval slice env) (fun i s₂ => s₂.TypeIs o T ∧ wpAny (model prog w) A (getItem o i) Q E s₂) E s₁) E s) :
    wpAny (model prog w) A (eval (.Subscript value slice pos) env) Q E s := by
  refine Subscript_ (wpAny_mono h (fun o s₁ h₁ => wpAny_mono h₁ (fun i s₂ h₂ => ?_) fun _ _ x => x) fun _ _ x => x)
  obtain ⟨hT, h₂⟩ := h₂
  unfold subscriptTail
  refine wpAny_bind ?_
  rw [getitemInPython_of_ne hT.not_modules]
  refine wpAny_bind (wpAny_specialOf hT hl ?_)
  have fin : wpAny (model prog w) A (subscripted slice false o i) (fun r s₃ => wpAny (model prog w) A (letTemporaryGo value o r >>= fun _ => pure r) Q E s₃) E s₂ := by
    rw [hs o i]
    exact wpAny_operating (wpAny_mono h₂ (fun r s₃ h₃ => wpAny_bind (wpAny_letTemporaryGo (wpAny_pure h₃))) fun _ _ x => x)
  first
    | exact wpAny_pure (wpAny_bind fin)
    | exact wpAny_bind (wpAny_pure (wpAny_bind fin))
    | exact wpAny_bind fin
theorem dict_typeIs {X : Cx} {pins : List (Addr × Obj)} {σ : St} {H : Hp} {s : Shared} {a : Addr} {y : V} {o : Option V} (I : Inv X pins σ H s) (g : DGet H a y o) : s.TypeIs (.ref a) "dict" := by
  rcases g with ⟨kvs, k, e, _, _⟩ | ⟨kvs, k, b, e, _, _, _⟩
  · obtain ⟨_, _, vs, _, dd⟩ := dk_rd I.hok e
    exact dd.typeIs
  · obtain ⟨_, _, xs, _, dd⟩ := dt_rd I.hok e
    exact dd.typeIs
def tDGet (td ty : TE) : TE := fun σ H Q => td σ H fun x H1 => ty σ H1 fun y H2 => ∃ a v, x = .ref a ∧ DGet H2 a y (some v) ∧ Q v H2
def sDPut (td ty tv : TE) : TS := fun D σ H => tv σ H fun v H1 => td σ H1 fun x H2 => ty σ H2 fun y H3 => ∃ a H4, x = .ref a ∧ DPut H3 a y v H4 ∧ D.nx σ H4
section
variable {X : Cx} {o i e value : Expr} {pos pos' tpos : Pos} {td ty tv : TE}
theorem pe_dget (hu : X.A.units + 1 < cLine) (ho : PE X o td) (hi : PE X i ty) (hs : NoSl i) : PE X (.Subscript o i pos) (tDGet td ty) := by
  intro pins s σ H Q I h
  refine subD_of PySem.F.slot_dict_getitem.lookup hs (thn (ho pins s σ H _ I h) fun u s1 ⟨x, H1, I1, rx, q1⟩ => thn (hi pins s1 σ H1 _ I1 q1) fun iv s2 ⟨y, H2, I2, ry, a, v, ex, g, q2⟩ => ?_)
  subst ex
  obtain rfl : u = Value.ref a := rx
  exact ⟨dict_typeIs I2 g, d_getItem hu I2 g ry fun w' s3 I3 rw' => ⟨v, H2, I3, rw', q2⟩⟩
end
theorem dk_empty {P : Program} {w : World} {H : Hp} (h : Heap) (hb : sysModules < h.objs.size) : ObjOk P w H (h.push { cls := .type "dict", data := .dict #[] }) h.objs.size (.dK []) :=
  ⟨Nat.zero_le _, beq_eq_false_iff_ne.mpr (Ne.symm (Nat.ne_of_lt hb)), [], .nil, Heap.DictOf.new h⟩
def tDNewK : TE := fun _ H Q => ∀ p, H p = none → Q (.ref p) (upd H p (.dK []))
section
variable {X : Cx} {pos : Pos}
end
def tPairs : List (TE × TE) → St → Hp → (List (V × V) → Hp → Prop) → Prop
  | [], _, H, Q => Q [] H
  | (tk, tv) :: r, σ, H, Q => tk σ H fun x H1 => tv σ H1 fun y H2 => tPairs r σ H2 fun ps H3 => Q ((x, y) :: ps) H3
abbrev VV : List (V × V) → List (Value × Value) → Prop := Paired fun p q => RelV p.1 q.1 ∧ RelV p.2 q.2
def PPs (X : Cx) (pos : Pos) (keys : List (Option Expr)) (values : List Expr) (trs : List (TE × TE)) : Prop :=
  ∀ (pins : List (Addr × Obj)) (s : Shared) (σ : St) (H : Hp) (Q : List (V × V) → Hp → Prop), Inv X pins σ H s → tPairs trs σ H Q →
    wpAny (model X.prog X.w) X.A (evalPairs (pairTrees keys values X.env pos)) (fun vs s' => ∃ ps H', Inv X pins σ H' s' ∧ VV ps vs ∧ Q ps H') X.xe s
theorem pps_nil {X : Cx} {pos : Pos} : PPs X pos [] [] [] := fun pins s σ H Q I h => pairTrees_nil_walk ⟨[], H, I, .nil, h⟩
theorem pps_cons {X : Cx} {pos : Pos} {k v : Expr} {ks : List (Option Expr)} {vs : List Expr} {tk tv : TE} {trs : List (TE × TE)} (hk : PE X k tk) (hv : PE X v tv) (hr : PPs X pos ks vs trs) :
    PPs X pos (some k :: ks) (v :: vs) ((tk, tv) :: trs) := fun pins s σ H Q I h =>
  pairTrees_cons_walk (thn (hk pins s σ H _ I h) fun u s1 ⟨x, H1, I1, rx, q1⟩ => thn (hv pins s1 σ H1 _ I1 q1) fun w2 s2 ⟨y, H2, I2, ry, q2⟩ =>
    thn (hr pins s2 σ H2 _ I2 q2) fun ws s3 ⟨ps, H3, I3, rel, q3⟩ => ⟨(x, y) :: ps, H3, I3, .cons ⟨rx, ry⟩ rel, q3⟩)
def mergeK (kvs more : List (Key × V)) : List (Key × V) := more.foldl (fun acc kv => putK acc kv.1 kv.2) kvs
theorem KV.merge : ∀ {more : List (Key × V)} {rs : List (Key × Value)} {kvs : List (Key × V)} {vs : List (Key × Value)}, KV more rs → KV kvs vs → KV (mergeK kvs more) (merged vs rs) := by
  intro more rs kvs vs r
  unfold KV at r
  induction r generalizing kvs vs with
  | nil => intro q; exact q
  | @cons p q ps qs h t ih =>
    intro r0
    have e : KV (putK kvs p.1 p.2) (stored vs q.1 q.2) := by
      have := r0.put p.1 h.2
      rw [← h.1]; exact this
    exact ih e
theorem length_mergeK : ∀ (more kvs : List (Key × V)), (mergeK kvs more).length ≤ kvs.length + more.length
  | [], kvs => by show kvs.length ≤ kvs.length + 0; omega
  | p :: r, kvs => by
    have h1 := length_mergeK r (putK kvs p.1 p.2)
    have h2 := length_putK kvs p.1 p.2
    show (mergeK (putK kvs p.1 p.2) r).length ≤ _
    rw [List.length_cons]; omega
theorem carries_of {P : Program} {w : World} : ∀ {kvs : List (Key × V)} {ws : List (Value × Value)}, VV (kvs.map fun kv => (kV kv.1, kv.2)) ws → ∃ rs, Carries (mixKind P w) ws rs ∧ KV kvs rs
  | [], _, r => by rw [List.map_nil] at r; cases r; exact ⟨[], True.intro, .nil⟩
  | p :: kvs, _, r => by
    rw [List.map_cons] at r
    cases r with
    | @cons a b as bs h t =>
      obtain ⟨rs, c, q⟩ := carries_of (P := P) (w := w) t
      obtain ⟨b1, b2⟩ := b
      exact ⟨(p.1, b2) :: rs, ⟨kV_is h.1, rfl, c⟩, .cons ⟨rfl, h.2⟩ q⟩
def tDisp (trs : List (TE × TE)) : TE := fun σ H Q => ∀ p, H p = none → tPairs trs σ (upd H p (.dK [])) fun ps H2 => H2 p = some (.dK []) ∧ ∃ kvs : List (Key × V), ps = kvs.map (fun kv => (kV kv.1, kv.2)) ∧ kvs.length ≤ 15 ∧ Q (.ref p) (upd H2 p (.dK (mergeK [] kvs)))
theorem pe_disp {X : Cx} {pos : Pos} {keys : List (Option Expr)} {values : List Expr} {trs : List (TE × TE)} (h : PPs X pos keys values trs) (hall : keys.all (·.isSome) = true) (hl : keys.length = values.length) (h0 : keys ≠ [])
    (h15 : keys.length ≤ 15) : PE X (.Dict keys values pos) (tDisp trs) := by
  intro pins s σ H Q I q
  have hn := I.hok.fresh (Nat.le_refl s.heap.objs.size)
  have I1 := I.laid (a := s.heap.objs.size) (o := .dK []) (h' := s.heap.push { cls := .type "dict", data := .dict #[] }) (t' := s.toks) (fun _ _ q => Heap.get?_push_of_some _ q) (Nat.le_refl _) (dk_empty s.heap I.big)
  refine wpAny_Dict_walk (knd := mixKind X.prog X.w) hall hl h0 h15 (thn (h pins _ σ _ _ I1 (q _ hn)) fun ws s2 ⟨ps, H2, I2, rel, e, kvs, ep, lk, q2⟩ => ?_)
  subst ep
  obtain ⟨rs, c, rk⟩ := carries_of (P := X.prog) (w := X.w) rel
  obtain ⟨z, hd, vs0, r0, dd⟩ := dk_of I2.hok e
  cases r0
  refine ⟨rs, c, dd, fun h' dd' hs => ⟨.ref s.heap.objs.size, _, ?_, rfl, q2⟩⟩
  have hz : (mergeK [] kvs).length ≤ sizeLine := by
    have h1 := length_mergeK kvs []
    rw [List.length_nil] at h1
    rw [sizeLine_eq]; omega
  have he : ∃ q, h'.get? s.heap.objs.size = some q := let ⟨q, _, _, hq, _⟩ := dd'; ⟨q, hq⟩
  exact d_write I2 (by rw [e]; exact True.intro) hs he (dk_new hz hd (rk.merge .nil) dd')
structure M1 (X : Cx) (o : Expr) (m : Str) (apos : Pos) (e : Expr) (cpos : Pos) : Prop where
  base : attributeBase o m X.env (eval o X.env) = eval o X.env
  few : ((backTo cpos (starEach [e] X.env)).all (fun x => !x.1) && (backToKw cpos (keywordEach [] X.env)).all (fun x => x.1.isSome)
    && decide (([e] : List Expr).length + ([] : List Keyword).length + (if ([] : List Keyword).isEmpty then 0 else 1) < 30)) = true
  line : (apos.endLine == cpos.line) = true
  trees : backTo cpos (starEach [e] X.env) = [(false, eval e X.env)]
structure M2 (X : Cx) (o : Expr) (m : Str) (apos : Pos) (e f : Expr) (cpos : Pos) : Prop where
  base : attributeBase o m X.env (eval o X.env) = eval o X.env
  few : ((backTo cpos (starEach [e, f] X.env)).all (fun x => !x.1) && (backToKw cpos (keywordEach [] X.env)).all (fun x => x.1.isSome)
    && decide (([e, f] : List Expr).length + ([] : List Keyword).length + (if ([] : List Keyword).isEmpty then 0 else 1) < 30)) = true
  line : (apos.endLine == cpos.line) = true
  trees : backTo cpos (starEach [e, f] X.env) = [(false, eval e X.env), (false, eval f X.env)]
def IsD (H : Hp) (a : Addr) : Prop := (∃ kvs, Rd H a (.dK kvs)) ∨ ∃ kvs, Rd H a (.dT kvs)
section
variable {X : Cx} {pins : List (Addr × Obj)} {σ : St} {H : Hp} {s : Shared} {a : Addr} {y d : V} {u r : Value} {o : Option V} {A : Around} {E : Value → Shared → Prop}
end
def tDGet1 (td ty : TE) : TE := fun σ H Q => td σ H fun x H1 => ∃ a, x = .ref a ∧ IsD H1 a ∧ ty σ H1 fun y H2 => ∃ o, DGet H2 a y o ∧ Q (o.getD .non) H2
def tDGet2 (td ty tx : TE) : TE := fun σ H Q => td σ H fun x H1 => ∃ a, x = .ref a ∧ IsD H1 a ∧ ty σ H1 fun y H2 => tx σ H2 fun z H3 => ∃ o, DGet H3 a y o ∧ Q (o.getD z) H3
def tDPop1 (td ty : TE) : TE := fun σ H Q => td σ H fun x H1 => ∃ a, x = .ref a ∧ IsD H1 a ∧ ty σ H1 fun y H2 => ∃ kvs k v, H2 a = some (.dK kvs) ∧ y = kV k ∧ valV kvs k = some v ∧ Q v (upd H2 a (.dK (dropK kvs k)))
section
variable {X : Cx} {o e f : Expr} {apos cpos : Pos} {td ty tx : TE}
end
section
variable {X : Cx} {pins : List (Addr × Obj)} {σ : St} {H : Hp} {s : Shared} {a : Addr} {kvs : List (Key × V)} {A : Around} {E : Value → Shared → Prop}
end
section
variable {X : Cx} {pins : List (Addr × Obj)} {σ : St} {H : Hp} {s : Shared} {a : Addr} {y : V} {u : Value} {A : Around} {E : Value → Shared → Prop}
end
end L2
namespace L2
open PySem PySem.Spec PyProof.Rows
section
variable {X : Cx}
end
section
variable {κ : Type} [DecidableEq κ]
end
end L2
namespace L2
open PySem PySem.Spec PyProof.Rows
structure FunD (K : PySem.W.Frag) (x qual : Str) (st : Stmt) (f : Addr) (fd : FuncData) (dvs : List V) : Prop where
  ex : ∃ (oc : Value) (od : Option Addr) (Td : Addr) (kV doc pm : Value) (an : Option Addr) (cdv ct : Value) (osl : Array (Option Value)) (ot : Obj) (its : List Value) (nt : Nat),
    fd = PySem.W.fnOf x qual (defArgs st) (defBody st) (defScope st) (.ref Td) kV doc pm an cdv ct ∧ K.lookup f = some ⟨oc, od, .func fd, osl⟩ ∧ PySem.W.codeIn K cdv qual = true ∧ K.lookup Td = some ot ∧ ot.data = .seq its.toArray nt ∧ Vals dvs its
  kp : PySem.W.keepIn K (.ref f) = true
section
variable {P : Program} {w : World} {K : PySem.W.Frag} {mg : Str → Option Value} {base : Heap}
theorem FunD.ok {x qual : Str} {st : Stmt} {f : Addr} {fd : FuncData} {N ps : List Str} {k : Nat} {sp : Sp} {dvs : List V} (F : FunD K x qual st f fd dvs) (S : FnScope N ps (defScope st)) (len : ∀ vs H Q E, sp vs H Q E → vs.length = ps.length)
    (hbody : ∀ (cdv : Value) (A : Around) (outer : List Env) (s : Shared) (H : Hp) (vs : List V) (Q : VK) (E : XK), Room k (A.deeper (envOfC qual (defScope st) s.heap.objs.size f cdv)) → sp vs H Q E →
      ∃ t, PSs (cxOf CX0 P w K mg base N qual (defScope st) f cdv A outer s H E).nox (defBody st) t ∧ t { nx := fun _ H' => Q .non H', rt := Q } (start N vs) H) : FnOk P w K mg base CX0 (k + 1) f fd ps sp := by
  obtain ⟨oc, od, Td, kV, doc, pm, an, cdv, ct, osl, ot, its, nt, rfl, lk, hcd, _⟩ := F.ex
  refine fn_of lk hcd S len fun A outer s H vs Q E hr hsp => ?_
  obtain ⟨t, h, q⟩ := hbody cdv A outer s H vs Q E hr hsp
  exact ⟨t, h.nox, q⟩
theorem FunD.okX {x qual : Str} {st : Stmt} {f : Addr} {fd : FuncData} {N ps : List Str} {k : Nat} {sp : Sp} {dvs : List V} (F : FunD K x qual st f fd dvs) (S : FnScope N ps (defScope st)) (len : ∀ vs H Q E, sp vs H Q E → vs.length = ps.length)
    (hbody : ∀ (cdv : Value) (A : Around) (outer : List Env) (s : Shared) (H : Hp) (vs : List V) (Q : VK) (E : XK), Room k (A.deeper (envOfC qual (defScope st) s.heap.objs.size f cdv)) → sp vs H Q E →
      ∃ t, PSs (cxOf (CX1 P w) P w K mg base N qual (defScope st) f cdv A outer s H E) (defBody st) t ∧ t { nx := fun _ H' => Q .non H', rt := Q } (start N vs) H) : FnOk P w K mg base (CX1 P w) (k + 1) f fd ps sp := by
  obtain ⟨oc, od, Td, kV, doc, pm, an, cdv, ct, osl, ot, its, nt, rfl, lk, hcd, _⟩ := F.ex
  exact fn_of lk hcd S len fun A outer s H vs Q E hr hsp => hbody cdv A outer s H vs Q E hr hsp
theorem FunD.binds {x qual : Str} {st : Stmt} {f : Addr} {fd : FuncData} {ps : List Str} {dvs : List V} (F : FunD K x qual st f fd dvs) (n : Nat)
    (h : ∀ (Td : Addr) (kV doc pm : Value) (an : Option Addr) (cdv ct : Value) (its us : List Value), its.length = dvs.length → (us ++ its.drop n).length = ps.length →
      ∃ k, bindArgs (PySem.W.fnOf x qual (defArgs st) (defBody st) (defScope st) (.ref Td) kV doc pm an cdv ct) ⟨us, []⟩ = (seqItems? (.ref Td) >>= k) ∧ k (some its.toArray) = pure (ps.zip (us ++ its.drop n))) : ∃ ds, Binds K fd ps ds ∧ Vals (dvs.drop n) ds := by
  obtain ⟨oc, od, Td, kV, doc, pm, an, cdv, ct, osl, ot, its, nt, rfl, lk, hcd, lt, hdt, hv⟩ := F.ex
  refine ⟨its.drop n, fun s us X hl => ?_, hv.drop n⟩
  obtain ⟨k, e1, e2⟩ := h Td kV doc pm an cdv ct its us hv.length.symm hl
  exact PySem.W.binds_K X rfl lt hdt e1 e2
end
structure ClsFn (K : PySem.W.Frag) (C : Addr) (m : Str) (f : Addr) : Prop where
  ga : PySem.W.specialIn K (.ref C) "__getattribute__" = some (some (.builtin "type.__getattribute__"))
  rd : PySem.W.readsIn K C (.type "type") = true
  fi : PySem.W.findCls K (.ref C) (.type "type") m = some (.val (.ref f))
section
variable {X : Cx} {CX : CXT} {k : Nat} {f C : Addr} {fd : FuncData} {ps ks : List Str} {sp : Sp} {dvs : List V} {ds : List Value} {E : XK} {x m : Str} {p pos apos : Pos} {e o : Expr} {es : List Expr} {ta : TE} {t tk : TA} {kws : List Keyword}
inductive MTab (X : Cx) (CX : CXT) (m : Str) : List (Addr × Sp) → Prop
  | nil : MTab X CX m []
  | cons {C f : Addr} {fd : FuncData} {ps : List Str} {sp : Sp} {k : Nat} {r : List (Addr × Sp)} (c : Cls X.K C) (hm : Meth X.K C m f) (F : FnOk X.prog X.w X.K X.mg X.base CX k f fd ps sp) (hr : Room k X.A) (hb : Binds X.K fd ps []) (t : MTab X CX m r) : MTab X CX m ((C, sp) :: r)
theorem MTab.get {tab : List (Addr × Sp)} (T : MTab X CX m tab) {C : Addr} {sp : Sp} (h : (C, sp) ∈ tab) : ∃ f fd ps k, Cls X.K C ∧ Meth X.K C m f ∧ FnOk X.prog X.w X.K X.mg X.base CX k f fd ps sp ∧ Room k X.A ∧ Binds X.K fd ps [] := by
  induction T with
  | nil => cases h
  | cons c hm F hr hb t ih =>
    rcases List.mem_cons.mp h with z | z
    · cases z
      exact ⟨_, _, _, _, c, hm, F, hr, hb⟩
    · exact ih z
def tMethD (tab : List (Addr × Sp)) (m : Str) (E : XK) (ta : TE) (t : TA) : TE := fun σ H Q => ta σ H fun x H1 => ∃ a C dx fs sp, x = .ref a ∧ H1 a = some (.ins C dx fs) ∧ (C, sp) ∈ tab ∧ fs.lookup m = none ∧ t σ H1 fun vs H2 => sp (x :: vs) H2 Q E
theorem pe_methD0 {pl : Sem Bool} {tab : List (Addr × Sp)} (he : PE X o ta) (T : MTab X CX m tab) (hx : Passes CX X E)
    (ht : eval (.Call (.Attribute o m apos) [] [] pos) X.env = (do
      let ov ← eval o X.env
      standAt apos.atName
      let (f, first) ← holding [ov] (getMethod ov m pl)
      callWith pos f first (backTo pos (starEach [] X.env)) (backToKw pos (keywordEach [] X.env))) := by rfl) :
    PE X (.Call (.Attribute o m apos) [] [] pos) (tMethD tab m E ta tNil) := by
  intro pins s σ H Q I h
  refine PySem.W.methodCall_KW (pl := pl) (thn (he pins s σ H _ I h) fun u s1 ⟨y, H1, I1, rx, a, C, dx, fs, sp, ex, ea, hmem, l, q⟩ => ?_) ht
  subst ex
  obtain rfl : u = Value.ref a := rx
  obtain ⟨f, fd, ps, k, c, hm, F, hr, hb⟩ := T.get hmem
  refine getmeth_ok I1 ea c hm l ?_
  exact PySem.W.callWith_K0 (first := [.ref a]) I1.kIn hm.kp (run_fn (us := [.ref a]) (vs := [.ref a]) (dvs := []) (ds := []) F hr hb .nil hx I1 (.cons rfl .nil) q)
def tMakeK (C : Addr) (sp : Sp) (gV : List V → List V → List V) (E : XK) (t tk : TA) : TE := fun σ H Q => t σ H fun vs H1 => tk σ H1 fun zs H2 => ∀ y dx, H2 y = none → H2 dx = none → dx ≠ y →
  sp (gV (.ref y :: vs) zs) (upd (upd H2 dx (.own y)) y (.ins C dx [])) (fun v H3 => v = .non ∧ Q (.ref y) H3) E
variable {g : List Value → List Value → List Value} {gV : List V → List V → List V}
end
structure InsTy (K : PySem.W.Frag) (C : Addr) : Prop where
  cl : Cls K C
  ha : PySem.W.findIn K (.ref C) "__class__" = some (some (.builtin "object.__class__"))
  hn : PySem.W.specialIn K (.builtin "object.__class__") "__get__" = some (some (.builtin "getset_descriptor.__get__"))
  htk : PySem.W.takesIn K (.builtin "object.__class__") = some true
  hm : PySem.W.mroIn K C (.type "object") = some true
theorem InsTy.of {K : PySem.W.Frag} {C a dx : Addr} {H : Hp} {fs : List (Str × V)} (z : InsTy K C) (h : H a = some (.ins C dx fs)) : TyOf K H (.ref a) (.ref C) := .ins h z.cl z.ha z.hn z.htk z.hm
end L2
namespace L2
open PySem PySem.Spec PyProof.Rows
def signs (x : Str) : List V := x.cps.toList.map fun c => V.str ⟨#[c]⟩
def Itst (x : Str) : It := ⟨fun i _ => i < x.cps.size, fun i H v H' => H' = H ∧ (signs x)[i]? = some v, fun i _ => x.cps.size ≤ i⟩
section
variable {X : Cx} {K : PySem.W.Frag} {tg : Expr}
def iStr (tl : TE) : TI := fun σ H R => tl σ H fun x H1 => ∃ z, x = .str z ∧ R (Itst z) H1
variable {σ : St} {H : Hp} {R : It → Hp → Prop} {tl : TE} {cap : List (Option Nat)} {g : TG} {tt : TT} {te : TE} {Q : VK} {x : Str}
theorem ap_iStr : iStr tl σ H R = tl σ H fun x H1 => ∃ z, x = .str z ∧ R (Itst z) H1 := rfl
theorem CompP.str (Sσ : St → Prop) (p : V → Bool) (F : V → V) (h0 : Sσ (capSt σ cap)) (hz : x.cps.size ≤ sizeLine)
    (hs : ∀ y ∈ signs x, ∀ (σ : St) (H5 : Hp) (R1 : St → VK) (R2 : St → Hp → Prop), Sσ σ → Same H H5 → (p y = true → ∀ σ4 H6, Sσ σ4 → Same H5 H6 → R1 σ4 (F y) H6) → (p y = false → ∀ σ4 H6, Sσ σ4 → Same H5 H6 → R2 σ4 H6) →
      g y σ H5 fun σ4 H4 => tt σ4 H4 fun b H5 => if b = true then te σ4 H5 (R1 σ4) else R2 σ4 H5)
    (k : ∀ D H', H D = Option.none → Same H H' → H' D = some (.lst (((signs x).filter p).map F)) → Q (.ref D) H') : CompP cap (Itst x) g tt te σ H Q := fun D hD => by
  have hl : (signs x).length = x.cps.size := by simp [signs]
  refine comp_step (xs := signs x) (Itst x) Sσ p F hD h0 (by omega) (fun i y H' hy sm => ?_) (fun H' sm => ?_) hs fun H' s e => k D H' hD s e
  · have hi : i < (signs x).length := (List.getElem?_eq_some_iff.mp hy).1
    exact ⟨by show i < x.cps.size; omega, fun z H2 hz => ⟨Option.some.inj (hz.2.symm.trans hy), hz.1⟩⟩
  · show x.cps.size ≤ _
    omega
def rLeS : R2 := fun x y H Q => ∃ i j, x = .str i ∧ y = .str j ∧ Q (.bl (!decide (j.cps.toList < i.cps.toList))) H
def rInD (neg : Bool) : R2 := fun y x H Q => ∃ a o, x = .ref a ∧ DGet H a y o ∧ Q (.bl (if neg then !o.isSome else o.isSome)) H
def rDictOf : List V → Hp → VK → Prop := fun xs H Q => ∃ a kvs, xs = [.ref a] ∧ Rd H a (.dK kvs) ∧ ∀ p, H p = none → Q (.ref p) (upd H p (.dK kvs))
variable {ta tv ty td tx : TE} {f : Str} {D : Ends} {C : Addr} {tab : List (Addr × Sp)} {m : Str} {E : XK} {t tk : TA} {sp : Sp} {dvs : List V} {gV : List V → List V → List V}
theorem ap_fldK : tFld K ta f σ H Q = ta σ H fun x H1 => ∃ a C dx fs v, x = .ref a ∧ H1 a = some (.ins C dx fs) ∧ Cls K C ∧ NoAttr K C f ∧ fs.lookup f = some v ∧ Q v H1 := rfl
theorem ap_sFld : sFld K ta tv f D σ H = tv σ H fun y H1 => ta σ H1 fun x H2 => ∃ a C dx fs, x = .ref a ∧ H2 a = some (.ins C dx fs) ∧ Cls K C ∧ NoAttr K C f ∧ fs.length < 1000 ∧ D.nx σ (upd H2 a (.ins C dx (putF f y fs))) := rfl
theorem ap_methD : tMethD tab m E ta t σ H Q = ta σ H fun x H1 => ∃ a C dx fs sp, x = .ref a ∧ H1 a = some (.ins C dx fs) ∧ (C, sp) ∈ tab ∧ fs.lookup m = none ∧ t σ H1 fun vs H2 => sp (x :: vs) H2 Q E := rfl
theorem ap_make : tMake C sp dvs E t σ H Q = t σ H fun vs H1 => ∀ x dx, H1 x = none → H1 dx = none → dx ≠ x → sp (.ref x :: (vs ++ dvs)) (upd (upd H1 dx (.own x)) x (.ins C dx [])) (fun v H2 => v = .non ∧ Q (.ref x) H2) E := rfl
theorem ap_makeK : tMakeK C sp gV E t tk σ H Q = t σ H fun vs H1 => tk σ H1 fun zs H2 => ∀ y dx, H2 y = none → H2 dx = none → dx ≠ y → sp (gV (.ref y :: vs) zs) (upd (upd H2 dx (.own y)) y (.ins C dx [])) (fun v H3 => v = .non ∧ Q (.ref y) H3) E := rfl
theorem ap_dget2 : tDGet2 td ty tx σ H Q = td σ H fun x H1 => ∃ a, x = .ref a ∧ IsD H1 a ∧ ty σ H1 fun y H2 => tx σ H2 fun z H3 => ∃ o, DGet H3 a y o ∧ Q (o.getD z) H3 := rfl
theorem ap_dget : tDGet td ty σ H Q = td σ H fun x H1 => ty σ H1 fun y H2 => ∃ a v, x = .ref a ∧ DGet H2 a y (some v) ∧ Q v H2 := rfl
theorem ap_dput : sDPut td ty tv D σ H = tv σ H fun v H1 => td σ H1 fun x H2 => ty σ H2 fun y H3 => ∃ a H4, x = .ref a ∧ DPut H3 a y v H4 ∧ D.nx σ H4 := rfl
theorem ap_dnewK : tDNewK σ H Q = ∀ p, H p = none → Q (.ref p) (upd H p (.dK [])) := rfl
theorem ap_dpop1 : tDPop1 td ty σ H Q = td σ H fun x H1 => ∃ a, x = .ref a ∧ IsD H1 a ∧ ty σ H1 fun y H2 => ∃ kvs k v, H2 a = some (.dK kvs) ∧ y = kV k ∧ valV kvs k = some v ∧ Q v (upd H2 a (.dK (dropK kvs k))) := rfl
theorem ap_dictOf {p : Addr} : rDictOf [.ref p] H Q = ∃ kvs, Rd H p (.dK kvs) ∧ ∀ q, H q = none → Q (.ref q) (upd H q (.dK kvs)) := by simp [rDictOf]
theorem ap_inD {neg : Bool} {x y : V} : rInD neg y x H Q = ∃ a o, x = .ref a ∧ DGet H a y o ∧ Q (.bl (if neg then !o.isSome else o.isSome)) H := rfl
theorem ap_leS {i j : Str} : rLeS (.str i) (.str j) H Q = Q (.bl (!decide (j.cps.toList < i.cps.toList))) H := propext ⟨fun ⟨i', j', e1, e2, q⟩ => by cases e1; cases e2; exact q, fun q => ⟨i, j, rfl, rfl, q⟩⟩
theorem ap_rIsC {y : V} : rIsC K [y, .ref C] H Q = ∃ t k, TyOf K H y t ∧ PySem.W.kitOne K t (.ref C) = some k ∧ Q (.bl k) H := propext ⟨fun ⟨x', C', t, k, e, r⟩ => by cases e; exact ⟨t, k, r⟩, fun ⟨t, k, r⟩ => ⟨y, C, t, k, rfl, r⟩⟩
theorem ap_ixT {x y : V} : rIxT K x y H Q = ∃ p xs i v, x = .ref p ∧ y = .int i ∧ SqT K H p xs ∧ atI xs i = some v ∧ Q v H := rfl
theorem ap_ixS {x y : V} : rIxS x y H Q = ∃ z i c, x = .str z ∧ y = .int i ∧ z.length ≤ sizeLine ∧ atI z.cps.toList i = some c ∧ Q (.str ⟨#[c]⟩) H := rfl
theorem ap_slT {x : V} {lo hi : Option Int} : rSlT K x lo hi H Q = ∃ a xs, x = .ref a ∧ SqT K H a xs ∧ ¬ (HT.sIx xs.length 0 lo = 0 ∧ HT.sIx xs.length xs.length hi = xs.length) ∧ ∀ p, H p = none → Q (.ref p) (upd H p (.tup (cutV xs lo hi))) := rfl
theorem ap_rTupOf {p : Addr} : rTupOf K [.ref p] H Q = ∃ ys, ((SqL K H p ys ∧ ∀ l, H l = none → Q (.ref l) (upd H l (.tup ys))) ∨ (SqT K H p ys ∧ Q (.ref p) H)) := by simp [rTupOf]
theorem ap_rIn {neg : Bool} {x y : V} : rIn K neg x y H Q = ∃ p xs, y = .ref p ∧ (SqL K H p xs ∨ SqT K H p xs) ∧ flatV x = true ∧ xs.all flatV = true ∧ Q (.bl (if neg then !inV x xs else inV x xs)) H := rfl
theorem ap_lenS {z : Str} : (fun (xs : List V) (H : Hp) (Q : VK) => ∃ z, xs = [V.str z] ∧ z.length ≤ sizeLine ∧ Q (.int z.length) H) [.str z] H Q = (z.length ≤ sizeLine ∧ Q (.int z.length) H) := propext ⟨fun ⟨z', e, r⟩ => by cases e; exact r, fun r => ⟨z, rfl, r⟩⟩
end
end L2
namespace L2
open PySem PySem.W PySem.Spec PyProof.Rows
section
variable {α β : Type} {lt : Nat → Nat → Bool} {n : Nat}
def Kok (lt : Nat → Nat → Bool) (n : Nat) (R : α → Prop) : KasT α → Prop
  | .ret a => R a
  | .ask i j k => i < n ∧ j < n ∧ Kok lt n R (k (lt i j))
theorem Kok.bind {R : α → Prop} {S : β → Prop} {f : α → KasT β} : ∀ {t : KasT α}, Kok lt n R t → (∀ a, R a → Kok lt n S (f a)) → Kok lt n S (t.bind f)
  | .ret a, h, k => k a h
  | .ask i j q, h, k => ⟨h.1, h.2.1, Kok.bind (t := q (lt i j)) h.2.2 k⟩
def Prm (n : Nat) (p : Array Nat) : Prop := p.toList.Perm (List.range n)
end
section
variable {key : Nat → Int} {n : Nat}
def Up (key : Nat → Int) (p : Array Nat) (m : Nat) : Prop := ∀ a b, a < b → b < m → key (p.getD a 0) < key (p.getD b 0)
def Dn (key : Nat → Int) (p : Array Nat) (m : Nat) : Prop := ∀ a b, a < b → b < m → key (p.getD b 0) < key (p.getD a 0)
theorem Prm.size {p : Array Nat} (h : Prm n p) : p.size = n := by
  have := h.length_eq
  simpa using this
theorem Kok.mono {α : Type} {lt : Nat → Nat → Bool} {R S : α → Prop} (h : ∀ a, R a → S a) : ∀ {t : KasT α}, Kok lt n R t → Kok lt n S t
  | .ret a, q => h a q
  | .ask i j k, q => ⟨q.1, q.2.1, Kok.mono h q.2.2⟩
theorem Up.snoc {p : Array Nat} {m : Nat} (h : Up key p m) (h1 : 1 ≤ m) (hl : key (p.getD (m - 1) 0) < key (p.getD m 0)) : Up key p (m + 1) := fun a b hab hb => by
  by_cases e : b = m
  · subst e
    by_cases e2 : a = b - 1
    · subst e2; exact hl
    · exact Int.lt_trans (h a (b - 1) (by omega) (by omega)) hl
  · exact h a b hab (by omega)
theorem Dn.snoc {p : Array Nat} {m : Nat} (h : Dn key p m) (h1 : 1 ≤ m) (hl : key (p.getD m 0) < key (p.getD (m - 1) 0)) : Dn key p (m + 1) := fun a b hab hb => by
  by_cases e : b = m
  · subst e
    by_cases e2 : a = b - 1
    · subst e2; exact hl
    · exact Int.lt_trans hl (h a (b - 1) (by omega) (by omega))
  · exact h a b hab (by omega)
end
section
variable {n : Nat} {lt : Nat → Nat → Bool}
end
def lexB : List Int → List Int → Bool → Bool
  | x :: xs, y :: ys, f => if x = y then lexB xs ys f else decide (x < y)
  | [], _, f => f
  | _ :: _, [], f => f
section
variable {P : Program} {w : World} {A : Around} {E : Value → Shared → Prop} {s : Shared}
end
section
variable {X : Cx}
def rSortT (K : PySem.W.Frag) : List V → Hp → VK → Prop := fun xs H Q => ∃ (a : Addr) (ys : List V) (ts : V → List Int), xs = [.ref a] ∧ SqL K H a ys ∧ ys.length < 64 ∧ (∀ y ∈ ys, ts y ≠ [] ∧ ∃ b, y = .ref b ∧ SqT K H b ((ts y).map V.int)) ∧
  ∀ p zs, H p = none → zs.Perm ys → (∀ m, (∀ y ∈ ys, (ts y).length = m) → (ys.map ts).Nodup → zs.Pairwise fun y z => lexB (ts y) (ts z) false = true) → Q (.ref p) (upd H p (.lst zs))
theorem ap_rSortT {K : PySem.W.Frag} {a : Addr} {H : Hp} {Q : VK} : rSortT K [.ref a] H Q = ∃ (ys : List V) (ts : V → List Int), SqL K H a ys ∧ ys.length < 64 ∧ (∀ y ∈ ys, ts y ≠ [] ∧ ∃ b, y = .ref b ∧ SqT K H b ((ts y).map V.int)) ∧
    ∀ p zs, H p = none → zs.Perm ys → (∀ m, (∀ y ∈ ys, (ts y).length = m) → (ys.map ts).Nodup → zs.Pairwise fun y z => lexB (ts y) (ts z) false = true) → Q (.ref p) (upd H p (.lst zs)) := by simp [rSortT]
end
section
variable {K : PySem.W.Frag} {a : Addr} {xs : List V} {g : TG} {te : TE} {σ : St} {H : Hp} {Q : VK} {cap : List (Option Nat)}
end
end L2
namespace L2
open PySem PySem.Spec PyProof.Rows
structure Mk0 (K : PySem.W.Frag) (C : Addr) : Prop where
  makes : PySem.W.makesIn K C = true
  init : PySem.W.findIn K (.ref C) "__init__" = some (some (.builtin "object.__init__"))
  kp : PySem.W.keepIn K (.ref C) = true
def tNew0 (C : Addr) : TE := fun _ H Q => ∀ x dx, H x = none → H dx = none → dx ≠ x → Q (.ref x) (upd (upd H dx (.own x)) x (.ins C dx []))
theorem ap_new0 {C : Addr} {σ : St} {H : Hp} {Q : VK} : tNew0 C σ H Q = ∀ x dx, H x = none → H dx = none → dx ≠ x → Q (.ref x) (upd (upd H dx (.own x)) x (.ins C dx [])) := rfl
theorem pe_new0 {X : Cx} {C : Addr} {x : Str} {p pos : Pos} (M : Mk0 X.K C) (hg : Gl X x) (hm : X.mg x = some (.ref C)) (hdb : (x == ("__debug__" : Str)) = false := by decide) : PE X (.Call (.Name x p) [] [] pos) (tNew0 C) := by
  intro pins s σ H Q I h
  refine wpAny_Call_Name_kw (ld_glob I hg hm ?_ hdb)
  have q := h (s.heap.objs.size + 1) s.heap.objs.size (I.hok.fresh (Nat.le_succ _)) (I.hok.fresh (Nat.le_refl _)) (Nat.ne_of_lt (Nat.lt_succ_self _))
  have I2 := Inv.made (C := C) I
  have Y := PySem.W.makes_of (M := model X.prog X.w) I.kIn M.makes
  refine PySem.W.callWith_K0 I.kIn M.kp (wpAny_call (make_map0 I.kIn M.makes M.init (fun self => PySem.W.Looks.of_pure (PySem.W.oi_bind self)) ?_))
  have g1 : ((s.heap.push PySem.W.emptyDict).push (PySem.W.instObj C s.heap.objs.size)).get? (s.heap.objs.size + 1) = some (PySem.W.instObj C s.heap.objs.size) := by
    have e := Heap.get?_push_size (s.heap.push PySem.W.emptyDict) (o := PySem.W.instObj C s.heap.objs.size) rfl
    rw [size_push'] at e
    exact e
  have t1 : PySem.W.Looks (model X.prog X.w) ((s.heap.push PySem.W.emptyDict).push (PySem.W.instObj C s.heap.objs.size)) (typeOf (.ref (s.heap.objs.size + 1))) (.ref C) := (PySem.W.Looks.ld g1).andThen .now
  have t2 : PySem.W.Looks (model X.prog X.w) ((s.heap.push PySem.W.emptyDict).push (PySem.W.instObj C s.heap.objs.size)) (isInstance (.ref (s.heap.objs.size + 1)) (.type "object")) true := t1.andThen (Y.top.keeps fun b o e => Heap.get?_push_of_some _ (Heap.get?_push_of_some _ e))
  refine codeAny_call_builtin PySem.W.oi_plain PySem.W.entry_oi (@PySem.W.check_slot (model X.prog X.w) _ _ _ "object.__init__" "object" "__init__" (.ref (s.heap.objs.size + 1)) [] [] _ PySem.W.oi_kind PySem.W.oi_split t2 (PySem.W.oi_args _) ?_)
  rw [PySem.W.oi_run]
  exact wpAny_pure ⟨rfl, .ref (s.heap.objs.size + 1), _, I2, rfl, q⟩
section
variable {K : PySem.W.Frag} {a b : Addr} {xs ys : List V} {g : TG} {te : TE} {σ : St} {H : Hp} {Q : VK} {cap : List (Option Nat)}
end
end L2
namespace PySem
open PySem.Spec PyProof.Rows
section
variable {prog : Program} {w : World} {A : Around} {E : Value → Shared → Prop} {a : Addr} {xs : Array Value} {k : Nat} {s : Shared}
end
end PySem
namespace L2
open PySem PySem.Spec PyProof.Rows
section
variable {P : Program} {w : World} {A : Around} {E : Value → Shared → Prop}
end
section
variable {X : Cx}
def pairK (kf : V → Key) (vf : V → V) (ys : List V) : List (Key × V) := ys.foldl (fun a y => putK a (kf y) (vf y)) []
def rDictPairs (K : PySem.W.Frag) : List V → Hp → VK → Prop := fun xs H Q => ∃ (a : Addr) (ys : List V) (kf : V → Key) (vf : V → V), xs = [.ref a] ∧ SqL K H a ys ∧ ys.length ≤ 1000 ∧ (∀ y ∈ ys, ∃ b, y = .ref b ∧ SqT K H b [kV (kf y), vf y]) ∧
  ∀ p, H p = none → Q (.ref p) (upd H p (.dK (pairK kf vf ys)))
end
end L2
namespace L2
open PySem PySem.Spec PyProof.Rows
def viewO (v a : Addr) : HO := .ext fun h => h.IsValuesView v a
def Itv (a : Addr) (o : Obj) (kvs : List (Key × V)) : It := ⟨fun i H => H a = some (.frz o (.dK kvs)) ∧ i < kvs.length, fun i H x H' => H' = H ∧ (kvs.map (·.2))[i]? = some x, fun i H => H a = some (.frz o (.dK kvs)) ∧ kvs.length ≤ i⟩
section
variable {X : Cx} {tg : Expr}
def iVals (tl : TE) : TI := fun σ H R => tl σ H fun x H1 => ∃ v a kvs, x = .ref v ∧ H1 v = some (viewO v a) ∧ H1 a = some (.dK kvs) ∧ ∀ o, R (Itv a o kvs) (upd H1 a (.frz o (.dK kvs)))
def rVals : V → List V → Hp → VK → Prop := fun x vs H Q => ∃ a kvs, x = .ref a ∧ vs = [] ∧ H a = some (.dK kvs) ∧ ∀ v, H v = none → Q (.ref v) (upd H v (viewO v a))
end
end L2
namespace L2
open PySem PySem.Spec PyProof.Rows
section
variable {X : Cx} {K : PySem.W.Frag} {σ : St} {H : Hp} {Q : VK} {R : It → Hp → Prop} {tl td ty : TE} {g : TG} {tt : TT} {te : TE} {cap : List (Option Nat)} {a : Addr} {o : Obj} {kvs : List (Key × V)}
theorem ap_dictPairs : rDictPairs K [.ref a] H Q = ∃ (ys : List V) (kf : V → Key) (vf : V → V), SqL K H a ys ∧ ys.length ≤ 1000 ∧ (∀ y ∈ ys, ∃ b, y = .ref b ∧ SqT K H b [kV (kf y), vf y]) ∧ ∀ p, H p = none → Q (.ref p) (upd H p (.dK (pairK kf vf ys))) := by simp [rDictPairs]
theorem ap_iVals : iVals tl σ H R = tl σ H fun x H1 => ∃ v a kvs, x = .ref v ∧ H1 v = some (viewO v a) ∧ H1 a = some (.dK kvs) ∧ ∀ o, R (Itv a o kvs) (upd H1 a (.frz o (.dK kvs))) := rfl
theorem ap_rVals : rVals (.ref a) [] H Q = ∃ kvs, H a = some (.dK kvs) ∧ ∀ v, H v = none → Q (.ref v) (upd H v (viewO v a)) := by simp [rVals]
theorem ap_dget1 : tDGet1 td ty σ H Q = td σ H fun x H1 => ∃ a, x = .ref a ∧ IsD H1 a ∧ ty σ H1 fun y H2 => ∃ o, DGet H2 a y o ∧ Q (o.getD .non) H2 := rfl
theorem CompP.vals (Sσ : St → Prop) (p : V → Bool) (F : V → V) (hH : H a = some (.frz o (.dK kvs))) (h0 : Sσ (capSt σ cap)) (hz : kvs.length ≤ sizeLine)
    (hs : ∀ x ∈ kvs.map (·.2), ∀ (σ : St) (H5 : Hp) (R1 : St → VK) (R2 : St → Hp → Prop), Sσ σ → Same H H5 → (p x = true → ∀ σ4 H6, Sσ σ4 → Same H5 H6 → R1 σ4 (F x) H6) → (p x = false → ∀ σ4 H6, Sσ σ4 → Same H5 H6 → R2 σ4 H6) →
      g x σ H5 fun σ4 H4 => tt σ4 H4 fun b H5 => if b = true then te σ4 H5 (R1 σ4) else R2 σ4 H5)
    (k : ∀ D H', H D = Option.none → Same H H' → H' D = some (.lst (((kvs.map (·.2)).filter p).map F)) → Q (.ref D) H') : CompP cap (Itv a o kvs) g tt te σ H Q :=
  fun D hD => comp_step (xs := kvs.map (·.2)) (Itv a o kvs) Sσ p F hD h0 (by rw [List.length_map]; exact hz) (fun i x H5 hx sm => ⟨⟨sm _ _ hH, by simpa using (List.getElem?_eq_some_iff.mp hx).1⟩, fun y H' hy => ⟨Option.some.inj (hy.2.symm.trans hx), hy.1⟩⟩) (fun H5 sm => ⟨sm _ _ hH, by simp⟩) hs fun H' s e => k D H' hD s e
end
end L2
namespace L2
open PySem PySem.W PySem.Spec PyProof.Rows
section
variable {X : Cx} {pins : List (Addr × Obj)} {σ : St} {H : Hp} {s : Shared} {h' : Heap}
end
section
variable {X : Cx} {pins : List (Addr × Obj)} {σ : St} {H : Hp} {s : Shared} {k : Nat} {f : Addr} {fd : FuncData} {ps : List Str} {sp : Sp}
theorem Paired.imp {α β : Type} {P P' : α → β → Prop} (h : ∀ a b, P a b → P' a b) : ∀ {xs : List α} {ys : List β}, Paired P xs ys → Paired P' xs ys
  | _, _, .nil => .nil
  | _, _, .cons a t => .cons (h _ _ a) (Paired.imp h t)
def KeyAt (kf : V → List Int) (H : Hp) (y v : V) : Prop := ∃ t, v = .ref t ∧ H t = some (.tup ((kf y).map V.int))
theorem KeyAt.same {kf : V → List Int} {H H' : Hp} {y v : V} (h : KeyAt kf H y v) (e : ∀ t xs, H t = some (.tup xs) → H' t = some (.tup xs)) : KeyAt kf H' y v := let ⟨t, a, b⟩ := h; ⟨t, a, e _ _ b⟩
def KeyFn (sp : Sp) (kf : V → List Int) (H : Hp) (y : V) : Prop := ∀ H1, Same H H1 → ∀ R : VK, (∀ t H2, Same H1 H2 → H2 t = some (.tup ((kf y).map V.int)) → R (.ref t) H2) → sp [y] H1 R E0
end
section
variable {P : Program} {w : World} {A : Around} {E : Value → Shared → Prop} {s : Shared}
end
section
variable {X : Cx} {pins : List (Addr × Obj)} {σ : St} {H : Hp} {s : Shared} {k : Nat} {f : Addr} {fd : FuncData} {ps : List Str} {sp : Sp}
def rSortK (K : PySem.W.Frag) (sp : Sp) : V → Hp → VK → Prop := fun x H Q => ∃ (a : Addr) (ys : List V) (kf : V → List Int), x = .ref a ∧ SqL K H a ys ∧ ys.length < 64 ∧ (∀ y ∈ ys, kf y ≠ [] ∧ KeyFn sp kf H y) ∧
  ∀ p zs H', Same H H' → H p = none → H' p = some (.lst zs) → zs.Perm ys → (∀ m, (∀ y ∈ ys, (kf y).length = m) → (ys.map kf).Nodup → zs.Pairwise fun y z => lexB (kf y) (kf z) false = true) → Q (.ref p) H'
def tSortK (K : PySem.W.Frag) (sp : Sp) (t : TA) : TE := fun σ H Q => t σ H fun vs H1 => ∃ x, vs = [x] ∧ rSortK K sp x H1 Q
theorem ap_tSortK {K : PySem.W.Frag} {sp : Sp} {t : TA} {σ : St} {H : Hp} {Q : VK} : tSortK K sp t σ H Q = t σ H fun vs H1 => ∃ x, vs = [x] ∧ rSortK K sp x H1 Q := rfl
theorem ap_rSortK {K : PySem.W.Frag} {sp : Sp} {a : Addr} {H : Hp} {Q : VK} : rSortK K sp (.ref a) H Q = ∃ (ys : List V) (kf : V → List Int), SqL K H a ys ∧ ys.length < 64 ∧ (∀ y ∈ ys, kf y ≠ [] ∧ KeyFn sp kf H y) ∧
    ∀ p zs H', Same H H' → H p = none → H' p = some (.lst zs) → zs.Perm ys → (∀ m, (∀ y ∈ ys, (kf y).length = m) → (ys.map kf).Nodup → zs.Pairwise fun y z => lexB (kf y) (kf z) false = true) → Q (.ref p) H' := by simp [rSortK]
end
section
variable {X : Cx}
end
end L2
namespace L2
open PySem PySem.W PySem.Spec PyProof.Rows
section
variable {X : Cx}
def rEqR (K : PySem.W.Frag) : R2 := fun x y H Q => ∃ (a b : Addr) (xs ys : List V), x = .ref a ∧ y = .ref b ∧ SqL K H a xs ∧ SqL K H b ys ∧ ((xs.length ≠ ys.length ∧ Q (.bl false) H) ∨ (xs = ys ∧ (∀ v ∈ xs, ∃ c, v = .ref c) ∧ Q (.bl true) H))
def rNeR (K : PySem.W.Frag) : R2 := fun x y H Q => ∃ (a b : Addr) (xs ys : List V), x = .ref a ∧ y = .ref b ∧ SqL K H a xs ∧ SqL K H b ys ∧ ((xs.length ≠ ys.length ∧ Q (.bl true) H) ∨ (xs = ys ∧ (∀ v ∈ xs, ∃ c, v = .ref c) ∧ Q (.bl false) H))
theorem mn_rEqR {K : PySem.W.Frag} : MonoR (rEqR K) := fun _ _ _ _ _ k ⟨a, b, c, d, e, f, g, h, q⟩ => ⟨a, b, c, d, e, f, g, h, q.elim (fun ⟨z, q⟩ => .inl ⟨z, k _ _ q⟩) fun ⟨z, z', q⟩ => .inr ⟨z, z', k _ _ q⟩⟩
theorem mn_rNeR {K : PySem.W.Frag} : MonoR (rNeR K) := fun _ _ _ _ _ k ⟨a, b, c, d, e, f, g, h, q⟩ => ⟨a, b, c, d, e, f, g, h, q.elim (fun ⟨z, q⟩ => .inl ⟨z, k _ _ q⟩) fun ⟨z, z', q⟩ => .inr ⟨z, z', k _ _ q⟩⟩
def rSetOf (K : PySem.W.Frag) : List V → Hp → VK → Prop := fun xs H Q => ∃ (a : Addr) (ns : List Int), xs = [.ref a] ∧ SqL K H a (ns.map V.int) ∧ ns.length ≤ 1000 ∧ ∀ l S n, H l = none → n ≤ ns.length → (ns.Nodup → n = ns.length) → Q (.ref l) (upd H l (.set S n))
def rLenS : List V → Hp → VK → Prop := fun xs H Q => ∃ (a : Addr) (S : Int → Bool) (n : Nat), xs = [.ref a] ∧ H a = some (.set S n) ∧ Q (.int n) H
theorem ap_setOf {K : PySem.W.Frag} {a : Addr} {H : Hp} {Q : VK} : rSetOf K [.ref a] H Q = ∃ ns : List Int, SqL K H a (ns.map V.int) ∧ ns.length ≤ 1000 ∧ ∀ l S n, H l = none → n ≤ ns.length → (ns.Nodup → n = ns.length) → Q (.ref l) (upd H l (.set S n)) := by simp [rSetOf]
theorem ap_lenSet {a : Addr} {H : Hp} {Q : VK} : rLenS [.ref a] H Q = ∃ (S : Int → Bool) (n : Nat), H a = some (.set S n) ∧ Q (.int n) H := by simp [rLenS]
theorem ap_eqR {K : PySem.W.Frag} {a b : Addr} {H : Hp} {Q : VK} : rEqR K (.ref a) (.ref b) H Q = ∃ (xs ys : List V), SqL K H a xs ∧ SqL K H b ys ∧ ((xs.length ≠ ys.length ∧ Q (.bl false) H) ∨ (xs = ys ∧ (∀ v ∈ xs, ∃ c, v = .ref c) ∧ Q (.bl true) H)) := by simp [rEqR]
theorem ap_neR {K : PySem.W.Frag} {a b : Addr} {H : Hp} {Q : VK} : rNeR K (.ref a) (.ref b) H Q = ∃ (xs ys : List V), SqL K H a xs ∧ SqL K H b ys ∧ ((xs.length ≠ ys.length ∧ Q (.bl true) H) ∨ (xs = ys ∧ (∀ v ∈ xs, ∃ c, v = .ref c) ∧ Q (.bl false) H)) := by simp [rNeR]
end
def Itr3 (lo c : Int) (n : Nat) : It := ⟨fun i _ => i < n, fun i H x H' => H' = H ∧ x = .int (lo + i * c), fun i _ => n ≤ i⟩
section
variable {X : Cx} {tg : Expr}
def iRng3 (ta : TA) : TI := fun σ H R => ta σ H fun vs H1 => ∃ (i j c : Int) (n : Nat), vs = [.int i, .int j, .int c] ∧ c ≠ 0 ∧ Builtin.divisionGoesByPylong (j - i) c = false ∧ Builtin.Range.small i j c = true ∧ Builtin.Range.rangeSize i j c = n ∧ R (Itr3 i c n) H1
theorem ap_iRng3 {ta : TA} {σ : St} {H : Hp} {R : It → Hp → Prop} : iRng3 ta σ H R = ta σ H fun vs H1 => ∃ (i j c : Int) (n : Nat), vs = [.int i, .int j, .int c] ∧ c ≠ 0 ∧ Builtin.divisionGoesByPylong (j - i) c = false ∧ Builtin.Range.small i j c = true ∧ Builtin.Range.rangeSize i j c = n ∧ R (Itr3 i c n) H1 := rfl
end
section
variable {K : PySem.W.Frag} {wi : TI} {cap : List (Option Nat)} {g : TG} {tt : TT} {te tl td tk : TE}
theorem mn_iList (h : MonoE tl) : MonoI (iList K tl) := fun σ H _ _ f q => h σ H _ _ (fun _ _ ⟨a, e, x, r⟩ => ⟨a, e, x, f _ _ r⟩) q
theorem mn_comp (hi : MonoI wi) : MonoE (tComp cap wi g tt te) := fun σ H Q Q' f h => by
  rw [ap_comp] at h ⊢
  exact hi σ H _ _ (fun J H1 hc D hD => by
    obtain ⟨W, w0, hW⟩ := hc D hD
    exact ⟨W, w0, fun i m acc σ1 H2 hw hD2 => (hW i m acc σ1 H2 hw hD2).imp (fun ⟨a, b⟩ => ⟨a, f _ _ b⟩) id⟩) h
theorem mn_dput (h1 : MonoE td) (h2 : MonoE tk) (h3 : MonoE te) : MonoS (sDPut td tk te) := fun D D' σ H f q => h3 σ H _ _ (fun v H1 q1 => h1 σ H1 _ _ (fun x H2 q2 => h2 σ H2 _ _ (fun y H3 ⟨a, H4, e1, e2, e3⟩ => ⟨a, H4, e1, e2, f.nx _ _ e3⟩) q2) q1) q
end
end L2
namespace L2
open PySem PySem.Spec PyProof.Rows
section
theorem excM_sub {M : Model} {A : Around} {E : Value → Shared → Prop} {nm q nm' q' : Str} {C N D N' : Addr} {bs bm bs' bm' : List Value} {hdct hdct' : Bool} {sn sn' : List Str} {sub sub' : List Value} {ab ab' : Bool} {col col' : Option Bool}
    {dd dd' : Option Addr} {k0 k1 k2 k3 k5 k0' k1' k2' k3' k5' : Option Value} {newId newId' : String} {h : Heap} {g : Array GenState} {d : Drawn} {t : Nat} {os : OsState} {e : Addr} {oe : Obj} {Q : Bool → Shared → Prop}
    (gC : h.get? C = some (excClassObj nm q C N bs bm hdct sn sub ab col dd k0 k1 k2 k3 k5 newId)) (gD : h.get? D = some (excClassObj nm' q' D N' bs' bm' hdct' sn' sub' ab' col' dd' k0' k1' k2' k3' k5' newId'))
    (he : h.get? e = some oe) (hc : oe.cls = .ref C) (hB : bm'.contains (.type "BaseException") = true) (hs : (Value.ref C :: bm).contains (.ref D) = true) (hQ : Q true ⟨h, g, d, t, os⟩) :
    wpAny M A (excMatches (.ref e) (.ref D)) Q E ⟨h, g, d, t, os⟩ := by
  unfold excMatches isInstance isExcClass
  refine wpAny_bind (wpAny_bind (wpAny_typeOf (T := "type") ?_ ?_))
  · exact ⟨_, gD, rfl⟩
  rw [show isSubtype (.type "type") (.type "tuple") = pure false from isSubtype_of_subB (by rfl)]
  refine wpAny_pure ?_
  try dsimp only
  rw [if_neg (by decide)]
  refine wpAny_bind (wpAny_pure ?_)
  rw [List.forIn_cons]
  unfold isType
  refine wpAny_bind (wpAny_bind (wpAny_bind (wpAny_bind (wpAny_bind (show wpAny _ _ (loadPart D (some headPart)) _ _ _ from wpAny_loadPart gD ?_)))))
  refine wpAny_pure ?_
  try dsimp only
  rw [if_pos rfl]
  refine wpAny_isSubtype_exc gD ?_
  rw [show (Value.ref D :: bm').contains (.type "BaseException") = true by rw [List.contains_cons, hB, Bool.or_true]]
  try dsimp only
  rw [if_neg (by decide)]
  refine wpAny_pure ?_
  try dsimp only
  rw [List.forIn_nil]
  refine wpAny_pure ?_
  refine wpAny_bind (wpAny_typeOf_ref he ?_)
  rw [hc, List.forIn_cons]
  refine wpAny_bind (wpAny_bind (wpAny_bind (wpAny_isSubtype_exc gC ?_)))
  rw [hs]
  try dsimp only
  rw [if_pos rfl]
  refine wpAny_pure ?_
  try dsimp only
  refine wpAny_pure ?_
  exact wpAny_pure hQ
theorem sub_at {K : PySem.W.Frag} {C D N : Addr} {h : Heap} {nm q : Str} {bs bm : List Value} {hdct : Bool} {sn : List Str} {sub : List Value} {ab : Bool} {col : Option Bool} {dd : Option Addr} {k0 k1 k2 k3 k5 : Option Value} {newId : String} (X : K.In h) (hs : PySem.W.kitOne K (.ref C) (.ref D) = some true)
    (gC : h.get? C = some (excClassObj nm q C N bs bm hdct sn sub ab col dd k0 k1 k2 k3 k5 newId)) : (Value.ref C :: bm).contains (.ref D) = true := by
  unfold PySem.W.kitOne at hs
  split at hs
  · rename_i e
    have e : C = D := by simpa using e
    subst e
    simp
  · unfold PySem.W.kitCls at hs
    dsimp only at hs
    split at hs
    · unfold PySem.W.subIn at hs
      dsimp only at hs
      unfold PySem.W.mroIn PySem.W.clsIn at hs
      split at hs
      · rename_i oc od cd sl hl
        have hh := X _ _ hl
        rw [gC] at hh
        cases hh
        simp only [Option.bind_some] at hs
        split at hs
        · cases hs
        · exact Option.some.inj hs
      · cases hs
    · cases hs
end
section
variable {X : Cx} {CX : CXT} {k : Nat} {f C : Addr} {fd : FuncData} {ps : List Str} {sp : Sp} {dvs : List V} {ds : List Value} {x : Str} {p pos : Pos} {e : Expr} {es : List Expr} {t : TA}
theorem ps_trySub {D' : Addr} {te : TX} {i : Nat} {n : Str} {ts : TS} {b₀ : Stmt} {suite : List Stmt} {np epos hpos pos : Pos} (h : PEx X (CX1 X.prog X.w) e te) (c : XCls X.K C) (cD : XCls X.K D') (hsub : PySem.W.kitOne X.K (.ref C) (.ref D') = some true) (hg : Gl X x) (hm : X.mg x = some (.ref D')) (hfr : X.env.frame = some X.env.locals) (hst : X.stack = X.env :: X.outer)
    (hN : X.N.Nodup) (hi : X.N[i]? = some n) (hk : X.env.kindOf n = some .local) (hsu : ∀ ea, PSs (X.inSuite ea) (b₀ :: suite) ts) (hd : (x == ("__debug__" : Str)) = false := by decide)
    (hs : swapsWith e none epos.line X.env = pure false := by rfl) :
    PS X (.Try [.Expr e epos] [.ExceptHandler (some (.Name x np)) (some n) (b₀ :: suite) hpos] [] [] pos) (tTry te C i ts) := by
  intro pins s σ H D I hw
  refine wpAny_Try_except (wpAny_execs_cons (wpAny_Expr_any (wpAny_mono (h pins s σ H _ _ I hw) (fun v s1 ⟨y, H1, I1, r1, q1⟩ => wpAny_execs_nil (wpAny_execs_nil ⟨σ, H1, I1, q1⟩)) fun ev s' hx => ?_) I.quiet hs))
  obtain ⟨H1, s1, I1, ea, C', a0, H', B, rfl, os, bare, un, hok, fl, k1, k2, hn, hC, hE⟩ := hx
  have hcc : C' = C := Value.ref.inj hC
  subst hcc
  have fl' := fl
  rw [hst] at fl'
  have frm : X.A.frames = some (X.env :: X.outer) := by rw [← hst]; exact I.ok.frames
  refine wpAny_looks_onW frm hfr fl' fun h4 held4 up4 => ?_
  refine wpAny_landsW held4 fun h5 fl5 up5 => ?_
  have up5' := up4.trans up5
  have I5 : Inv X pins σ (upd H' ea (excO C' ea)) { s' with heap := h5 } := I1.landed os bare un hok fl k1 k2 hn (by rw [hst]; exact fl5) up5'
  obtain ⟨bm, N, nm, qn, bs, hdc, sn, sub, ab, col, dd, g0, g1', g2', g3', g5', mN, gC, gN, gi, gT⟩ := c.obj I5.kIn
  obtain ⟨bmD, ND, nmD, qnD, bsD, hdcD, snD, subD, abD, colD, ddD, g0D, g1D, g2D, g3D, g5D, mND, gCD, gND, giD, gTD⟩ := cD.obj I5.kIn
  have hsb := sub_at I5.kIn hsub gC
  obtain ⟨ob, hob, hobc⟩ := fl5.there
  refine wpAny_handleBy_cons (codeAny_handlers_test (ld_glob (X := X.inSuite ea) (I5.inSuite ea) hg hm ?_ hd)) (by intro q; cases q)
  refine excM_sub gC gCD hob hobc (gTD.hasType rfl) hsb (codeAny_handlers_suite_as ?_)
  refine lands_againW fl5 fun h6 fl6 up6 => ?_
  have I6 : Inv X pins σ (upd H' ea (excO C' ea)) { s' with heap := h6 } := I1.landed os bare un hok fl k1 k2 hn (by rw [hst]; exact fl6) (up5'.trans up6)
  refine store_ok (X := X) I6 hN hi (.inl hk) (v := .ref ea) rfl (fun s7 I7 => ?_) (.inr hk)
  refine wpAny_mono (hsu ea pins s7 _ _ _ (I7.inSuite ea) (hE ea hn)) (fun f s8 hf => ?_) fun _ _ z => False.elim z
  cases f with
  | next =>
    obtain ⟨σ8, H8, I8, q8⟩ := hf
    exact (I8.outSuite I.ok).gone hN hi hk fun s9 I9 => ⟨_, H8, I9, q8⟩
  | brk =>
    obtain ⟨σ8, H8, I8, q8⟩ := hf
    exact (I8.outSuite I.ok).gone hN hi hk fun s9 I9 => ⟨_, H8, I9, q8⟩
  | cont =>
    obtain ⟨σ8, H8, I8, q8⟩ := hf
    exact (I8.outSuite I.ok).gone hN hi hk fun s9 I9 => ⟨_, H8, I9, q8⟩
  | ret u =>
    obtain ⟨v8, σ8, H8, I8, r8, q8⟩ := hf
    exact (I8.outSuite I.ok).gone hN hi hk fun s9 I9 => ⟨v8, _, H8, I9, r8, q8⟩
end
section
variable {X : Cx}
def tFR (x : Str) (t : TE) : TE := fun σ H Q => t σ H fun v H1 => ∃ z, v = .str z ∧ (reprText z).length ≤ 100000 ∧ Q (.str (x ++ reprText z)) H1
theorem pe_fstrR {e : Expr} {x : Str} {j : Nat} {p1 p2 pos : Pos} {t : TE} (he : PE X e t) (h1 : x.length ≤ 1000 := by decide +kernel) : PE X (.JoinedStr [.Constant (.str x) j p1, .FormattedValue e 114 none p2] pos) (tFR x t) := by
  intro pins s σ H Q I h
  have e0 : ∀ z : Str, (Str.empty ++ z) = z := fun z => by
    show Str.mk (#[] ++ z.cps) = z
    rw [Array.empty_append]
  have la : ∀ y z : Str, (y ++ z).length = y.length + z.length := fun y z => by
    show (y.cps ++ z.cps).size = _
    rw [Array.size_append]; rfl
  refine wpAny_JoinedStr (Joins_cons (Calls.Constant_str ⟨x, _, rfl, ?_, Joins_cons (wpAny_FormattedValue_repr ?_)⟩))
  · rw [e0, sizeLine_eq]; omega
  · rw [e0]
    refine thn (he pins _ σ H _ (I.tok _) h) fun v s1 ⟨y, H1, I1, r1, z, ez, h2, q⟩ => ?_
    subst ez
    obtain ⟨t1, rfl⟩ := r1
    refine wpAny_pyReprObj_str (formatField_str (fun t' tk => ⟨_, _, rfl, by rw [la, sizeLine_eq]; omega, Joins_nil ⟨by rw [la, sizeLine_eq]; omega, .str _, H1, I1.tok _, ⟨_, rfl⟩, q⟩⟩) (by rw [sizeLine_eq]; omega)) (by rw [sizeLine_eq]; omega)
theorem ap_fr {x : Str} {t : TE} {σ : St} {H : Hp} {Q : VK} : tFR x t σ H Q = t σ H fun v H1 => ∃ z, v = .str z ∧ (reprText z).length ≤ 100000 ∧ Q (.str (x ++ reprText z)) H1 := rfl
def rUpper : V → List V → Hp → VK → Prop := fun v vs H Q => ∃ z, v = .str z ∧ vs = [] ∧ (Txt.upper z).length ≤ 100000 ∧ Q (.str (Txt.upper z)) H
theorem mt_upper : MtM X "str.upper" rUpper := by
  intro pins s σ H x vs v us Q I rx rv h
  obtain ⟨z, rfl, rfl, hl, q⟩ := h
  obtain ⟨t, rfl⟩ := rx
  have hus := rv.zero
  subst hus
  refine call_meets F.slot_str_upper (show s.TypeIs (.str z t) "str" from rfl) F.entry_str_upper (F.args_str_upper_1 _) (show Meets _ (fun A R s => (Made.str (Txt.upper z)).post (fun v s' => R (.ok (.ret v)) s') s) from gives_str_upper z t ?_) ?_
  · show decide _ = false
    refine decide_eq_false ?_
    have : (placed z fun x c => Unicode.upperOf c).size ≤ 100000 := hl
    rw [sizeLine_eq]; omega
  · exact ⟨by rw [sizeLine_eq]; omega, .str _, H, I.tok _, ⟨_, rfl⟩, q⟩
def rSlS : V → Option Int → Option Int → Hp → VK → Prop := fun x _ _ H Q => ∃ z : Str, x = .str z ∧ z.length ≤ sizeLine ∧ ∀ y : Str, y.length ≤ z.length → (∀ c ∈ y.cps.toList, c ∈ z.cps.toList) → Q (.str y) H
theorem sl_str : SlR X rSlS := by
  intro pins s σ H x v vl vu lo hi sl Q I rx hs pl pu h
  obtain ⟨z, rfl, hz, q⟩ := h
  obtain ⟨t, rfl⟩ := rx
  have part : ∀ {v : Value} {o : Option Int}, IsPart v o → ∃ l, v = partValue l := fun {v o} h => by
    cases h with
    | none => exact ⟨none, rfl⟩
    | int i t => exact ⟨some (i, t), rfl⟩
  obtain ⟨l, rfl⟩ := part pl
  obtain ⟨u, rfl⟩ := part pu
  refine ⟨"str", _, slot_str_getitem.lookup, typeIs_str s z t, ?_⟩
  refine wpAny_getItem_str_slice (st := none) hs rfl ?_
  unfold sliceMade
  split
  · exact ⟨.str z, H, I, ⟨_, rfl⟩, q z (Nat.le_refl _) fun c h => h⟩
  · rename_i hne
    have hl := Txt.slice_le z (l.map (·.1)) (u.map (·.1))
    unfold Txt.slice at hl
    rw [if_neg (by exact hne)] at hl
    refine ⟨Nat.le_trans hl hz, .str _, H, I.tok _, ⟨_, rfl⟩, q _ hl fun c hc => ?_⟩
    obtain ⟨i, _, e⟩ := List.mem_filterMap.mp (show c ∈ List.filterMap (fun x_1 => z.cps[x_1]?) (slicePicked z l u none) by simpa using hc)
    rw [← Array.getElem?_toList] at e
    exact List.mem_of_getElem? e
theorem ap_slS {z : Str} {lo hi : Option Int} {H : Hp} {Q : VK} : rSlS (.str z) lo hi H Q = (z.length ≤ sizeLine ∧ ∀ y : Str, y.length ≤ z.length → (∀ c ∈ y.cps.toList, c ∈ z.cps.toList) → Q (.str y) H) := by simp [rSlS]
end
end L2
local macro_rules | `(tactic| walk_at "capok") => `(tactic| first | exact L2.CapOk.nil | (refine L2.CapOk.own ?_; walk_at "capok") | (refine L2.CapOk.take (by with_unfolding_all rfl) (by first | exact Or.inl (by with_unfolding_all rfl) | exact Or.inr (by with_unfolding_all rfl)) (by first | exact Or.inl (by with_unfolding_all rfl) | exact Or.inr (by with_unfolding_all rfl)) (by with_unfolding_all rfl) ?_; walk_at "capok"))
local macro_rules | `(tactic| walk_at "compok") => `(tactic| (refine ⟨?c1, ?c3, ?c0, ?c4, ?c5, ?c6, ?c7⟩; (case c1 => with_unfolding_all rfl); (case c3 => walk_at "capok"); (case c0 => rfl); (case c4 => decide +kernel); (case c5 => decide +kernel); (case c6 => with_unfolding_all rfl); (case c7 => (intro _; rfl))))
local macro_rules | `(tactic| walk_at "rd") => `(tactic| simp only [L2.ap_iStr, L2.ap_fldK, L2.ap_sFld, L2.ap_methD, L2.ap_make, L2.ap_makeK, L2.ap_dget2, L2.ap_dget, L2.ap_dput, L2.ap_dnewK, L2.ap_dpop1, L2.ap_dictOf, L2.ap_inD, L2.ap_leS, L2.ap_rIsC, L2.ap_ixT, L2.ap_ixS, L2.ap_slT, L2.ap_rTupOf, L2.ap_rIn, L2.ap_lenS, L2.ap_rSortT, L2.ap_new0, L2.ap_dictPairs, L2.ap_iVals, L2.ap_rVals, L2.ap_dget1, L2.ap_tSortK, L2.ap_rSortK, L2.ap_setOf, L2.ap_lenSet, L2.ap_iRng3, L2.ap_eqR, L2.ap_neR, L2.ap_fr, L2.ap_slS, L2.ap_raise, L2.ap_xCall, L2.ap_isX, L2.ap_isXs, L2.ap_iZip, L2.ap_iEnum, L2.ap_seq, L2.ap_next, L2.ap_asg, L2.ap_name, L2.ap_var, L2.ap_c, L2.ap_op, L2.ap_un, L2.ap_rI, L2.ap_rI0, L2.ap_rU, L2.ap_rEq, L2.ap_rNe, L2.ap_ret, L2.ap_retN, L2.ap_drop, L2.ap_test, L2.ap_tB, L2.ap_and, L2.ap_or, L2.ap_not, L2.ap_andV, L2.ap_orV, L2.ap_notV, L2.ap_ifE, L2.ap_call, L2.ap_nil, L2.ap_cons, L2.ap_cb, L2.ap_lst, L2.ap_tup, L2.ap_chain, L2.ap_sl, L2.ap_noPart, L2.ap_part, L2.ap_gNil, L2.ap_gCons, L2.ap_gLst, L2.ap_gTup, L2.ap_bm, L2.ap_bm0, L2.ap_ixL, L2.ap_slL, L2.ap_rLen, L2.ap_rSum, L2.ap_rAny, L2.ap_rAll, L2.ap_rListOf, L2.ap_rIsT, L2.ap_append, L2.ap_rCat, L2.ap_for, L2.ap_iList, L2.ap_iTup, L2.ap_iRng1, L2.ap_iRng2, L2.ap_comp, L2.ap_noIf, L2.ap_rMax, L2.ap_rMin, L2.scal_int, L2.scal_str, L2.scal_bl, L2.start_eq, List.map_cons, List.map_nil, List.length_cons, List.length_nil, List.cons_append, List.nil_append, List.append_nil, List.replicate_succ, List.replicate_zero, Nat.reduceAdd, Nat.reduceSub, Nat.sub_self, List.set_cons_zero, List.set_cons_succ, List.getElem?_cons_zero, List.getElem?_cons_succ, Option.some.injEq, L2.V.int.injEq, L2.V.bl.injEq, L2.V.str.injEq, L2.V.ref.injEq, L2.V.ty.injEq, List.cons.injEq, exists_eq_left', exists_eq_left, exists_and_left, exists_eq', exists_eq, true_and, and_true, and_assoc, exists_const, Bool.not_true, Bool.not_false, if_true, if_false, Bool.false_eq_true, decide_true, decide_false, reduceCtorEq, Bool.not_eq_true', decide_eq_true_eq, decide_eq_false_iff_not])
local macro_rules | `(tactic| walk_at "rdi") => `(tactic| simp only [L2.ap_iStr, L2.ap_fldK, L2.ap_sFld, L2.ap_methD, L2.ap_make, L2.ap_makeK, L2.ap_dget2, L2.ap_dget, L2.ap_dput, L2.ap_dnewK, L2.ap_dpop1, L2.ap_dictOf, L2.ap_inD, L2.ap_leS, L2.ap_rIsC, L2.ap_ixT, L2.ap_ixS, L2.ap_slT, L2.ap_rTupOf, L2.ap_rIn, L2.ap_lenS, L2.ap_rSortT, L2.ap_new0, L2.ap_dictPairs, L2.ap_iVals, L2.ap_rVals, L2.ap_dget1, L2.ap_tSortK, L2.ap_rSortK, L2.ap_setOf, L2.ap_lenSet, L2.ap_iRng3, L2.ap_eqR, L2.ap_neR, L2.ap_fr, L2.ap_slS, L2.ap_raise, L2.ap_xCall, L2.ap_isX, L2.ap_isXs, L2.ap_iZip, L2.ap_iEnum, L2.ap_try, L2.ap_next, L2.ap_asg, L2.ap_name, L2.ap_var, L2.ap_c, L2.ap_op, L2.ap_un, L2.ap_rI, L2.ap_rI0, L2.ap_rU, L2.ap_rEq, L2.ap_rNe, L2.ap_ret, L2.ap_retN, L2.ap_drop, L2.ap_if, L2.ap_test, L2.ap_tB, L2.ap_and, L2.ap_or, L2.ap_not, L2.ap_andV, L2.ap_orV, L2.ap_notV, L2.ap_ifE, L2.ap_call, L2.ap_nil, L2.ap_cons, L2.ap_cb, L2.ap_lst, L2.ap_tup, L2.ap_chain, L2.ap_sl, L2.ap_noPart, L2.ap_part, L2.ap_gNil, L2.ap_gCons, L2.ap_gLst, L2.ap_gTup, L2.ap_bm, L2.ap_bm0, L2.ap_ixL, L2.ap_slL, L2.ap_rLen, L2.ap_rSum, L2.ap_rAny, L2.ap_rAll, L2.ap_rListOf, L2.ap_rIsT, L2.ap_append, L2.ap_rCat, L2.ap_comp, L2.ap_iList, L2.ap_iTup, L2.ap_iRng1, L2.ap_iRng2, L2.ap_noIf, L2.ap_rMax, L2.ap_rMin, L2.scal_int, L2.scal_str, L2.scal_bl, L2.start_eq, List.map_cons, List.map_nil, List.length_cons, List.length_nil, List.cons_append, List.nil_append, List.append_nil, List.replicate_succ, List.replicate_zero, Nat.reduceAdd, Nat.reduceSub, Nat.sub_self, List.set_cons_zero, List.set_cons_succ, List.getElem?_cons_zero, List.getElem?_cons_succ, Option.some.injEq, L2.V.int.injEq, L2.V.bl.injEq, L2.V.str.injEq, L2.V.ref.injEq, L2.V.ty.injEq, List.cons.injEq, exists_eq_left', exists_eq_left, exists_and_left, exists_eq', exists_eq, true_and, and_true, and_assoc, exists_const, Bool.not_true, Bool.not_false, if_true, if_false, Bool.false_eq_true, decide_true, decide_false, reduceCtorEq, Bool.not_eq_true', decide_eq_true_eq, decide_eq_false_iff_not])
local macro_rules | `(tactic| walk_at "rda") => `(tactic| simp only [L2.ap_iStr, L2.ap_fldK, L2.ap_sFld, L2.ap_methD, L2.ap_make, L2.ap_makeK, L2.ap_dget2, L2.ap_dget, L2.ap_dput, L2.ap_dnewK, L2.ap_dpop1, L2.ap_dictOf, L2.ap_inD, L2.ap_leS, L2.ap_rIsC, L2.ap_ixT, L2.ap_ixS, L2.ap_slT, L2.ap_rTupOf, L2.ap_rIn, L2.ap_lenS, L2.ap_rSortT, L2.ap_new0, L2.ap_dictPairs, L2.ap_iVals, L2.ap_rVals, L2.ap_dget1, L2.ap_tSortK, L2.ap_rSortK, L2.ap_setOf, L2.ap_lenSet, L2.ap_iRng3, L2.ap_eqR, L2.ap_neR, L2.ap_fr, L2.ap_slS, L2.ap_raise, L2.ap_xCall, L2.ap_isX, L2.ap_isXs, L2.ap_iZip, L2.ap_iEnum, L2.ap_try, L2.ap_seq, L2.ap_next, L2.ap_asg, L2.ap_name, L2.ap_var, L2.ap_c, L2.ap_op, L2.ap_un, L2.ap_rI, L2.ap_rI0, L2.ap_rU, L2.ap_rEq, L2.ap_rNe, L2.ap_ret, L2.ap_retN, L2.ap_drop, L2.ap_if, L2.ap_test, L2.ap_tB, L2.ap_and, L2.ap_or, L2.ap_not, L2.ap_andV, L2.ap_orV, L2.ap_notV, L2.ap_ifE, L2.ap_call, L2.ap_nil, L2.ap_cons, L2.ap_cb, L2.ap_lst, L2.ap_tup, L2.ap_chain, L2.ap_sl, L2.ap_noPart, L2.ap_part, L2.ap_gNil, L2.ap_gCons, L2.ap_gLst, L2.ap_gTup, L2.ap_bm, L2.ap_bm0, L2.ap_ixL, L2.ap_slL, L2.ap_rLen, L2.ap_rSum, L2.ap_rAny, L2.ap_rAll, L2.ap_rListOf, L2.ap_rIsT, L2.ap_append, L2.ap_rCat, L2.ap_for, L2.ap_iList, L2.ap_iTup, L2.ap_iRng1, L2.ap_iRng2, L2.ap_comp, L2.ap_noIf, L2.ap_rMax, L2.ap_rMin, L2.scal_int, L2.scal_str, L2.scal_bl, L2.start_eq, List.map_cons, List.map_nil, List.length_cons, List.length_nil, List.cons_append, List.nil_append, List.append_nil, List.replicate_succ, List.replicate_zero, Nat.reduceAdd, Nat.reduceSub, Nat.sub_self, List.set_cons_zero, List.set_cons_succ, List.getElem?_cons_zero, List.getElem?_cons_succ, Option.some.injEq, L2.V.int.injEq, L2.V.bl.injEq, L2.V.str.injEq, L2.V.ref.injEq, L2.V.ty.injEq, List.cons.injEq, exists_eq_left', exists_eq_left, exists_and_left, exists_eq', exists_eq, true_and, and_true, and_assoc, exists_const, Bool.not_true, Bool.not_false, if_true, if_false, Bool.false_eq_true, decide_true, decide_false, reduceCtorEq, Bool.not_eq_true', decide_eq_true_eq, decide_eq_false_iff_not])
local macro_rules | `(tactic| walk_at "mono") => `(tactic| first | (with_reducible exact L2.mn_var) | (with_reducible exact L2.mn_c) | ((with_reducible refine L2.mn_op ?_ ?_ ?_) <;> walk_at "mono") | ((with_reducible refine L2.mn_un ?_ ?_) <;> walk_at "mono") | (with_reducible exact L2.mn_rI) | (with_reducible exact L2.mn_rI0) | (with_reducible exact L2.mn_rU) | (with_reducible exact L2.mn_rEq) | (with_reducible exact L2.mn_rNe) | (with_reducible exact L2.mn_rEqD) | (with_reducible exact L2.mn_rNeD) | (with_reducible exact L2.mn_ixL) | (with_reducible exact L2.mn_ixT) | (with_reducible exact L2.mn_in) | (with_reducible exact L2.mn_isN) | (with_reducible exact L2.mn_notN) | (with_reducible exact L2.mn_cat) | ((with_reducible refine L2.mn_test ?_) <;> walk_at "mono") | ((with_reducible refine L2.mn_tB ?_) <;> walk_at "mono") | ((with_reducible refine L2.mn_not ?_) <;> walk_at "mono") | ((with_reducible refine L2.mn_and ?_ ?_) <;> walk_at "mono") | ((with_reducible refine L2.mn_or ?_ ?_) <;> walk_at "mono") | (with_reducible exact L2.mn_nil) | ((with_reducible refine L2.mn_cons ?_ ?_) <;> walk_at "mono") | ((with_reducible refine L2.mn_cb ?_ ?_) <;> walk_at "mono") | ((with_reducible refine L2.mn_call ?_ ?_) <;> walk_at "mono") | ((with_reducible refine L2.mn_lst ?_) <;> walk_at "mono") | ((with_reducible refine L2.mn_tup ?_) <;> walk_at "mono") | (with_reducible exact L2.mn_len) | (with_reducible exact L2.mn_sum) | (with_reducible exact L2.mn_any) | (with_reducible exact L2.mn_all) | (with_reducible exact L2.mn_max) | (with_reducible exact L2.mn_min) | (with_reducible exact L2.mn_listOf) | (with_reducible exact L2.mn_isT) | (with_reducible exact L2.mn_isC) | (with_reducible exact L2.mn_noPart) | ((with_reducible refine L2.mn_part ?_) <;> walk_at "mono") | ((with_reducible refine L2.mn_sl ?_ ?_ ?_ ?_) <;> walk_at "mono") | (with_reducible exact L2.mn_slL) | ((with_reducible refine L2.mn_bm ?_ ?_ ?_) <;> walk_at "mono") | ((with_reducible refine L2.mn_bm0 ?_ ?_) <;> walk_at "mono") | (with_reducible exact L2.mn_append) | ((with_reducible refine L2.mn_chain ?_ ?_ ?_ ?_ ?_) <;> walk_at "mono") | ((with_reducible refine L2.mn_andV ?_ ?_) <;> walk_at "mono") | ((with_reducible refine L2.mn_orV ?_ ?_) <;> walk_at "mono") | ((with_reducible refine L2.mn_notV ?_) <;> walk_at "mono") | ((with_reducible refine L2.mn_ifE ?_ ?_ ?_) <;> walk_at "mono") | (with_reducible exact L2.mn_name) | (with_reducible exact L2.mn_gNil) | ((with_reducible refine L2.mn_gCons ?_ ?_) <;> walk_at "mono") | ((with_reducible refine L2.mn_gLst ?_) <;> walk_at "mono") | ((with_reducible refine L2.mn_gTup ?_) <;> walk_at "mono") | (with_reducible exact L2.mn_next) | (with_reducible exact L2.mn_nxE) | (with_reducible exact L2.mn_never) | (with_reducible exact L2.mn_break) | (with_reducible exact L2.mn_cont) | ((with_reducible refine L2.mn_ret ?_) <;> walk_at "mono") | (with_reducible exact L2.mn_retN) | ((with_reducible refine L2.mn_drop ?_) <;> walk_at "mono") | ((with_reducible refine L2.mn_asg ?_ ?_) <;> walk_at "mono") | ((with_reducible refine L2.mn_seq ?_ ?_) <;> walk_at "mono") | ((with_reducible refine L2.mn_if ?_ ?_ ?_) <;> walk_at "mono") | assumption)
local macro_rules | `(tactic| walk_at "mono") => `(tactic| first | (with_reducible exact L2.mn_rEqR) | (with_reducible exact L2.mn_rNeR) | ((with_reducible refine L2.mn_comp ?_) <;> walk_at "mono") | ((with_reducible refine L2.mn_iList ?_) <;> walk_at "mono") | ((with_reducible refine L2.mn_dput ?_ ?_ ?_) <;> walk_at "mono"))
namespace My
open PySem L2 PyProof.Rows
def top (i : Nat) : Stmt := PySem.Challenge.pw_lotledger_k30_words_of_ways.main.body.getD i (.Pass ⟨0, 0, 0, 0⟩)
abbrev s__law_cell : Stmt := top 21
abbrev s_Eldest_word : Stmt := inClass (top 15) 0
abbrev s_Newest_word : Stmt := inClass (top 16) 0
abbrev s_Dearest_word : Stmt := inClass (top 17) 0
abbrev s_Mean_word : Stmt := inClass (top 18) 0
abbrev s_way_by : Stmt := top 19
abbrev s__law_any : Stmt := top 25
abbrev s__law_kinds : Stmt := top 22
abbrev s__law_bent : Stmt := top 24
abbrev s__law_refused : Stmt := top 23
abbrev s_law : Stmt := top 26
structure Adr where
  _law_cell : Addr
  Eldest_word : Addr
  Newest_word : Addr
  Dearest_word : Addr
  Mean_word : Addr
  way_by : Addr
  _law_any : Addr
  _law_kinds : Addr
  _law_bent : Addr
  _law_refused : Addr
  law : Addr
  C_Eldest : Addr
  C_Newest : Addr
  C_Dearest : Addr
  C_Mean : Addr
  C_NoWay : Addr
  C_Way : Addr
  C_LotError : Addr
  C_Late : Addr
  C_NoEntry : Addr
  C_NoNumber : Addr
  C_NoPieces : Addr
  C_NotHeld : Addr
  C_NoText : Addr
  C_NoLot : Addr
  C_NoWeights : Addr
  C_Twice : Addr
structure Fds where
  _law_cell : FuncData
  Eldest_word : FuncData
  Newest_word : FuncData
  Dearest_word : FuncData
  Mean_word : FuncData
  way_by : FuncData
  _law_any : FuncData
  _law_kinds : FuncData
  _law_bent : FuncData
  _law_refused : FuncData
  law : FuncData
structure Txt (K : PySem.W.Frag) (mg : Str → Option Value) (A : Adr) (D : Fds) : Prop where
  m__law_cell : mg "_law_cell" = some (.ref A._law_cell)
  k__law_cell : PySem.W.keepIn K (.ref A._law_cell) = true
  F__law_cell : Fun K "_law_cell" "_law_cell" s__law_cell A._law_cell D._law_cell
  F_Eldest_word : Fun K "word" "Eldest.word" s_Eldest_word A.Eldest_word D.Eldest_word
  F_Newest_word : Fun K "word" "Newest.word" s_Newest_word A.Newest_word D.Newest_word
  F_Dearest_word : Fun K "word" "Dearest.word" s_Dearest_word A.Dearest_word D.Dearest_word
  F_Mean_word : Fun K "word" "Mean.word" s_Mean_word A.Mean_word D.Mean_word
  m_way_by : mg "way_by" = some (.ref A.way_by)
  k_way_by : PySem.W.keepIn K (.ref A.way_by) = true
  F_way_by : Fun K "way_by" "way_by" s_way_by A.way_by D.way_by
  m__law_any : mg "_law_any" = some (.ref A._law_any)
  k__law_any : PySem.W.keepIn K (.ref A._law_any) = true
  F__law_any : Fun K "_law_any" "_law_any" s__law_any A._law_any D._law_any
  m__law_kinds : mg "_law_kinds" = some (.ref A._law_kinds)
  k__law_kinds : PySem.W.keepIn K (.ref A._law_kinds) = true
  F__law_kinds : Fun K "_law_kinds" "_law_kinds" s__law_kinds A._law_kinds D._law_kinds
  m__law_bent : mg "_law_bent" = some (.ref A._law_bent)
  k__law_bent : PySem.W.keepIn K (.ref A._law_bent) = true
  F__law_bent : Fun K "_law_bent" "_law_bent" s__law_bent A._law_bent D._law_bent
  m__law_refused : mg "_law_refused" = some (.ref A._law_refused)
  k__law_refused : PySem.W.keepIn K (.ref A._law_refused) = true
  F__law_refused : Fun K "_law_refused" "_law_refused" s__law_refused A._law_refused D._law_refused
  m_law : mg "law" = some (.ref A.law)
  k_law : PySem.W.keepIn K (.ref A.law) = true
  F_law : Fun K "law" "law" s_law A.law D.law
  b_len : mg "len" = none
  b_range : mg "range" = none
  b_isinstance : mg "isinstance" = none
  b_ValueError : mg "ValueError" = none
  b_str : mg "str" = none
  m_Eldest : mg "Eldest" = some (.ref A.C_Eldest)
  m_Newest : mg "Newest" = some (.ref A.C_Newest)
  m_Dearest : mg "Dearest" = some (.ref A.C_Dearest)
  m_Mean : mg "Mean" = some (.ref A.C_Mean)
  m_NoWay : mg "NoWay" = some (.ref A.C_NoWay)
  m_Way : mg "Way" = some (.ref A.C_Way)
  m_LotError : mg "LotError" = some (.ref A.C_LotError)
  m_Late : mg "Late" = some (.ref A.C_Late)
  m_NoEntry : mg "NoEntry" = some (.ref A.C_NoEntry)
  m_NoNumber : mg "NoNumber" = some (.ref A.C_NoNumber)
  m_NoPieces : mg "NoPieces" = some (.ref A.C_NoPieces)
  m_NotHeld : mg "NotHeld" = some (.ref A.C_NotHeld)
  m_NoText : mg "NoText" = some (.ref A.C_NoText)
  m_NoLot : mg "NoLot" = some (.ref A.C_NoLot)
  m_NoWeights : mg "NoWeights" = some (.ref A.C_NoWeights)
  m_Twice : mg "Twice" = some (.ref A.C_Twice)
  x_NoWay : XCls K A.C_NoWay
  y_NoWay : XAsk K A.C_NoWay
  x_LotError : XCls K A.C_LotError
  y_LotError : XAsk K A.C_LotError
  x_NoEntry : XCls K A.C_NoEntry
  y_NoEntry : XAsk K A.C_NoEntry
  x_NoPieces : XCls K A.C_NoPieces
  y_NoPieces : XAsk K A.C_NoPieces
  x_NoWeights : XCls K A.C_NoWeights
  y_NoWeights : XAsk K A.C_NoWeights
  cl_Eldest : Cls K A.C_Eldest
  ty_Eldest : InsTy K A.C_Eldest
  cl_Newest : Cls K A.C_Newest
  ty_Newest : InsTy K A.C_Newest
  cl_Dearest : Cls K A.C_Dearest
  ty_Dearest : InsTy K A.C_Dearest
  cl_Mean : Cls K A.C_Mean
  ty_Mean : InsTy K A.C_Mean
  cl_Way : Cls K A.C_Way
  ty_Way : InsTy K A.C_Way
  mk0_Eldest : Mk0 K A.C_Eldest
  mk0_Newest : Mk0 K A.C_Newest
  mk0_Dearest : Mk0 K A.C_Dearest
  mk0_Mean : Mk0 K A.C_Mean
  me_Eldest_word : Meth K A.C_Eldest "word" A.Eldest_word
  me_Newest_word : Meth K A.C_Newest "word" A.Newest_word
  me_Dearest_word : Meth K A.C_Dearest "word" A.Dearest_word
  me_Mean_word : Meth K A.C_Mean "word" A.Mean_word
  kc_Eldest_Eldest : PySem.W.kitOne K (.ref A.C_Eldest) (.ref A.C_Eldest) = some true
  kc_Eldest_Newest : PySem.W.kitOne K (.ref A.C_Eldest) (.ref A.C_Newest) = some false
  kc_Eldest_Dearest : PySem.W.kitOne K (.ref A.C_Eldest) (.ref A.C_Dearest) = some false
  kc_Eldest_Mean : PySem.W.kitOne K (.ref A.C_Eldest) (.ref A.C_Mean) = some false
  kc_Eldest_Way : PySem.W.kitOne K (.ref A.C_Eldest) (.ref A.C_Way) = some true
  kc_Newest_Eldest : PySem.W.kitOne K (.ref A.C_Newest) (.ref A.C_Eldest) = some false
  kc_Newest_Newest : PySem.W.kitOne K (.ref A.C_Newest) (.ref A.C_Newest) = some true
  kc_Newest_Dearest : PySem.W.kitOne K (.ref A.C_Newest) (.ref A.C_Dearest) = some false
  kc_Newest_Mean : PySem.W.kitOne K (.ref A.C_Newest) (.ref A.C_Mean) = some false
  kc_Newest_Way : PySem.W.kitOne K (.ref A.C_Newest) (.ref A.C_Way) = some true
  kc_Dearest_Eldest : PySem.W.kitOne K (.ref A.C_Dearest) (.ref A.C_Eldest) = some false
  kc_Dearest_Newest : PySem.W.kitOne K (.ref A.C_Dearest) (.ref A.C_Newest) = some false
  kc_Dearest_Dearest : PySem.W.kitOne K (.ref A.C_Dearest) (.ref A.C_Dearest) = some true
  kc_Dearest_Mean : PySem.W.kitOne K (.ref A.C_Dearest) (.ref A.C_Mean) = some false
  kc_Dearest_Way : PySem.W.kitOne K (.ref A.C_Dearest) (.ref A.C_Way) = some true
  kc_Mean_Eldest : PySem.W.kitOne K (.ref A.C_Mean) (.ref A.C_Eldest) = some true
  kc_Mean_Newest : PySem.W.kitOne K (.ref A.C_Mean) (.ref A.C_Newest) = some false
  kc_Mean_Dearest : PySem.W.kitOne K (.ref A.C_Mean) (.ref A.C_Dearest) = some false
  kc_Mean_Mean : PySem.W.kitOne K (.ref A.C_Mean) (.ref A.C_Mean) = some true
  kc_Mean_Way : PySem.W.kitOne K (.ref A.C_Mean) (.ref A.C_Way) = some true
  su_NoWay_LotError : PySem.W.kitOne K (.ref A.C_NoWay) (.ref A.C_LotError) = some true
  kx1 : PySem.W.kitOne K (.ref A.C_NoWay) (.ref A.C_NoWay) = some true
  kx2 : PySem.W.kitOne K (.ref A.C_NoWay) (.type "ValueError") = some true
  kx3 : PySem.W.kitAny K (.ref A.C_NoWay) [.ref A.C_Late, .ref A.C_NoEntry, .ref A.C_NoNumber, .ref A.C_NoPieces, .ref A.C_NotHeld] = some false
  kx4 : PySem.W.kitAny K (.ref A.C_NoWay) [.ref A.C_NoText, .ref A.C_NoLot, .ref A.C_NoWeights, .ref A.C_Twice] = some false
theorem sc__law_cell : FnScope ["_law_script", "_law_k"] ["_law_script", "_law_k"] (defScope s__law_cell) := ⟨rfl, rfl, rfl, by decide +kernel, rfl, by decide +kernel, by decide +kernel⟩
theorem sc_Eldest_word : FnScope ["self"] ["self"] (defScope s_Eldest_word) := ⟨rfl, rfl, rfl, by decide +kernel, rfl, by decide +kernel, by decide +kernel⟩
theorem sc_Newest_word : FnScope ["self"] ["self"] (defScope s_Newest_word) := ⟨rfl, rfl, rfl, by decide +kernel, rfl, by decide +kernel, by decide +kernel⟩
theorem sc_Dearest_word : FnScope ["self"] ["self"] (defScope s_Dearest_word) := ⟨rfl, rfl, rfl, by decide +kernel, rfl, by decide +kernel, by decide +kernel⟩
theorem sc_Mean_word : FnScope ["self"] ["self"] (defScope s_Mean_word) := ⟨rfl, rfl, rfl, by decide +kernel, rfl, by decide +kernel, by decide +kernel⟩
theorem sc_way_by : FnScope ["word", "way"] ["word"] (defScope s_way_by) := ⟨rfl, rfl, rfl, by decide +kernel, rfl, by decide +kernel, by decide +kernel⟩
theorem sc__law_any : FnScope ["_law_cell_here", "_law_text", "_law_rest", "_law_k"] ["_law_cell_here"] (defScope s__law_any) := ⟨rfl, rfl, rfl, by decide +kernel, rfl, by decide +kernel, by decide +kernel⟩
theorem sc__law_kinds : FnScope ["_law_way", "_law_kinds_here"] ["_law_way"] (defScope s__law_kinds) := ⟨rfl, rfl, rfl, by decide +kernel, rfl, by decide +kernel, by decide +kernel⟩
theorem sc__law_bent : FnScope ["_law_word", "_law_cell_here", "_law_signs", "_law_at", "_law_sign"] ["_law_word", "_law_cell_here"] (defScope s__law_bent) := ⟨rfl, rfl, rfl, by decide +kernel, rfl, by decide +kernel, by decide +kernel⟩
theorem sc__law_refused : FnScope ["_law_text", "_law_told", "e"] ["_law_text"] (defScope s__law_refused) := ⟨rfl, rfl, rfl, by decide +kernel, rfl, by decide +kernel, by decide +kernel⟩
theorem sc_law : FnScope ["_law_script", "_law_words", "_law_due", "_law_at", "_law_word", "_law_way", "_law_odd", "_law_text", "_law_k"] ["_law_script"] (defScope s_law) := ⟨rfl, rfl, rfl, by decide +kernel, rfl, by decide +kernel, by decide +kernel⟩
section
variable {P : Program} {w : World} {K : PySem.W.Frag} {mg : Str → Option Value} {base : Heap} {A : Adr} {D : Fds}
theorem b__law_cell (T : Txt K mg A D) : Binds K D._law_cell ["_law_script", "_law_k"] [] := T.F__law_cell.binds (ps := ["_law_script", "_law_k"]) fun _ _ _ _ _ _ us hl => match us, hl with | [_, _], _ => rfl
theorem b_Eldest_word (T : Txt K mg A D) : Binds K D.Eldest_word ["self"] [] := T.F_Eldest_word.binds (ps := ["self"]) fun _ _ _ _ _ _ us hl => match us, hl with | [_], _ => rfl
theorem b_Newest_word (T : Txt K mg A D) : Binds K D.Newest_word ["self"] [] := T.F_Newest_word.binds (ps := ["self"]) fun _ _ _ _ _ _ us hl => match us, hl with | [_], _ => rfl
theorem b_Dearest_word (T : Txt K mg A D) : Binds K D.Dearest_word ["self"] [] := T.F_Dearest_word.binds (ps := ["self"]) fun _ _ _ _ _ _ us hl => match us, hl with | [_], _ => rfl
theorem b_Mean_word (T : Txt K mg A D) : Binds K D.Mean_word ["self"] [] := T.F_Mean_word.binds (ps := ["self"]) fun _ _ _ _ _ _ us hl => match us, hl with | [_], _ => rfl
theorem b_way_by (T : Txt K mg A D) : Binds K D.way_by ["word"] [] := T.F_way_by.binds (ps := ["word"]) fun _ _ _ _ _ _ us hl => match us, hl with | [_], _ => rfl
theorem b__law_any (T : Txt K mg A D) : Binds K D._law_any ["_law_cell_here"] [] := T.F__law_any.binds (ps := ["_law_cell_here"]) fun _ _ _ _ _ _ us hl => match us, hl with | [_], _ => rfl
theorem b__law_kinds (T : Txt K mg A D) : Binds K D._law_kinds ["_law_way"] [] := T.F__law_kinds.binds (ps := ["_law_way"]) fun _ _ _ _ _ _ us hl => match us, hl with | [_], _ => rfl
theorem b__law_bent (T : Txt K mg A D) : Binds K D._law_bent ["_law_word", "_law_cell_here"] [] := T.F__law_bent.binds (ps := ["_law_word", "_law_cell_here"]) fun _ _ _ _ _ _ us hl => match us, hl with | [_, _], _ => rfl
theorem b__law_refused (T : Txt K mg A D) : Binds K D._law_refused ["_law_text"] [] := T.F__law_refused.binds (ps := ["_law_text"]) fun _ _ _ _ _ _ us hl => match us, hl with | [_], _ => rfl
theorem b_law (T : Txt K mg A D) : Binds K D.law ["_law_script"] [] := T.F_law.binds (ps := ["_law_script"]) fun _ _ _ _ _ _ us hl => match us, hl with | [_], _ => rfl
end
end My
namespace My
open PySem L2 PyProof.Rows
section
variable {P : Program} {w : World} {K : PySem.W.Frag} {mg : Str → Option Value} {base : Heap} {A : Adr} {D : Fds}
theorem abs_ediv_le {x w : Int} (hw : 0 < w) : (x / w).natAbs ≤ x.natAbs := by
  by_cases h : 0 ≤ x
  · have h1 : 0 ≤ x / w := Int.ediv_nonneg h (by omega)
    have h2 : x / w ≤ x := Int.ediv_le_self _ h
    omega
  · have h1 : x ≤ x / w := (Int.le_ediv_iff_mul_le hw).mpr (by
      have : x * w ≤ x * 1 := Int.mul_le_mul_of_nonpos_left (by omega) (by omega)
      omega)
    have h2 : x / w < 0 := Int.ediv_neg_of_neg_of_pos (by omega) hw
    omega
theorem abs_mul_lt {x y : Int} {m n k : Nat} (hx : x.natAbs < 2 ^ m) (hy : y.natAbs < 2 ^ n) (h : m + n ≤ k) : (x * y).natAbs < 2 ^ k := by
  rw [Int.natAbs_mul]
  have h1 : x.natAbs * y.natAbs < 2 ^ m * 2 ^ n := Nat.mul_lt_mul'' hx hy
  rw [← Nat.pow_add] at h1
  exact Nat.lt_of_lt_of_le h1 (Nat.pow_le_pow_right (by decide) h)
theorem abs_mono {x : Int} {m k : Nat} (hx : x.natAbs < 2 ^ m) (h : m ≤ k) : x.natAbs < 2 ^ k := Nat.lt_of_lt_of_le hx (Nat.pow_le_pow_right (by decide) h)
theorem abs_add_lt {x y : Int} {m k : Nat} (hx : x.natAbs < 2 ^ m) (hy : y.natAbs < 2 ^ m) (h : m + 1 ≤ k) : (x + y).natAbs < 2 ^ k := by
  have h1 : (x + y).natAbs ≤ x.natAbs + y.natAbs := Int.natAbs_add_le _ _
  have h2 : 2 ^ (m + 1) = 2 ^ m + 2 ^ m := by rw [Nat.pow_succ]; omega
  have h3 : 2 ^ (m + 1) ≤ 2 ^ k := Nat.pow_le_pow_right (by decide) h
  omega
def digs : Int → List Int → List Int
  | _, [] => []
  | c, b :: r => c % b :: digs (c / b) r
def aftr : Int → List Int → Int
  | c, [] => c
  | c, b :: r => aftr (c / b) r
theorem digs_snoc : ∀ (c : Int) (l : List Int) (b : Int), digs c (l ++ [b]) = digs c l ++ [aftr c l % b]
  | _, [], _ => rfl
  | c, x :: r, b => by show c % x :: digs (c / x) (r ++ [b]) = _; rw [digs_snoc]; rfl
theorem aftr_snoc : ∀ (c : Int) (l : List Int) (b : Int), aftr c (l ++ [b]) = aftr c l / b
  | _, [], _ => rfl
  | c, x :: r, b => by show aftr (c / x) (r ++ [b]) = _; rw [aftr_snoc]; rfl
theorem digs_length : ∀ (c : Int) (l : List Int), (digs c l).length = l.length
  | _, [] => rfl
  | c, x :: r => by show (digs (c / x) r).length + 1 = _; rw [digs_length]; rfl
def mixed (c k : Int) : Int :=
  (c + 7919 * k * k + k) * 982451653 % 2305843009213693951 * ((c + 7919 * k * k + k) * 982451653 % 2305843009213693951 * 1000003 % 1152921504606846883) *
    ((c + 7919 * k * k + k) * 982451653 % 2305843009213693951 / 4096 + (c + 7919 * k * k + k) * 982451653 % 2305843009213693951 * 1000003 % 1152921504606846883 / 64 + 1)
theorem mixed_bd (c k : Int) : 0 ≤ mixed c k ∧ mixed c k < 10 ^ 60 := by
  unfold mixed
  generalize hn : (c + 7919 * k * k + k) * 982451653 % 2305843009213693951 = n
  have n0 : 0 ≤ n := by rw [← hn]; exact Int.emod_nonneg _ (by decide)
  have n1 : n < 2305843009213693951 := by rw [← hn]; exact Int.emod_lt_of_pos _ (by decide)
  generalize ho : n * 1000003 % 1152921504606846883 = o
  have o0 : 0 ≤ o := by rw [← ho]; exact Int.emod_nonneg _ (by decide)
  have o1 : o < 1152921504606846883 := by rw [← ho]; exact Int.emod_lt_of_pos _ (by decide)
  generalize hf : n / 4096 + o / 64 + 1 = f
  have f0 : 0 ≤ f := by omega
  have f1 : f < 20000000000000000 := by omega
  have p0 : 0 ≤ n * o := Int.mul_nonneg n0 o0
  have p1 : n * o ≤ 2305843009213693951 * 1152921504606846883 := Int.mul_le_mul (by omega) (by omega) o0 (by decide)
  refine ⟨Int.mul_nonneg p0 f0, ?_⟩
  have q : n * o * f ≤ (2305843009213693951 * 1152921504606846883) * 20000000000000000 := Int.mul_le_mul p1 (by omega) f0 (by decide)
  exact Int.lt_of_le_of_lt q (by decide)
def manyOf (ns : List Int) : Int :=
  if (if (63 : Int) < (ns.length : Int) then (63 : Int) else (ns.length : Int)) < 3 + ns.headD 0 / 2 % 61 then 3 + ns.headD 0 / 2 % 61 else if (63 : Int) < (ns.length : Int) then (63 : Int) else (ns.length : Int)
theorem manyOf_bd (ns : List Int) : 3 ≤ manyOf ns ∧ manyOf ns ≤ 63 := by
  unfold manyOf
  split <;> split <;> omega
def cells (ns : List Int) : List Int :=
  if 0 < ns.length ∧ ns.headD 0 % 2 = 1 then (List.range (manyOf ns).toNat).map fun (k : Nat) => mixed (ns.getD (k % ns.length) 0) k else (ns.take 63).map fun c => c % 10 ^ 60
theorem cells_len (ns : List Int) : (cells ns).length ≤ 63 := by
  have := manyOf_bd ns
  unfold cells
  split
  · rw [List.length_map, List.length_range]; omega
  · rw [List.length_map, List.length_take]; omega
theorem cells_bd (ns : List Int) : ∀ c ∈ cells ns, 0 ≤ c ∧ c < 10 ^ 60 := by
  intro c hc
  unfold cells at hc
  split at hc
  · obtain ⟨k, _, rfl⟩ := List.mem_map.mp hc
    exact mixed_bd _ _
  · obtain ⟨k, _, rfl⟩ := List.mem_map.mp hc
    exact ⟨Int.emod_nonneg _ (by decide), Int.emod_lt_of_pos _ (by decide)⟩
theorem small60 {c : Int} (h0 : 0 ≤ c) (h1 : c < 10 ^ 60) : c.natAbs < 2 ^ 200 := by
  have e : c.natAbs = c.toNat := by omega
  have h2 : (10 : Int) ^ 60 ≤ ((2 ^ 200 : Nat) : Int) := by decide
  omega
def FreshInts (H : Hp) (Q : VK) (ns : List Int) : Prop := ∀ p H', Same H H' → H p = Option.none → H' p = some (.lst (ns.map V.int)) → Q (.ref p) H'
def sp__law_digits (K : PySem.W.Frag) : Sp := fun vs H Q _ => ∃ c l bs, vs = [.int c, .ref l] ∧ SqL K H l (bs.map V.int) ∧ (∀ b ∈ bs, CDivB 0 b) ∧ bs.length ≤ 1000 ∧ FreshInts H Q (digs c bs)
def sp__law_mixed : Sp := fun vs H Q _ => ∃ c k, vs = [.int c, .int k] ∧ 0 ≤ k ∧ k < 1000 ∧ Q (.int (mixed c k)) H
def sp__law_cells (K : PySem.W.Frag) : Sp := fun vs H Q _ => ∃ a ns, vs = [.ref a] ∧ SqL K H a (ns.map V.int) ∧ ns.length ≤ 63 ∧ FreshInts H Q (cells ns)
def sp__law_whole : Sp := fun vs H Q _ => ∃ i, vs = [.int i] ∧ Q (.bl true) H
def sp_law (K : PySem.W.Frag) : Sp := fun vs H Q _ => ∃ (a : Addr) (ns : List Int), vs = [.ref a] ∧ SqL K H a (ns.map V.int) ∧ ns.length ≤ 63 ∧ ∀ H', Q (.bl true) H'
theorem map_get {ns : List Int} {i : Nat} {y : V} (h : (ns.map V.int)[i]? = some y) : ∃ z, y = V.int z ∧ ns[i]? = some z := by
  rw [List.getElem?_map] at h
  cases e : ns[i]? with
  | none => rw [e] at h; cases h
  | some z => rw [e] at h; exact ⟨z, (Option.some.inj h).symm, rfl⟩
theorem tyL {K : PySem.W.Frag} {H : Hp} {p : Addr} {xs : List V} (h : SqL K H p xs) : tyV K "list" (.ref p) H := .inl ⟨rfl, _, h⟩
end
end My
namespace My
open PySem L2 PyProof.Rows
section
variable {P : Program} {w : World} {K : PySem.W.Frag} {mg : Str → Option Value} {base : Heap} {A : Adr} {D : Fds}
theorem dep_ints (xs : List Int) : depD (.lst (xs.map DV.int)) = 1 := by
  show depDs (xs.map DV.int) + 1 = 1
  rw [depDs_ints]
theorem rNeD_ints {H : Hp} {Q : VK} {p q : Addr} {xs ys : List Int} (h1 : SqL K H p (xs.map V.int)) (h2 : SqL K H q (ys.map V.int)) (hQ : Q (.bl (!decide (xs = ys))) H) : rNeD K (.ref p) (.ref q) H Q :=
  ⟨.lst (xs.map DV.int), .lst (ys.map DV.int), .lst h1 (repsD_ints K H xs), .lst h2 (repsD_ints K H ys), by rw [dep_ints]; decide, by rw [dep_ints]; decide, by rw [deqD_lst, deqDs_ints]; exact hQ⟩
theorem rEqD_ints {H : Hp} {Q : VK} {p q : Addr} {xs ys : List Int} (h1 : SqL K H p (xs.map V.int)) (h2 : SqL K H q (ys.map V.int)) (hQ : Q (.bl (decide (xs = ys))) H) : rEqD K (.ref p) (.ref q) H Q :=
  ⟨.lst (xs.map DV.int), .lst (ys.map DV.int), .lst h1 (repsD_ints K H xs), .lst h2 (repsD_ints K H ys), by rw [dep_ints]; decide, by rw [dep_ints]; decide, by rw [deqD_lst, deqDs_ints]; exact hQ⟩
theorem atI_map {ns : List Int} {i : Nat} {x : Int} {j : Int} (h : ns[i]? = some x) (e : j = (i : Int)) : atI (ns.map V.int) j = some (.int x) := by
  rw [e]
  refine atI_nat ?_
  rw [List.getElem?_map, h]
  rfl
end
end My
namespace My
open PySem L2 PyProof.Rows
section
variable {P : Program} {w : World} {K : PySem.W.Frag} {mg : Str → Option Value} {base : Heap} {A : Adr} {D : Fds}
local macro_rules | `(tactic| walk_at "nx") => `(tactic| ((try dsimp only); rw [ap_seq]; walk_at "rdi"))
def cellV (ns : List Int) (k : Nat) : Int := if k < ns.length then ns.getD k 0 else if ns = [] then 0 else (ns.getD (k % ns.length) 0 + k) * 48271 % 2147483647 * 69621 % 2147483629
def sp__law_cell (K : PySem.W.Frag) : Sp := fun vs H Q _ => ∃ (a : Addr) (ns : List Int) (k : Nat), vs = [.ref a, .int k] ∧ SqL K H a (ns.map V.int) ∧ ns.length ≤ 63 ∧ ∀ H', Same H H' → Q (.int (cellV ns k)) H'
theorem ints_at {ns : List Int} {k : Nat} (h : k < ns.length) : atI (ns.map V.int) (k : Int) = some (.int (ns.getD k 0)) := by
  refine atI_nat ?_
  rw [List.getElem?_map, List.getElem?_eq_getElem h, List.getD_eq_getElem?_getD, List.getElem?_eq_getElem h]
  rfl
theorem ok__law_cell (T : Txt K mg A D) : FnOk P w K mg base CX0 1 A._law_cell D._law_cell ["_law_script", "_law_k"] (sp__law_cell K) := by
  refine T.F__law_cell.ok sc__law_cell (fun vs H Q E h => ?_) (fun cdv A outer s H vs Q E hr h => ?_)
  · obtain ⟨a, ns, k', rfl, _⟩ := h; rfl
  · obtain ⟨a, ns, k', rfl, hS, hl, k⟩ := h
    refine ⟨_, (pss_cons (ps_if (pt_cmpR (op_lt) (pv 1) (pe_callB (call_lenK (K := K)) (by rfl) T.b_len (by decide +kernel) (pa_cons (pv 0) pa_nil)) (nomark _)) (pss_one (ps_ret (pe_ix (ix_listK (K := K)) (pv 0) (pv 1) (fun _ _ => rfl)))) pss_nil)
      (pss_cons (ps_if (pt_cmpR (op_eqDK (K := K) hr) (pv 0) (pe_lst pa_nil) (nomark _)) (pss_one (ps_ret pe_int)) pss_nil)
      (pss_one (ps_ret (pe_op op_mod (pe_op op_mulU (pe_op op_mod (pe_op op_mulU (pe_op op_add (pe_ix (ix_listK (K := K)) (pv 0) (pe_op op_mod (pv 1) (pe_callB (call_lenK (K := K)) (by rfl) T.b_len (by decide +kernel) (pa_cons (pv 0) pa_nil))) (fun _ _ => rfl)) (pv 1)) pe_int) pe_int) pe_int) pe_int))))), ?_⟩
    simp only [start_eq]
    walk_at "nx"
    refine ⟨_, .inl hS, ?_⟩
    rw [List.length_map]
    by_cases h : k' < ns.length
    · rw [if_pos (by omega)]
      have := k H (Same.refl H)
      rw [cellV, if_pos h] at this
      exact ⟨_, hS, _, ints_at h, this⟩
    · rw [if_neg (by omega)]
      walk_at "nx"
      refine ⟨by rw [sizeLine_eq]; decide, fun q hq => ?_⟩
      have s1 := Same.new (o := .lst []) hq
      have hq1 : (upd H q (.lst [])) q = some (.lst []) := upd_same
      generalize upd H q _ = H1 at s1 hq1
      refine rEqD_ints (ys := []) (s1.seq hS) (SqL.of hq1) ?_
      have kk := k H1 s1
      rw [cellV, if_neg h] at kk
      by_cases h0 : ns = []
      · rw [if_pos h0] at kk
        simp only [h0, decide_true]
        walk_at "rda"
        exact kk
      · rw [if_neg h0] at kk
        have hp : 0 < ns.length := List.length_pos_iff.mpr h0
        simp only [h0, decide_false]
        walk_at "rda"
        refine ⟨_, .inl (s1.seq hS), by rw [List.length_map]; omega, _, s1.seq hS, _, ?_, _, rfl, CMulU.r (by decide) (by decide), by decide, CMulU.r (by decide) (by decide), by decide, kk⟩
        rw [List.length_map, show ((k' : Int) % (ns.length : Int)) = ((k' % ns.length : Nat) : Int) by simp]
        exact ints_at (Nat.mod_lt _ hp)
end
end My
namespace My
open PySem L2 PyProof.Rows
section
variable {P : Program} {w : World} {K : PySem.W.Frag} {mg : Str → Option Value} {base : Heap} {A : Adr} {D : Fds}
local macro_rules | `(tactic| walk_at "nx") => `(tactic| ((try dsimp only); rw [ap_seq]; walk_at "rdi"))
structure New (B H : Hp) (x : Addr) (C dx : Addr) (fs : List (Str × V)) : Prop where
  s : Same B H
  n : B x = Option.none
  h : H x = some (.ins C dx fs)
theorem New.put {B H : Hp} {x C dx : Addr} {fs gs : List (Str × V)} (h : New B H x C dx fs) (e : gs = gs) : New B (upd H x (.ins C dx gs)) x C dx gs := ⟨h.s.upd h.n, h.n, upd_same⟩
theorem new_mk {H : Hp} {x C dx : Addr} (hx : H x = Option.none) (hdx : H dx = Option.none) : New H (upd (upd H dx (.own x)) x (.ins C dx [])) x C dx [] := ⟨(Same.new hdx).upd hx, hx, upd_same⟩
def spW (z : Str) : Sp := fun vs H Q _ => ∃ x : Addr, vs = [.ref x] ∧ Q (.str z) H
theorem ok_Eldest_word (T : Txt K mg A D) : FnOk P w K mg base CX0 1 A.Eldest_word D.Eldest_word ["self"] (spW "eldest") := by
  refine T.F_Eldest_word.ok sc_Eldest_word (fun vs H Q E h => ?_) (fun cdv A' outer s0 H vs Q E hr h => ?_)
  · obtain ⟨x, rfl, _⟩ := h; rfl
  · obtain ⟨x, rfl, k⟩ := h
    refine ⟨_, (pss_one (ps_ret pe_str)), ?_⟩
    walk_at "rda"
    exact k
theorem ok_Newest_word (T : Txt K mg A D) : FnOk P w K mg base CX0 1 A.Newest_word D.Newest_word ["self"] (spW "newest") := by
  refine T.F_Newest_word.ok sc_Newest_word (fun vs H Q E h => ?_) (fun cdv A' outer s0 H vs Q E hr h => ?_)
  · obtain ⟨x, rfl, _⟩ := h; rfl
  · obtain ⟨x, rfl, k⟩ := h
    refine ⟨_, (pss_one (ps_ret pe_str)), ?_⟩
    walk_at "rda"
    exact k
theorem ok_Dearest_word (T : Txt K mg A D) : FnOk P w K mg base CX0 1 A.Dearest_word D.Dearest_word ["self"] (spW "dearest") := by
  refine T.F_Dearest_word.ok sc_Dearest_word (fun vs H Q E h => ?_) (fun cdv A' outer s0 H vs Q E hr h => ?_)
  · obtain ⟨x, rfl, _⟩ := h; rfl
  · obtain ⟨x, rfl, k⟩ := h
    refine ⟨_, (pss_one (ps_ret pe_str)), ?_⟩
    walk_at "rda"
    exact k
theorem ok_Mean_word (T : Txt K mg A D) : FnOk P w K mg base CX0 1 A.Mean_word D.Mean_word ["self"] (spW "mean") := by
  refine T.F_Mean_word.ok sc_Mean_word (fun vs H Q E h => ?_) (fun cdv A' outer s0 H vs Q E hr h => ?_)
  · obtain ⟨x, rfl, _⟩ := h; rfl
  · obtain ⟨x, rfl, k⟩ := h
    refine ⟨_, (pss_one (ps_ret pe_str)), ?_⟩
    walk_at "rda"
    exact k
inductive WayC (A : Adr) : Str → Addr → Prop
  | e : WayC A "eldest" A.C_Eldest
  | n : WayC A "newest" A.C_Newest
  | d : WayC A "dearest" A.C_Dearest
  | m : WayC A "mean" A.C_Mean
theorem WayC.is {z : Str} {C : Addr} (h : WayC A z C) {z' : Str} {C' : Addr} (h' : WayC A z' C') (e : z' = z) : C' = C := by
  cases h <;> cases h' <;> first | rfl | exact absurd e (by decide +kernel)
theorem ne_next {l : List Str} {i : Nat} {z x : Str} (hx : l[i]? = some x) (hn : ∀ u ∈ l.take i, u ≠ z) (h : x ≠ z) : ∀ u ∈ l.take (i + 1), u ≠ z := by
  rw [List.take_add_one, hx]
  intro u hu
  rcases List.mem_append.mp hu with hu | hu
  · exact hn u hu
  · obtain rfl := List.mem_singleton.mp hu
    exact h
def words4 : List Str := ["eldest", "newest", "dearest", "mean"]
theorem way_in {z : Str} (h : z ∈ words4) : ∃ C, WayC A z C := by
  rcases List.mem_cons.mp h with rfl | h
  · exact ⟨_, .e⟩
  rcases List.mem_cons.mp h with rfl | h
  · exact ⟨_, .n⟩
  rcases List.mem_cons.mp h with rfl | h
  · exact ⟨_, .d⟩
  rcases List.mem_cons.mp h with rfl | h
  · exact ⟨_, .m⟩
  cases h
theorem WayC.mem {z : Str} {C : Addr} (h : WayC A z C) : z ∈ words4 := by
  cases h
  · exact List.mem_cons_self
  · exact List.mem_cons_of_mem _ List.mem_cons_self
  · exact List.mem_cons_of_mem _ (List.mem_cons_of_mem _ List.mem_cons_self)
  · exact List.mem_cons_of_mem _ (List.mem_cons_of_mem _ (List.mem_cons_of_mem _ List.mem_cons_self))
def Asc (z : Str) : Prop := z.length ≤ 200 ∧ ∀ c ∈ z.cps.toList, c < 128
theorem Asc.repr {z : Str} (h : Asc z) : (reprText z).length ≤ 100000 := by
  have := StrLaws.reprText_len z fun c hc => Nat.lt_of_lt_of_le (h.2 c hc) (by decide)
  have := h.1
  omega
def sp_way_by (A : Adr) : Sp := fun vs H Q E => ∃ (z : Str), vs = [.str z] ∧ Asc z ∧ ((∃ C, WayC A z C ∧ ∀ x dx H', Same H H' → H x = Option.none → H' x = some (.ins C dx []) → Q (.ref x) H') ∨ (z ∉ words4 ∧ ∀ H', Same H H' → E (.ref A.C_NoWay) Option.none H'))
theorem ok_way_by (T : Txt K mg A D) : FnOk P w K mg base (CX1 P w) 2 A.way_by D.way_by ["word"] (sp_way_by A) := by
  refine T.F_way_by.okX sc_way_by (fun vs H Q E h => ?_) (fun cdv A' outer s0 H vs Q E hr h => ?_)
  · obtain ⟨z, rfl, _⟩ := h; rfl
  · obtain ⟨z, rfl, hz0, hk⟩ := h
    refine ⟨_, (pss_cons (PS.nox (ps_for PassesOwn.never rfl (pi_listK (K := K) (pe_lst (pa_cons (pe_new0 T.mk0_Eldest (by rfl) T.m_Eldest) (pa_cons (pe_new0 T.mk0_Newest (by rfl) T.m_Newest) (pa_cons (pe_new0 T.mk0_Dearest (by rfl) T.m_Dearest) (pa_cons (pe_new0 T.mk0_Mean (by rfl) T.m_Mean) pa_nil)))))) (pg_name (i := 1) sc_way_by.nd rfl (Or.inl rfl))
        (pss_one (ps_if (pt_cmpR (op_eq) (pe_methD0 (pv 1) (.cons T.cl_Eldest T.me_Eldest_word (ok_Eldest_word (K := K) T) (hr.mono (by decide)) (b_Eldest_word T) (.cons T.cl_Newest T.me_Newest_word (ok_Newest_word (K := K) T) (hr.mono (by decide)) (b_Newest_word T) (.cons T.cl_Dearest T.me_Dearest_word (ok_Dearest_word (K := K) T) (hr.mono (by decide)) (b_Dearest_word T) (.cons T.cl_Mean T.me_Mean_word (ok_Mean_word (K := K) T) (hr.mono (by decide)) (b_Mean_word T) .nil)))) pass0) (pv 0) (nomark _)) (pss_one (ps_ret (pv 1))) pss_nil))))
      (pss_one (ps_raise raises_cx rfl T.x_NoWay (by rfl) T.m_NoWay (pa_cons (pe_fstrR (pv 0)) pa_nil)))), ?_⟩
    simp only [start_eq]
    rw [ap_seq, ap_for]
    walk_at "rdi"
    intro x0 d0 hx0 hd0 n0 x1 d1 hx1 hd1 n1 x2 d2 hx2 hd2 n2 x3 d3 hx3 hd3 n3
    refine ⟨by rw [sizeLine_eq]; decide, fun p hp => ⟨⟨_, SqL.of upd_same⟩, ?_⟩⟩
    have a0 := new_mk (C := A.C_Eldest) hx0 hd0
    have a1 := new_mk (C := A.C_Newest) hx1 hd1
    have a2 := new_mk (C := A.C_Dearest) hx2 hd2
    have a3 := new_mk (C := A.C_Mean) hx3 hd3
    have ap := Same.new (o := .lst [V.ref x0, V.ref x1, V.ref x2, V.ref x3]) hp
    have t3 := a3.s.trans ap
    have t2 := a2.s.trans t3
    have t1 := a1.s.trans t2
    have S := a0.s.trans t1
    have f0 := t1 _ _ a0.h
    have f1 := t2 _ _ a1.h
    have f2 := t3 _ _ a2.h
    have f3 := ap _ _ a3.h
    have e1 := a0.s.free hx1
    have e2 := (a0.s.trans a1.s).free hx2
    have e3 := (a0.s.trans (a1.s.trans a2.s)).free hx3
    have hl : (upd (upd (upd (upd (upd (upd (upd (upd (upd H d0 (HO.own x0)) x0 (HO.ins A.C_Eldest d0 [])) d1 (HO.own x1)) x1 (HO.ins A.C_Newest d1 [])) d2 (HO.own x2)) x2 (HO.ins A.C_Dearest d2 [])) d3 (HO.own x3)) x3 (HO.ins A.C_Mean d3 [])) p (HO.lst [V.ref x0, V.ref x1, V.ref x2, V.ref x3])) p = some (.lst [V.ref x0, V.ref x1, V.ref x2, V.ref x3]) := upd_same
    clear a0 a1 a2 a3 ap t1 t2 t3
    generalize upd _ p (HO.lst [V.ref x0, V.ref x1, V.ref x2, V.ref x3]) = Hf at S f0 f1 f2 f3 hl
    refine ForP.list (K := K) (a := p) (xs := [V.ref x0, V.ref x1, V.ref x2, V.ref x3]) (fun i σ H' => (∃ v, σ = [some (.str z), v]) ∧ H' = Hf ∧ ∀ u ∈ (["eldest", "newest", "dearest", "mean"] : List Str).take i, u ≠ z)
      ⟨⟨_, rfl⟩, rfl, fun u h => (List.not_mem_nil h).elim⟩ (fun i σ H' _ ⟨_, e, _⟩ => e ▸ SqL.of hl) ?_ ?_
    · rintro i y σ H' hy ⟨⟨v, rfl⟩, rfl, hn⟩
      rcases i with _ | _ | _ | _ | i
      · cases hy
        walk_at "rdi"
        refine ⟨_, d0, _, f0, _, List.mem_cons_self, by rfl, x0, rfl, rfl, ?_⟩
        by_cases hz : Str.ofString "eldest" = z
        · rw [if_pos (by rw [hz])]
          rcases hk with ⟨C, hC, k⟩ | ⟨hno, _⟩
          · exact k x0 d0 _ S hx0 (hC.is (WayC.e (A := A)) hz ▸ f0)
          · exact (hno (hz ▸ (WayC.e (A := A)).mem)).elim
        · rw [if_neg (by simpa using hz)]
          exact ⟨rfl, ne_next (i := 0) rfl hn hz⟩
      · cases hy
        walk_at "rdi"
        refine ⟨_, d1, _, f1, _, (List.mem_cons_of_mem _ List.mem_cons_self), by rfl, x1, rfl, rfl, ?_⟩
        by_cases hz : Str.ofString "newest" = z
        · rw [if_pos (by rw [hz])]
          rcases hk with ⟨C, hC, k⟩ | ⟨hno, _⟩
          · exact k x1 d1 _ S e1 (hC.is (WayC.n (A := A)) hz ▸ f1)
          · exact (hno (hz ▸ (WayC.n (A := A)).mem)).elim
        · rw [if_neg (by simpa using hz)]
          exact ⟨rfl, ne_next (i := 1) rfl hn hz⟩
      · cases hy
        walk_at "rdi"
        refine ⟨_, d2, _, f2, _, (List.mem_cons_of_mem _ (List.mem_cons_of_mem _ List.mem_cons_self)), by rfl, x2, rfl, rfl, ?_⟩
        by_cases hz : Str.ofString "dearest" = z
        · rw [if_pos (by rw [hz])]
          rcases hk with ⟨C, hC, k⟩ | ⟨hno, _⟩
          · exact k x2 d2 _ S e2 (hC.is (WayC.d (A := A)) hz ▸ f2)
          · exact (hno (hz ▸ (WayC.d (A := A)).mem)).elim
        · rw [if_neg (by simpa using hz)]
          exact ⟨rfl, ne_next (i := 2) rfl hn hz⟩
      · cases hy
        walk_at "rdi"
        refine ⟨_, d3, _, f3, _, (List.mem_cons_of_mem _ (List.mem_cons_of_mem _ (List.mem_cons_of_mem _ List.mem_cons_self))), by rfl, x3, rfl, rfl, ?_⟩
        by_cases hz : Str.ofString "mean" = z
        · rw [if_pos (by rw [hz])]
          rcases hk with ⟨C, hC, k⟩ | ⟨hno, _⟩
          · exact k x3 d3 _ S e3 (hC.is (WayC.m (A := A)) hz ▸ f3)
          · exact (hno (hz ▸ (WayC.m (A := A)).mem)).elim
        · rw [if_neg (by simpa using hz)]
          exact ⟨rfl, ne_next (i := 3) rfl hn hz⟩
      · cases hy
    · rintro σ H' ⟨⟨v, rfl⟩, rfl, hn⟩
      have hn : ∀ u ∈ (["eldest", "newest", "dearest", "mean"] : List Str), u ≠ z := hn
      rcases hk with ⟨C, hC, k⟩ | ⟨hno, k⟩
      · exact (hn _ hC.mem rfl).elim
      · walk_at "rda"
        exact ⟨hz0.repr, by rw [sizeLine_eq]; decide, k _ S⟩
end
end My
namespace My
open PySem L2 PyProof.Rows
section
variable {P : Program} {w : World} {K : PySem.W.Frag} {mg : Str → Option Value} {base : Heap} {A : Adr} {D : Fds}
local macro_rules | `(tactic| walk_at "nx") => `(tactic| ((try dsimp only); rw [ap_seq]; walk_at "rdi"))
def sp__law_refused : Sp := fun vs H Q _ => ∃ (z : Str), vs = [.str z] ∧ Asc z ∧ z ∉ words4 ∧ ∀ H', Same H H' → Q (.bl true) H'
theorem ok__law_refused (T : Txt K mg A D) : FnOk P w K mg base CX0 3 A._law_refused D._law_refused ["_law_text"] (sp__law_refused) := by
  refine T.F__law_refused.ok sc__law_refused (fun vs H Q E h => ?_) (fun cdv A' outer s H vs Q E hr h => ?_)
  · obtain ⟨z, rfl, _⟩ := h; rfl
  · obtain ⟨z, rfl, hz, hno, k⟩ := h
    refine ⟨_, (pss_cons (ps_set (i := 1) sc__law_refused.nd rfl (Or.inl rfl) (pe_lst pa_nil))
      (pss_cons (ps_trySub (i := 2) (pex_call (ok_way_by (K := K) T) (hr.mono (by decide)) (by rfl) T.m_way_by T.k_way_by (b_way_by T) .nil (pa_cons (pv 0) pa_nil)) T.x_NoWay T.x_LotError T.su_NoWay_LotError (by rfl) T.m_LotError rfl rfl sc__law_refused.nd rfl rfl (fun ea => (pss_cons (ps_set (i := 1) sc__law_refused.nd rfl (Or.inl rfl) (pe_lst (pa_cons (pe_callB (call_isXK (K := K)) (by rfl) T.b_isinstance (by decide +kernel) (pa_cons (pv 2) (pa_cons (pe_glob (v := V.ref A.C_NoWay) (by rfl) T.m_NoWay rfl) pa_nil))) (pa_cons (pe_callB (call_isXK (K := K)) (by rfl) T.b_isinstance (by decide +kernel) (pa_cons (pv 2) (pa_cons (pe_ty "ValueError" (by rfl) T.b_ValueError (by decide +kernel)) pa_nil))) pa_nil))))
        (pss_cons (ps_expr (pe_bmK (K := K) PySem.F.plainAttrs_list PySem.F.slot_list_append PySem.F.type_list_append mt_append (pv 1) (pa_cons (pe_callB (call_isXsK (K := K)) (by rfl) T.b_isinstance (by decide +kernel) (pa_cons (pv 2) (pa_cons (pe_tup (pa_cons (pe_glob (v := V.ref A.C_Late) (by rfl) T.m_Late rfl) (pa_cons (pe_glob (v := V.ref A.C_NoEntry) (by rfl) T.m_NoEntry rfl) (pa_cons (pe_glob (v := V.ref A.C_NoNumber) (by rfl) T.m_NoNumber rfl) (pa_cons (pe_glob (v := V.ref A.C_NoPieces) (by rfl) T.m_NoPieces rfl) (pa_cons (pe_glob (v := V.ref A.C_NotHeld) (by rfl) T.m_NotHeld rfl) pa_nil)))))) pa_nil))) pa_nil)))
        (pss_one (ps_expr (pe_bmK (K := K) PySem.F.plainAttrs_list PySem.F.slot_list_append PySem.F.type_list_append mt_append (pv 1) (pa_cons (pe_callB (call_isXsK (K := K)) (by rfl) T.b_isinstance (by decide +kernel) (pa_cons (pv 2) (pa_cons (pe_tup (pa_cons (pe_glob (v := V.ref A.C_NoText) (by rfl) T.m_NoText rfl) (pa_cons (pe_glob (v := V.ref A.C_NoLot) (by rfl) T.m_NoLot rfl) (pa_cons (pe_glob (v := V.ref A.C_NoWeights) (by rfl) T.m_NoWeights rfl) (pa_cons (pe_glob (v := V.ref A.C_Twice) (by rfl) T.m_Twice rfl) pa_nil))))) pa_nil))) pa_nil))))))))
      (pss_one (ps_ret (pe_cmpR (op_eqDK (K := K) hr) (pv 1) (pe_lst (pa_cons pe_bl (pa_cons pe_bl (pa_cons pe_bl (pa_cons pe_bl pa_nil))))) (nomark _)))))), ?_⟩
    walk_at "rd"
    refine ⟨Nat.zero_le _, fun p hp => ?_⟩
    walk_at "rda"
    have lz : ∀ n : Nat, n ≤ 1000 → n ≤ sizeLine := fun n h => by rw [sizeLine_eq]; omega
    refine ⟨z, rfl, hz, .inr ⟨hno, fun H1 s1 => ⟨rfl, fun ea hea => ?_⟩⟩⟩
    have S1 := (Same.new (o := .lst []) hp).trans (s1.trans (Same.new (o := excO A.C_NoWay ea) hea))
    have he : (upd H1 ea (excO A.C_NoWay ea)) ea = some (excO A.C_NoWay ea) := upd_same
    generalize upd H1 ea (excO A.C_NoWay ea) = H2 at S1 he
    refine ⟨_, he, T.x_NoWay, T.y_NoWay, true, .inl T.kx1, _, he, T.x_NoWay, T.y_NoWay, true, .inr T.kx2, lz _ (by decide), fun p2 hp2 => ?_⟩
    have S2 := S1.trans (Same.new (o := .lst [V.bl true, V.bl true]) hp2)
    have he2 := Same.new (o := .lst [V.bl true, V.bl true]) hp2 _ _ he
    have fp2 := S1.free hp2
    have g2 : (upd H2 p2 (.lst [V.bl true, V.bl true])) p2 = some (.lst [V.bl true, V.bl true]) := upd_same
    generalize upd H2 p2 (.lst [V.bl true, V.bl true]) = H3 at S2 he2 g2
    refine ⟨.inl ⟨rfl, _, SqL.of g2⟩, lz _ (by decide), fun p3 hp3 => ?_⟩
    have s3 := Same.new (o := .tup [V.ref A.C_Late, V.ref A.C_NoEntry, V.ref A.C_NoNumber, V.ref A.C_NoPieces, V.ref A.C_NotHeld]) hp3
    have he3 := s3 _ _ he2
    have g3 := s3 _ _ g2
    have t3 : (upd H3 p3 (.tup [V.ref A.C_Late, V.ref A.C_NoEntry, V.ref A.C_NoNumber, V.ref A.C_NoPieces, V.ref A.C_NotHeld])) p3 = some (.tup ([A.C_Late, A.C_NoEntry, A.C_NoNumber, A.C_NoPieces, A.C_NotHeld].map V.ref)) := upd_same
    have S3 := S2.trans s3
    generalize upd H3 p3 (.tup [V.ref A.C_Late, V.ref A.C_NoEntry, V.ref A.C_NoNumber, V.ref A.C_NoPieces, V.ref A.C_NotHeld]) = H4 at he3 g3 t3 S3
    have hne : ea ≠ p2 := fun e => by rw [e, g3] at he3; cases he3
    have he4 : ∀ o, (upd H4 p2 o) ea = some (excO A.C_NoWay ea) := fun o => (upd_ne hne).trans he3
    refine ⟨_, he3, T.x_NoWay, T.y_NoWay, _, t3, false, T.kx3, _, g3, lz _ (by decide), ?_⟩
    rw [show ([V.bl true, V.bl true] ++ [V.bl false]) = [V.bl true, V.bl true, V.bl false] from rfl]
    have S4 : Same H (upd H4 p2 (.lst [V.bl true, V.bl true, V.bl false])) := S3.upd fp2
    have he5 := he4 (.lst [V.bl true, V.bl true, V.bl false])
    have g4 : (upd H4 p2 (.lst [V.bl true, V.bl true, V.bl false])) p2 = some (.lst [V.bl true, V.bl true, V.bl false]) := upd_same
    generalize upd H4 p2 (.lst [V.bl true, V.bl true, V.bl false]) = H5 at S4 he5 g4
    refine ⟨.inl ⟨rfl, _, SqL.of g4⟩, lz _ (by decide), fun p5 hp5 => ?_⟩
    have s6 := Same.new (o := .tup [V.ref A.C_NoText, V.ref A.C_NoLot, V.ref A.C_NoWeights, V.ref A.C_Twice]) hp5
    have he6 := s6 _ _ he5
    have g6 := s6 _ _ g4
    have t6 : (upd H5 p5 (.tup [V.ref A.C_NoText, V.ref A.C_NoLot, V.ref A.C_NoWeights, V.ref A.C_Twice])) p5 = some (.tup ([A.C_NoText, A.C_NoLot, A.C_NoWeights, A.C_Twice].map V.ref)) := upd_same
    have S6 := S4.trans s6
    generalize upd H5 p5 (.tup [V.ref A.C_NoText, V.ref A.C_NoLot, V.ref A.C_NoWeights, V.ref A.C_Twice]) = H6 at he6 g6 t6 S6
    refine ⟨_, he6, T.x_NoWay, T.y_NoWay, _, t6, false, T.kx4, _, g6, lz _ (by decide), lz _ (by decide), fun p7 hp7 => ?_⟩
    have S7 : Same H (upd H6 p2 (.lst ([V.bl true, V.bl true, V.bl false] ++ [V.bl false]))) := S6.upd fp2
    have g7 : (upd H6 p2 (.lst ([V.bl true, V.bl true, V.bl false] ++ [V.bl false]))) p2 = some (.lst [V.bl true, V.bl true, V.bl false, V.bl false]) := upd_same
    generalize upd H6 p2 (.lst ([V.bl true, V.bl true, V.bl false] ++ [V.bl false])) = H7 at S7 g7 hp7
    refine ⟨.lst [.bl true, .bl true, .bl false, .bl false], .lst [.bl true, .bl true, .bl false, .bl false], .lst (SqL.of (Same.new hp7 _ _ g7)) (.cons (.bl _) (.cons (.bl _) (.cons (.bl _) (.cons (.bl _) .nil)))), .lst (SqL.of upd_same) (.cons (.bl _) (.cons (.bl _) (.cons (.bl _) (.cons (.bl _) .nil)))), by decide, by decide, ?_⟩
    rw [deqD_refl]
    exact k _ (S7.trans (Same.new hp7))
inductive KdC (A : Adr) : Addr → List Bool → Prop
  | e : KdC A A.C_Eldest [true, false, false, false, true]
  | n : KdC A A.C_Newest [false, true, false, false, true]
  | d : KdC A A.C_Dearest [false, false, true, false, true]
  | m : KdC A A.C_Mean [true, false, false, true, true]
def sp__law_kinds (A : Adr) : Sp := fun vs H Q _ => ∃ (x C dx : Addr) (bs : List Bool), vs = [.ref x] ∧ H x = some (.ins C dx []) ∧ KdC A C bs ∧ ∀ l H', Same H H' → H l = Option.none → H' l = some (.lst (bs.map V.bl)) → Q (.ref l) H'
theorem ok__law_kinds (T : Txt K mg A D) : FnOk P w K mg base CX0 1 A._law_kinds D._law_kinds ["_law_way"] (sp__law_kinds A) := by
  refine T.F__law_kinds.ok sc__law_kinds (fun vs H Q E h => ?_) (fun cdv A' outer s H vs Q E hr h => ?_)
  · obtain ⟨x, C, dx, bs, rfl, _⟩ := h; rfl
  · obtain ⟨x, C, dx, bs, rfl, hx, hC, k⟩ := h
    refine ⟨_, (pss_cons (ps_set (i := 1) sc__law_kinds.nd rfl (Or.inl rfl) (pe_lst (pa_cons (pe_callB (call_isCK (K := K)) (by rfl) T.b_isinstance (by decide +kernel) (pa_cons (pv 0) (pa_cons (pe_glob (v := V.ref A.C_Eldest) (by rfl) T.m_Eldest rfl) pa_nil))) (pa_cons (pe_callB (call_isCK (K := K)) (by rfl) T.b_isinstance (by decide +kernel) (pa_cons (pv 0) (pa_cons (pe_glob (v := V.ref A.C_Newest) (by rfl) T.m_Newest rfl) pa_nil))) (pa_cons (pe_callB (call_isCK (K := K)) (by rfl) T.b_isinstance (by decide +kernel) (pa_cons (pv 0) (pa_cons (pe_glob (v := V.ref A.C_Dearest) (by rfl) T.m_Dearest rfl) pa_nil))) pa_nil)))))
      (pss_one (ps_ret (pe_op op_cat (pv 1) (pe_lst (pa_cons (pe_callB (call_isCK (K := K)) (by rfl) T.b_isinstance (by decide +kernel) (pa_cons (pv 0) (pa_cons (pe_glob (v := V.ref A.C_Mean) (by rfl) T.m_Mean rfl) pa_nil))) (pa_cons (pe_callB (call_isCK (K := K)) (by rfl) T.b_isinstance (by decide +kernel) (pa_cons (pv 0) (pa_cons (pe_glob (v := V.ref A.C_Way) (by rfl) T.m_Way rfl) pa_nil))) pa_nil))))))), ?_⟩
    simp only [start_eq]
    walk_at "nx"
    have lz : ∀ n : Nat, n ≤ 1000 → n ≤ sizeLine := fun n h => by rw [sizeLine_eq]; omega
    cases hC with
    | e =>
      have ty : ∀ {H : Hp}, H x = some (.ins A.C_Eldest dx []) → TyOf K H (.ref x) (.ref A.C_Eldest) := fun h => T.ty_Eldest.of h
      refine ⟨_, ty hx, _, T.kc_Eldest_Eldest, _, ty hx, _, T.kc_Eldest_Newest, _, ty hx, _, T.kc_Eldest_Dearest, lz _ (by decide), fun p hp => ?_⟩
      have u1 := Same.new (o := .lst [V.bl true, V.bl false, V.bl false]) hp
      refine ⟨_, ty (u1 _ _ hx), _, T.kc_Eldest_Mean, _, ty (u1 _ _ hx), _, T.kc_Eldest_Way, lz _ (by decide), fun p1 hp1 => ?_⟩
      have u2 := Same.new (o := .lst [V.bl false, V.bl true]) hp1
      exact ⟨_, u2 _ _ upd_same, _, upd_same, lz _ (by decide), fun p2 hp2 => k p2 _ ((u1.trans u2).trans (Same.new hp2)) ((u1.trans u2).free hp2) upd_same⟩
    | n =>
      have ty : ∀ {H : Hp}, H x = some (.ins A.C_Newest dx []) → TyOf K H (.ref x) (.ref A.C_Newest) := fun h => T.ty_Newest.of h
      refine ⟨_, ty hx, _, T.kc_Newest_Eldest, _, ty hx, _, T.kc_Newest_Newest, _, ty hx, _, T.kc_Newest_Dearest, lz _ (by decide), fun p hp => ?_⟩
      have u1 := Same.new (o := .lst [V.bl false, V.bl true, V.bl false]) hp
      refine ⟨_, ty (u1 _ _ hx), _, T.kc_Newest_Mean, _, ty (u1 _ _ hx), _, T.kc_Newest_Way, lz _ (by decide), fun p1 hp1 => ?_⟩
      have u2 := Same.new (o := .lst [V.bl false, V.bl true]) hp1
      exact ⟨_, u2 _ _ upd_same, _, upd_same, lz _ (by decide), fun p2 hp2 => k p2 _ ((u1.trans u2).trans (Same.new hp2)) ((u1.trans u2).free hp2) upd_same⟩
    | d =>
      have ty : ∀ {H : Hp}, H x = some (.ins A.C_Dearest dx []) → TyOf K H (.ref x) (.ref A.C_Dearest) := fun h => T.ty_Dearest.of h
      refine ⟨_, ty hx, _, T.kc_Dearest_Eldest, _, ty hx, _, T.kc_Dearest_Newest, _, ty hx, _, T.kc_Dearest_Dearest, lz _ (by decide), fun p hp => ?_⟩
      have u1 := Same.new (o := .lst [V.bl false, V.bl false, V.bl true]) hp
      refine ⟨_, ty (u1 _ _ hx), _, T.kc_Dearest_Mean, _, ty (u1 _ _ hx), _, T.kc_Dearest_Way, lz _ (by decide), fun p1 hp1 => ?_⟩
      have u2 := Same.new (o := .lst [V.bl false, V.bl true]) hp1
      exact ⟨_, u2 _ _ upd_same, _, upd_same, lz _ (by decide), fun p2 hp2 => k p2 _ ((u1.trans u2).trans (Same.new hp2)) ((u1.trans u2).free hp2) upd_same⟩
    | m =>
      have ty : ∀ {H : Hp}, H x = some (.ins A.C_Mean dx []) → TyOf K H (.ref x) (.ref A.C_Mean) := fun h => T.ty_Mean.of h
      refine ⟨_, ty hx, _, T.kc_Mean_Eldest, _, ty hx, _, T.kc_Mean_Newest, _, ty hx, _, T.kc_Mean_Dearest, lz _ (by decide), fun p hp => ?_⟩
      have u1 := Same.new (o := .lst [V.bl true, V.bl false, V.bl false]) hp
      refine ⟨_, ty (u1 _ _ hx), _, T.kc_Mean_Mean, _, ty (u1 _ _ hx), _, T.kc_Mean_Way, lz _ (by decide), fun p1 hp1 => ?_⟩
      have u2 := Same.new (o := .lst [V.bl true, V.bl true]) hp1
      exact ⟨_, u2 _ _ upd_same, _, upd_same, lz _ (by decide), fun p2 hp2 => k p2 _ ((u1.trans u2).trans (Same.new hp2)) ((u1.trans u2).free hp2) upd_same⟩
theorem str_len (y z : Str) : (y ++ z).length = y.length + z.length := by
  show (y.cps ++ z.cps).size = _
  rw [Array.size_append]; rfl
theorem str_mem {y z : Str} {c : Nat} (h : c ∈ (y ++ z).cps.toList) : c ∈ y.cps.toList ∨ c ∈ z.cps.toList := by
  have h : c ∈ (y.cps ++ z.cps).toList := h
  rw [Array.toList_append] at h
  exact List.mem_append.mp h
def AscN (n : Nat) (z : Str) : Prop := z.length ≤ n ∧ ∀ c ∈ z.cps.toList, c < 128
theorem AscN.app {n m : Nat} {y z : Str} (h : AscN n y) (h' : AscN m z) : AscN (n + m) (y ++ z) := ⟨by rw [str_len]; have := h.1; have := h'.1; omega, fun c hc => (str_mem hc).elim (h.2 c) (h'.2 c)⟩
theorem AscN.asc {n : Nat} {z : Str} (h : AscN n z) (hn : n ≤ 200) : Asc z := ⟨by have := h.1; omega, h.2⟩
theorem AscN.cut {n : Nat} {y z : Str} (h : AscN n z) (hl : y.length ≤ z.length) (hm : ∀ c ∈ y.cps.toList, c ∈ z.cps.toList) : AscN n y := ⟨by have := h.1; omega, fun c hc => h.2 c (hm c hc)⟩
theorem AscN.sz {n : Nat} {z : Str} (h : AscN n z) (hn : n ≤ 1000) : z.length ≤ sizeLine := by rw [sizeLine_eq]; have := h.1; omega
theorem at_lt {L : List Nat} {n : Nat} (hl : L.length = n) (ha : ∀ c ∈ L, c < 128) {k : Int} (h0 : 0 ≤ k) (h1 : k < n) : ∃ c, atI L k = some c ∧ AscN 1 ⟨#[c]⟩ := by
  obtain ⟨j, rfl⟩ : ∃ j : Nat, k = j := ⟨k.toNat, by omega⟩
  have hj : j < L.length := by omega
  refine ⟨L[j], atI_nat (by rw [List.getElem?_eq_getElem hj]), Nat.le_refl _, fun c hc => ?_⟩
  have : c = L[j] := by simpa using hc
  rw [this]
  exact ha _ (List.getElem_mem hj)
theorem word_asc {z : Str} (h : z ∈ words4) : AscN 8 z ∧ 0 < z.length := by
  have : ∀ z ∈ words4, z.length ≤ 8 ∧ (∀ c ∈ z.cps.toList, c < 128) ∧ 0 < z.length := by decide +kernel
  obtain ⟨h1, h2, h3⟩ := this z h
  exact ⟨⟨h1, h2⟩, h3⟩
def sp__law_bent : Sp := fun vs H Q _ => ∃ (w : Str) (c : Int), vs = [.str w, .int c] ∧ w ∈ words4 ∧ ∀ z, Asc z → Q (.str z) H
theorem ok__law_bent (T : Txt K mg A D) : FnOk P w K mg base CX0 1 A._law_bent D._law_bent ["_law_word", "_law_cell_here"] (sp__law_bent) := by
  refine T.F__law_bent.ok sc__law_bent (fun vs H Q E h => ?_) (fun cdv A' outer s H vs Q E hr h => ?_)
  · obtain ⟨w, c, rfl, _⟩ := h; rfl
  · obtain ⟨w, c, rfl, hw, k⟩ := h
    refine ⟨_, (pss_cons (ps_set (i := 2) sc__law_bent.nd rfl (Or.inl rfl) pe_str)
      (pss_cons (ps_set (i := 3) sc__law_bent.nd rfl (Or.inl rfl) (pe_op op_mod (pe_op op_fdivB (pv 1) pe_int) (pe_callB call_len_str (by rfl) T.b_len (by decide +kernel) (pa_cons (pv 0) pa_nil))))
      (pss_cons (ps_set (i := 4) sc__law_bent.nd rfl (Or.inl rfl) (pe_ix ix_str (pv 2) (pe_op op_mod (pe_op op_fdivB (pv 1) pe_int) pe_int) (fun _ _ => rfl)))
      (pss_cons (ps_if (pt_cmpR (op_eq) (pe_op op_mod (pv 1) pe_int) pe_int (nomark _)) (pss_one (ps_ret (pe_op op_add_str (pe_slice sl_str (pv 0) po_none (po_some (pv 3))) (pe_slice sl_str (pv 0) (po_some (pe_op op_add (pv 3) pe_int)) po_none)))) pss_nil)
      (pss_cons (ps_if (pt_cmpR (op_eq) (pe_op op_mod (pv 1) pe_int) pe_int (nomark _)) (pss_one (ps_ret (pe_op op_add_str (pe_op op_add_str (pe_slice sl_str (pv 0) po_none (po_some (pv 3))) (pv 4)) (pe_slice sl_str (pv 0) (po_some (pv 3)) po_none)))) pss_nil)
      (pss_one (ps_ret (pe_op op_add_str (pe_op op_add_str (pe_slice sl_str (pv 0) po_none (po_some (pv 3))) (pv 4)) (pe_slice sl_str (pv 0) (po_some (pe_op op_add (pv 3) pe_int)) po_none))))))))), ?_⟩
    simp only [start_eq]
    walk_at "nx"
    walk_at "nx"
    obtain ⟨hw1, hw2⟩ := word_asc hw
    have cd : ∀ (z m : Int), 0 < m → m ≤ 1000 → CDivB z m := fun z m h1 h2 => ⟨h1, Nat.lt_of_lt_of_le (show m.natAbs < 2 ^ 30 by omega) (Nat.pow_le_pow_right (by decide) (by decide))⟩
    refine ⟨cd _ _ (by decide) (by decide), hw1.sz (by decide), by omega, ?_⟩
    walk_at "nx"
    obtain ⟨x, hx1, hx2⟩ := at_lt (L := (Str.ofString "abcdefghijklmnopqrstuvwxyz E").cps.toList) (n := 28) (by decide +kernel) (by decide +kernel) (k := c / 64 % 28) (by omega) (by omega)
    refine ⟨cd _ _ (by decide) (by decide), by decide, by rw [sizeLine_eq]; decide +kernel, x, hx1, ?_⟩
    have zw := hw1.sz (by decide)
    have hwl := hw1.1
    walk_at "nx"
    refine ⟨by decide, ?_⟩
    by_cases h0 : c % 3 = 0
    · rw [if_pos h0]
      exact ⟨zw, fun y1 l1 m1 => ⟨zw, fun y2 l2 m2 => ⟨by rw [sizeLine_eq]; omega, k _ (((hw1.cut l1 m1).app (hw1.cut l2 m2)).asc (by decide))⟩⟩⟩
    · rw [if_neg h0]
      walk_at "nx"
      refine ⟨by decide, ?_⟩
      by_cases h1 : c % 3 = 1
      · rw [if_pos h1]
        exact ⟨zw, fun y1 l1 m1 => ⟨by rw [sizeLine_eq]; show y1.length + 1 ≤ _; omega, zw, fun y2 l2 m2 => ⟨by rw [sizeLine_eq, str_len]; show y1.length + 1 + _ ≤ _; omega, k _ ((((hw1.cut l1 m1).app hx2).app (hw1.cut l2 m2)).asc (by decide))⟩⟩⟩
      · rw [if_neg h1]
        exact ⟨zw, fun y1 l1 m1 => ⟨by rw [sizeLine_eq]; show y1.length + 1 ≤ _; omega, zw, fun y2 l2 m2 => ⟨by rw [sizeLine_eq, str_len]; show y1.length + 1 + _ ≤ _; omega, k _ ((((hw1.cut l1 m1).app hx2).app (hw1.cut l2 m2)).asc (by decide))⟩⟩⟩
def sp__law_any : Sp := fun vs H Q _ => ∃ (c : Int), vs = [.int c] ∧ ∀ z, Asc z → Q (.str z) H
theorem ok__law_any (T : Txt K mg A D) : FnOk P w K mg base CX0 1 A._law_any D._law_any ["_law_cell_here"] (sp__law_any) := by
  refine T.F__law_any.ok sc__law_any (fun vs H Q E h => ?_) (fun cdv A' outer s H vs Q E hr h => ?_)
  · obtain ⟨c, rfl, _⟩ := h; rfl
  · obtain ⟨c, rfl, k⟩ := h
    refine ⟨_, (pss_cons (ps_set (i := 1) sc__law_any.nd rfl (Or.inl rfl) pe_str)
      (pss_cons (ps_set (i := 2) sc__law_any.nd rfl (Or.inl rfl) (pe_op op_fdivB (pv 0) pe_int))
      (pss_cons (ps_for PassesOwn.never rfl (pi_range1 (by rfl) T.b_range (pa_cons (pe_op op_mod (pv 0) pe_int) pa_nil)) (pg_name (i := 3) sc__law_any.nd rfl (Or.inl rfl))
        (pss_cons (ps_set (i := 1) sc__law_any.nd rfl (Or.inl rfl) (pe_op op_add_str (pv 1) (pe_ix ix_str pe_str (pe_op op_mod (pv 2) pe_int) (fun _ _ => rfl))))
        (pss_one (ps_set (i := 2) sc__law_any.nd rfl (Or.inl rfl) (pe_op op_fdivB (pv 2) pe_int)))))
      (pss_one (ps_ret (pv 1)))))), ?_⟩
    simp only [start_eq]
    walk_at "nx"
    walk_at "nx"
    refine ⟨⟨by decide, by decide⟩, ?_⟩
    try dsimp only
    rw [ap_seq, ap_for]
    walk_at "rdi"
    refine ⟨by decide, by omega, by omega, ?_⟩
    obtain ⟨n, hn, hnm⟩ : ∃ n : Nat, (c % 13).toNat = n ∧ n ≤ 12 := ⟨_, rfl, by omega⟩
    rw [hn]
    have cd : ∀ (z m : Int), 0 < m → m ≤ 1000 → CDivB z m := fun z m h1 h2 => ⟨h1, Nat.lt_of_lt_of_le (show m.natAbs < 2 ^ 30 by omega) (Nat.pow_le_pow_right (by decide) (by decide))⟩
    refine ForP.range (lo := 0) (n := n) (fun i σ Hx => ∃ (z : Str) (r : Int) (v3 : Option V), σ = [some (.int c), some (.str z), some (.int r), v3] ∧ AscN i z ∧ Hx = H) ⟨_, _, _, rfl, ⟨by decide, by decide⟩, rfl⟩ ?_ ?_
    · rintro i σ Hx hi ⟨z, r, v3, rfl, hz, rfl⟩
      obtain ⟨x, hx1, hx2⟩ := at_lt (L := (Str.ofString "abcdefghijklmnopqrstuvwxyz .0").cps.toList) (n := 29) (by decide +kernel) (by decide +kernel) (k := r % 29) (by omega) (by omega)
      have hzl := hz.1
      walk_at "rdi"
      walk_at "nx"
      exact ⟨by decide, by rw [sizeLine_eq]; decide +kernel, x, hx1, by rw [sizeLine_eq]; show z.length + 1 ≤ _; omega, cd _ _ (by decide) (by decide), hz.app hx2⟩
    · rintro σ Hx ⟨z, r, v3, rfl, hz, rfl⟩
      walk_at "rda"
      exact k z (hz.asc (by omega))
end
end My
namespace My
open PySem L2 PyProof.Rows
section
variable {P : Program} {w : World} {K : PySem.W.Frag} {mg : Str → Option Value} {base : Heap} {A : Adr} {D : Fds}
structure PEo (X : Cx) (e : Expr) (t : TE) : Prop where
  h : PE X e t
structure PSq (X : Cx) (s : Stmt) (t : TS) : Prop where
  h : PS X s t
structure PSo (X : Cx) (s : List Stmt) (t : TS) : Prop where
  h : PSs X s t
theorem pso_cons {X : Cx} {st : Stmt} {rest : List Stmt} {t u : TS} (a : PSq X st t) (b : PSo X rest u) : PSo X (st :: rest) (tSeq t u) := ⟨pss_cons a.h b.h⟩
theorem psq_set {X : Cx} {pos : Pos} {i : Nat} {x : Str} {e : Expr} {te : TE} {pos' : Pos} (hN : X.N.Nodup) (hi : X.N[i]? = some x) (hx : Loc X.env.scope x) (he : PEo X e te) (hs : swapsWith e (some (.Name x pos')) pos.line X.env = pure false := by rfl) (hf : X.fn x = true ∨ X.env.scope.names.lookup x = some .local := by first | exact .inl rfl | exact .inr rfl) :
    PSq X (.Assign [.Name x pos'] e pos) (tAsg te (gName i)) := ⟨ps_set hN hi hx he.h hs hf⟩
theorem peo_disp4 {X : Cx} {pos : Pos} {k1 k2 k3 k4 v1 v2 v3 v4 : Expr} {s1 s2 s3 s4 t1 t2 t3 t4 : TE} (a1 : PEo X k1 s1) (b1 : PEo X v1 t1) (a2 : PEo X k2 s2) (b2 : PEo X v2 t2) (a3 : PEo X k3 s3) (b3 : PEo X v3 t3) (a4 : PEo X k4 s4) (b4 : PEo X v4 t4) : PEo X (.Dict [some k1, some k2, some k3, some k4] [v1, v2, v3, v4] pos) (tDisp [(s1, t1), (s2, t2), (s3, t3), (s4, t4)]) :=
  ⟨pe_disp (pps_cons a1.h b1.h (pps_cons a2.h b2.h (pps_cons a3.h b3.h (pps_cons a4.h b4.h pps_nil)))) rfl rfl (List.cons_ne_nil _ _) (Nat.le_of_ble_eq_true rfl)⟩
noncomputable def sig_law (T : Txt K mg A D) (cdv : Value) (A' : Around) (outer : List Env) (s0 : Shared) (H : Hp) (E : XK) (hr : Room 3 (A'.deeper (envOfC "law" (defScope s_law) s0.heap.objs.size A.law cdv))) :
    { t : TS // PSo (cxOf CX0 P w K mg base ["_law_script", "_law_words", "_law_due", "_law_at", "_law_word", "_law_way", "_law_odd", "_law_text", "_law_k"] "law" (defScope s_law) A.law cdv A' outer s0 H E).nox (defBody s_law) t } :=
  ⟨_, (pso_cons ⟨(ps_set (i := 1) sc_law.nd rfl (Or.inl rfl) (pe_lst (pa_cons pe_str (pa_cons pe_str (pa_cons pe_str (pa_cons pe_str pa_nil))))))⟩
      (pso_cons (psq_set (i := 2) sc_law.nd rfl (Or.inl rfl) (peo_disp4 ⟨pe_str⟩ ⟨pe_lst (pa_cons pe_bl (pa_cons pe_bl (pa_cons pe_bl (pa_cons pe_bl (pa_cons pe_bl pa_nil)))))⟩ ⟨pe_str⟩ ⟨pe_lst (pa_cons pe_bl (pa_cons pe_bl (pa_cons pe_bl (pa_cons pe_bl (pa_cons pe_bl pa_nil)))))⟩ ⟨pe_str⟩ ⟨pe_lst (pa_cons pe_bl (pa_cons pe_bl (pa_cons pe_bl (pa_cons pe_bl (pa_cons pe_bl pa_nil)))))⟩ ⟨pe_str⟩ ⟨pe_lst (pa_cons pe_bl (pa_cons pe_bl (pa_cons pe_bl (pa_cons pe_bl (pa_cons pe_bl pa_nil)))))⟩))
      ⟨(pss_cons (ps_set (i := 3) sc_law.nd rfl (Or.inl rfl) (pe_op op_mod (pe_call (ok__law_cell (K := K) T) (hr.mono (by decide)) (by rfl) T.m__law_cell T.k__law_cell (b__law_cell T) .nil pass0 (pa_cons (pv 0) (pa_cons pe_int pa_nil))) pe_int))
      (pss_cons (ps_for PassesOwn.never rfl (pi_listK (K := K) (pe_op op_cat (pe_slice (sl_listK (K := K)) (pv 1) (po_some (pv 3)) po_none) (pe_slice (sl_listK (K := K)) (pv 1) po_none (po_some (pv 3))))) (pg_name (i := 4) sc_law.nd rfl (Or.inr rfl))
        (pss_cons (ps_set (i := 5) sc_law.nd rfl (Or.inl rfl) (pe_call (ok_way_by (K := K) T) (hr.mono (by decide)) (by rfl) T.m_way_by T.k_way_by (b_way_by T) .nil pass1 (pa_cons (pv 4) pa_nil)))
        (pss_cons (ps_if (PW.pt (pw_or (pt_not (pt_val (pe_callB (call_isTK (K := K)) (by rfl) T.b_isinstance (by decide +kernel) (pa_cons (pe_methD0 (pv 5) (.cons T.cl_Eldest T.me_Eldest_word (ok_Eldest_word (K := K) T) (hr.mono (by decide)) (b_Eldest_word T) (.cons T.cl_Newest T.me_Newest_word (ok_Newest_word (K := K) T) (hr.mono (by decide)) (b_Newest_word T) (.cons T.cl_Dearest T.me_Dearest_word (ok_Dearest_word (K := K) T) (hr.mono (by decide)) (b_Dearest_word T) (.cons T.cl_Mean T.me_Mean_word (ok_Mean_word (K := K) T) (hr.mono (by decide)) (b_Mean_word T) .nil)))) pass0) (pa_cons (pe_ty "str" (by rfl) T.b_str (by decide +kernel)) pa_nil))))) (pw_or (pt_cmpR (op_ne) (pe_methD0 (pv 5) (.cons T.cl_Eldest T.me_Eldest_word (ok_Eldest_word (K := K) T) (hr.mono (by decide)) (b_Eldest_word T) (.cons T.cl_Newest T.me_Newest_word (ok_Newest_word (K := K) T) (hr.mono (by decide)) (b_Newest_word T) (.cons T.cl_Dearest T.me_Dearest_word (ok_Dearest_word (K := K) T) (hr.mono (by decide)) (b_Dearest_word T) (.cons T.cl_Mean T.me_Mean_word (ok_Mean_word (K := K) T) (hr.mono (by decide)) (b_Mean_word T) .nil)))) pass0) (pv 4) (nomark _)) (pw_or1 (pt_cmpR (op_neDK (K := K) hr) (pe_call (ok__law_kinds (K := K) T) (hr.mono (by decide)) (by rfl) T.m__law_kinds T.k__law_kinds (b__law_kinds T) .nil pass0 (pa_cons (pv 5) pa_nil)) (pe_dget (hu_of hr) (pv 2) (pv 4) (fun _ _ => rfl)) (nomark _)))))) (pss_one (ps_ret pe_bl)) pss_nil)
        (pss_cons (ps_set (i := 6) sc_law.nd rfl (Or.inl rfl) (pe_op op_cat (pe_comp (cap := [Option.none, some 4, some 0]) (N' := ["_law_k", "_law_word", "_law_script"]) rfl (by walk_at "compok") (pi_range1 (by rfl) T.b_range (pa_cons pe_int pa_nil)) (fun _ _ _ _ => (pg_name (i := 0) (show (["_law_k", "_law_word", "_law_script"] : List Str).Nodup from by decide +kernel) rfl (Or.inl rfl) (Or.inr rfl))) (fun _ _ _ _ => pts_nil) (fun _ _ _ _ => (pe_call (ok__law_bent (K := K) T) (hr.mono (by decide)) (by rfl) T.m__law_bent T.k__law_bent (b__law_bent T) .nil pass0 (pa_cons (pv 1) (pa_cons (pe_call (ok__law_cell (K := K) T) (hr.mono (by decide)) (by rfl) T.m__law_cell T.k__law_cell (b__law_cell T) .nil pass0 (pa_cons (pv 2) (pa_cons (pe_op op_add pe_int (pv 0)) pa_nil))) pa_nil))))) (pe_lst (pa_cons (pe_bm0K (K := K) PySem.F.plainAttrs_str PySem.F.slot_str_upper PySem.F.type_str_upper mt_upper (pv 4)) (pa_cons (pe_op op_add_str (pv 4) (pv 4)) (pa_cons (pe_op op_add_str (pv 4) pe_str) pa_nil))))))
        (pss_one (ps_for PassesOwn.never rfl (pi_listK (K := K) (pe_op op_cat (pv 6) (pe_lst (pa_cons (pe_op op_add_str (pe_op op_add_str (pv 4) pe_str) (pe_ix (ix_listK (K := K)) (pv 1) (pv 3) (fun _ _ => rfl))) (pa_cons pe_str pa_nil))))) (pg_name (i := 7) sc_law.nd rfl (Or.inl rfl))
          (pss_one (ps_if (PW.pt (pw_and (pt_cmpR (op_notInK (K := K)) (pv 7) (pv 1) (by with_unfolding_all rfl)) (pw_and1 (pt_not (pt_val (pe_call (ok__law_refused (K := K) T) (hr.mono (by decide)) (by rfl) T.m__law_refused T.k__law_refused (b__law_refused T) .nil pass0 (pa_cons (pv 7) pa_nil))))))) (pss_one (ps_ret pe_bl)) pss_nil))))))))
      (pss_cons (ps_for PassesOwn.never rfl (pi_range1 (by rfl) T.b_range (pa_cons pe_int pa_nil)) (pg_name (i := 8) sc_law.nd rfl (Or.inl rfl))
        (pss_cons (ps_set (i := 7) sc_law.nd rfl (Or.inl rfl) (pe_call (ok__law_any (K := K) T) (hr.mono (by decide)) (by rfl) T.m__law_any T.k__law_any (b__law_any T) .nil pass0 (pa_cons (pe_call (ok__law_cell (K := K) T) (hr.mono (by decide)) (by rfl) T.m__law_cell T.k__law_cell (b__law_cell T) .nil pass0 (pa_cons (pv 0) (pa_cons (pe_op op_add pe_int (pv 8)) pa_nil))) pa_nil)))
        (pss_one (ps_if (PW.pt (pw_and (pt_cmpR (op_notInK (K := K)) (pv 7) (pv 1) (by with_unfolding_all rfl)) (pw_and1 (pt_not (pt_val (pe_call (ok__law_refused (K := K) T) (hr.mono (by decide)) (by rfl) T.m__law_refused T.k__law_refused (b__law_refused T) .nil pass0 (pa_cons (pv 7) pa_nil))))))) (pss_one (ps_ret pe_bl)) pss_nil))))
      (pss_one (ps_ret (pe_cmpR (op_eqDK (K := K) hr) (pe_lst (pa_cons (pe_methD0 (pe_new0 T.mk0_Eldest (by rfl) T.m_Eldest) (.cons T.cl_Eldest T.me_Eldest_word (ok_Eldest_word (K := K) T) (hr.mono (by decide)) (b_Eldest_word T) .nil) pass0) (pa_cons (pe_methD0 (pe_new0 T.mk0_Newest (by rfl) T.m_Newest) (.cons T.cl_Newest T.me_Newest_word (ok_Newest_word (K := K) T) (hr.mono (by decide)) (b_Newest_word T) .nil) pass0) (pa_cons (pe_methD0 (pe_new0 T.mk0_Dearest (by rfl) T.m_Dearest) (.cons T.cl_Dearest T.me_Dearest_word (ok_Dearest_word (K := K) T) (hr.mono (by decide)) (b_Dearest_word T) .nil) pass0) (pa_cons (pe_methD0 (pe_new0 T.mk0_Mean (by rfl) T.m_Mean) (.cons T.cl_Mean T.me_Mean_word (ok_Mean_word (K := K) T) (hr.mono (by decide)) (b_Mean_word T) .nil) pass0) pa_nil))))) (pv 1) (nomark _)))))))⟩))⟩
end
end My
namespace My
open PySem L2 PyProof.Rows
section
variable {P : Program} {w : World} {K : PySem.W.Frag} {mg : Str → Option Value} {base : Heap} {A : Adr} {D : Fds}
local macro_rules | `(tactic| walk_at "nx") => `(tactic| ((try dsimp only); rw [ap_seq]; walk_at "rdi"))
theorem seq_gen {t u : TS} {D : Ends} {σ : L2.St} {H : Hp} (P : L2.St → Hp → Prop) (k : ∀ σ' H', P σ' H' → u D σ' H') (h : ∀ N : L2.St → Hp → Prop, (∀ σ' H', P σ' H' → N σ' H') → t { D with nx := N } σ H) : tSeq t u D σ H := h (u D) k
theorem comp_rangeV {g : TG} {te : TE} {σ : L2.St} {H : Hp} {Q : VK} {cap : List (Option Nat)} {lo : Int} {n : Nat} (Sσ : L2.St → Prop) (F : Nat → V → Prop) (h0 : Sσ (capSt σ cap)) (hz : n ≤ sizeLine)
    (hs : ∀ i, i < n → ∀ (σ : L2.St) (H5 : Hp) (R : L2.St → VK), Sσ σ → Same H H5 → (∀ v σ4 H6, Sσ σ4 → Same H5 H6 → F i v → R σ4 v H6) → g (.int (lo + i)) σ H5 fun σ4 H4 => te σ4 H4 (R σ4))
    (k : ∀ D H' acc, H D = Option.none → Same H H' → H' D = some (.lst acc) → acc.length = n → (∀ (i : Nat) v, acc[i]? = some v → F i v) → Q (.ref D) H') : CompP cap (Itr lo n) g tNoIf te σ H Q := by
  intro D hD
  refine ⟨fun i m acc σ H2 => m = n - i ∧ i ≤ n ∧ Sσ σ ∧ Same H H2 ∧ acc.length = i ∧ ∀ (j : Nat) v, acc[j]? = some v → F j v, ⟨n, rfl, Nat.zero_le _, h0, Same.new hD, rfl, fun j v e => by simp at e⟩, ?_⟩
  rintro i m acc σ1 H2 ⟨rfl, hi, hσ, sm, hal, hF⟩ hA
  by_cases hlt : i < n
  · refine .inr ⟨hlt, fun y H3 hy => ?_⟩
    obtain ⟨rfl, rfl⟩ := hy
    simp only [ap_noIf, if_true]
    refine hs i hlt σ1 _ _ hσ sm fun v σ4 H6 hσ4 s6 hF6 => ?_
    have hA6 := s6 _ _ hA
    refine ⟨acc, hA6, by omega, n - (i + 1), by omega, rfl, hlt, hσ4, (sm.trans s6).upd hD, by rw [List.length_append, hal]; rfl, fun j u hj => ?_⟩
    by_cases hjl : j < acc.length
    · rw [List.getElem?_append_left hjl] at hj
      exact hF j u hj
    · rw [List.getElem?_append_right (by omega)] at hj
      have hj0 : j - acc.length = 0 := by
        have := (List.getElem?_eq_some_iff.mp hj).1
        simp at this
        omega
      rw [hj0] at hj
      cases hj
      obtain rfl : j = i := by omega
      exact hF6
  · obtain rfl : i = n := by omega
    exact .inl ⟨Nat.le_refl _, k D H2 acc hD sm hA hal hF⟩
theorem strs_of {acc : List V} (h : ∀ (i : Nat) v, acc[i]? = some v → ∃ z, v = .str z ∧ Asc z) : ∃ zs : List Str, acc = zs.map V.str ∧ ∀ z ∈ zs, Asc z := by
  induction acc with
  | nil => exact ⟨[], rfl, fun z h => (List.not_mem_nil h).elim⟩
  | cons v acc ih =>
    obtain ⟨z, rfl, hz⟩ := h 0 v rfl
    obtain ⟨zs, rfl, hzs⟩ := ih fun i v hv => h (i + 1) v hv
    exact ⟨z :: zs, rfl, fun y hy => (List.mem_cons.mp hy).elim (fun e => e ▸ hz) (hzs y)⟩
theorem inV_strs (x : Str) (ns : List Str) : inV (.str x) (ns.map V.str) = decide (x ∈ ns) := by
  induction ns with
  | nil => rfl
  | cons n ns ih =>
    show (eqV (.str n) (.str x) || inV (.str x) (ns.map V.str)) = _
    rw [ih]
    show ((n == x) || decide (x ∈ ns)) = _
    by_cases e : n = x
    · simp [e]
    · have e' : ¬ x = n := fun z => e z.symm
      simp [e, e']
theorem flat_strs (ns : List Str) : (ns.map V.str).all flatV = true := by
  rw [List.all_eq_true]
  intro x hx
  obtain ⟨i, _, rfl⟩ := List.mem_map.mp hx
  rfl
theorem upper_asc {z : Str} (h : z ∈ words4) : AscN 8 (Txt.upper z) := by
  obtain ⟨h1, h2⟩ := (word_asc h).1
  rw [upper_ascii h2]
  have : ∀ z ∈ words4, (Array.map up1 z.cps).size ≤ 8 ∧ ∀ c ∈ (Array.map up1 z.cps).toList, c < 128 := by decide +kernel
  exact this z h
def Due (A : Adr) (H : Hp) (pd : Addr) : Prop := ∃ kvs : List (Key × V), H pd = some (.dK kvs) ∧ ∀ z C, WayC A z C → ∃ l bs, KdC A C bs ∧ valV kvs (Sum.inr z) = some (.ref l) ∧ H l = some (.lst (bs.map V.bl))
theorem Due.same {H H' : Hp} {pd : Addr} (h : Due A H pd) (s : Same H H') : Due A H' pd := by
  obtain ⟨kvs, h1, h2⟩ := h
  refine ⟨kvs, s _ _ h1, fun z C hC => ?_⟩
  obtain ⟨l, bs, e1, e2, e3⟩ := h2 z C hC
  exact ⟨l, bs, e1, e2, s _ _ e3⟩
theorem way_mem {z : Str} {C : Addr} (h : WayC A z C) : (C, spW z) ∈ [(A.C_Eldest, spW "eldest"), (A.C_Newest, spW "newest"), (A.C_Dearest, spW "dearest"), (A.C_Mean, spW "mean")] := by
  cases h
  · exact List.mem_cons_self
  · exact List.mem_cons_of_mem _ List.mem_cons_self
  · exact List.mem_cons_of_mem _ (List.mem_cons_of_mem _ List.mem_cons_self)
  · exact List.mem_cons_of_mem _ (List.mem_cons_of_mem _ (List.mem_cons_of_mem _ List.mem_cons_self))
theorem cut_mem {xs : List V} {lo hi : Option Int} {x : V} (h : x ∈ cutV xs lo hi) : x ∈ xs := List.mem_of_mem_drop (List.mem_of_mem_take h)
theorem four_val {v1 v2 v3 v4 : V} {k1 k2 k3 k4 : Key} {k : Key} : valV (mergeK [] [(k1, v1), (k2, v2), (k3, v3), (k4, v4)]) k = if k = k4 then some v4 else if k = k3 then some v3 else if k = k2 then some v2 else if k = k1 then some v1 else Option.none := by
  show valV (putK (putK (putK (putK [] k1 v1) k2 v2) k3 v3) k4 v4) k = _
  rw [valV_put, valV_put, valV_put, valV_put]
  rfl
theorem strs_sub {xs : List V} (h : ∀ v ∈ xs, v ∈ words4.map V.str) : ∃ ws : List Str, xs = ws.map V.str ∧ ∀ z ∈ ws, z ∈ words4 := by
  induction xs with
  | nil => exact ⟨[], rfl, fun z h => (List.not_mem_nil h).elim⟩
  | cons v xs ih =>
    obtain ⟨z, hz, rfl⟩ := List.mem_map.mp (h v List.mem_cons_self)
    obtain ⟨ws, rfl, hws⟩ := ih fun v hv => h v (List.mem_cons_of_mem _ hv)
    exact ⟨z :: ws, rfl, fun y hy => (List.mem_cons.mp hy).elim (fun e => e ▸ hz) (hws y)⟩
theorem repsD_bools (H : Hp) : ∀ bs : List Bool, RepsD K H (bs.map V.bl) (bs.map DV.bl)
  | [] => .nil
  | n :: r => .cons (.bl n) (repsD_bools H r)
theorem depDs_bools : ∀ xs : List Bool, depDs (xs.map DV.bl) = 0
  | [] => by simp [depDs]
  | x :: xs => by simp [depDs, depD, depDs_bools xs]
theorem repsD_strs (H : Hp) : ∀ zs : List Str, RepsD K H (zs.map V.str) (zs.map DV.str)
  | [] => .nil
  | n :: r => .cons (.str n) (repsD_strs H r)
theorem depDs_strs : ∀ xs : List Str, depDs (xs.map DV.str) = 0
  | [] => by simp [depDs]
  | x :: xs => by simp [depDs, depD, depDs_strs xs]
theorem rNeD_bools {H : Hp} {Q : VK} {p q : Addr} {xs : List Bool} (h1 : H p = some (.lst (xs.map V.bl))) (h2 : H q = some (.lst (xs.map V.bl))) (hQ : Q (.bl false) H) : rNeD K (.ref p) (.ref q) H Q := by
  refine ⟨.lst (xs.map DV.bl), .lst (xs.map DV.bl), .lst (SqL.of h1) (repsD_bools H xs), .lst (SqL.of h2) (repsD_bools H xs), ?_, ?_, ?_⟩
  · show 1 ≤ depDs _ + 1; omega
  · show depDs _ + 1 ≤ 20
    rw [depDs_bools]
    decide
  · rw [deqD_refl]
    exact hQ
theorem rEqD_strs {H : Hp} {Q : VK} {p q : Addr} {xs : List Str} (h1 : H p = some (.lst (xs.map V.str))) (h2 : H q = some (.lst (xs.map V.str))) (hQ : Q (.bl true) H) : rEqD K (.ref p) (.ref q) H Q := by
  refine ⟨.lst (xs.map DV.str), .lst (xs.map DV.str), .lst (SqL.of h1) (repsD_strs H xs), .lst (SqL.of h2) (repsD_strs H xs), ?_, ?_, ?_⟩
  · show 1 ≤ depDs _ + 1; omega
  · show depDs _ + 1 ≤ 20
    rw [depDs_strs]
    decide
  · rw [deqD_refl]
    exact hQ
theorem ok_law (T : Txt K mg A D) : FnOk P w K mg base CX0 4 A.law D.law ["_law_script"] (sp_law K) := by
  refine T.F_law.ok sc_law (fun vs H Q E h => ?_) (fun cdv A' outer s0 B vs Q E hr h => ?_)
  · obtain ⟨a, ns, rfl, _⟩ := h; rfl
  · obtain ⟨a, ns, rfl, hSB, hl, k⟩ := h
    refine ⟨(sig_law (base := base) T cdv A' outer s0 B E hr).1, (sig_law (base := base) T cdv A' outer s0 B E hr).2.h, ?_⟩
    unfold sig_law
    dsimp only
    have lz : ∀ n : Nat, n ≤ 1000 → n ≤ sizeLine := fun n h => by rw [sizeLine_eq]; omega
    simp only [start_eq]
    walk_at "nx"
    refine ⟨lz _ (by decide), fun pw hpw => ?_⟩
    have s1 := Same.new (o := .lst (words4.map V.str)) hpw
    have hw1 : (upd B pw (.lst (words4.map V.str))) pw = some (.lst (words4.map V.str)) := upd_same
    change tSeq _ _ _ _ (upd B pw (.lst (words4.map V.str)))
    generalize upd B pw (.lst (words4.map V.str)) = H1 at s1 hw1
    walk_at "nx"
    unfold tDisp
    intro pd hpd
    simp only [tPairs]
    walk_at "rdi"
    refine ⟨lz _ (by decide), fun l1 hl1 => ⟨lz _ (by decide), fun l2 hl2 => ⟨lz _ (by decide), fun l3 hl3 => ⟨lz _ (by decide), fun l4 hl4 => ?_⟩⟩⟩⟩
    have u0 := Same.new (o := .dK []) hpd
    have u1 := Same.new (o := .lst [V.bl true, V.bl false, V.bl false, V.bl false, V.bl true]) hl1
    have u2 := Same.new (o := .lst [V.bl false, V.bl true, V.bl false, V.bl false, V.bl true]) hl2
    have u3 := Same.new (o := .lst [V.bl false, V.bl false, V.bl true, V.bl false, V.bl true]) hl3
    have u4 := Same.new (o := .lst [V.bl true, V.bl false, V.bl false, V.bl true, V.bl true]) hl4
    have gd := (u1.trans (u2.trans (u3.trans u4))) _ _ (upd_same (H := H1) (a := pd) (o := .dK []))
    have g1 := (u2.trans (u3.trans u4)) _ _ (upd_same (a := l1) (o := .lst [V.bl true, V.bl false, V.bl false, V.bl false, V.bl true]))
    have g2 := (u3.trans u4) _ _ (upd_same (a := l2) (o := .lst [V.bl false, V.bl true, V.bl false, V.bl false, V.bl true]))
    have g3 := u4 _ _ (upd_same (a := l3) (o := .lst [V.bl false, V.bl false, V.bl true, V.bl false, V.bl true]))
    have SF := s1.trans (u0.trans (u1.trans (u2.trans (u3.trans u4))))
    have hw5 := (u0.trans (u1.trans (u2.trans (u3.trans u4)))) _ _ hw1
    have fpd : B pd = Option.none := s1.free hpd
    generalize hHf : upd _ l4 (HO.lst [V.bl true, V.bl false, V.bl false, V.bl true, V.bl true]) = Hf at gd g1 g2 g3 SF hw5
    have g4 : Hf l4 = some (.lst [V.bl true, V.bl false, V.bl false, V.bl true, V.bl true]) := by rw [← hHf]; exact upd_same
    clear hHf u0 u1 u2 u3 u4 hl1 hl2 hl3 hl4 hpd s1 hw1
    refine ⟨gd, [(Sum.inr "eldest", .ref l1), (Sum.inr "newest", .ref l2), (Sum.inr "dearest", .ref l3), (Sum.inr "mean", .ref l4)], rfl, (by show 4 ≤ 15; decide), ?_⟩
    have keep : ∀ {b : Addr} {xs : List V} {o : HO}, Hf b = some (.lst xs) → (upd Hf pd o) b = some (.lst xs) := fun {b xs o} h => (upd_ne fun e => by rw [e, gd] at h; cases h).trans h
    have S6 := SF.upd (a := pd) (o := .dK (mergeK [] [(Sum.inr "eldest", .ref l1), (Sum.inr "newest", .ref l2), (Sum.inr "dearest", .ref l3), (Sum.inr "mean", .ref l4)])) fpd
    have hw6 := keep (o := .dK (mergeK [] [(Sum.inr "eldest", .ref l1), (Sum.inr "newest", .ref l2), (Sum.inr "dearest", .ref l3), (Sum.inr "mean", .ref l4)])) hw5
    have hD6 : Due A (upd Hf pd (.dK (mergeK [] [(Sum.inr "eldest", .ref l1), (Sum.inr "newest", .ref l2), (Sum.inr "dearest", .ref l3), (Sum.inr "mean", .ref l4)]))) pd := by
      refine ⟨_, upd_same, fun z C hC => ?_⟩
      cases hC
      · exact ⟨l1, _, .e, by rw [four_val, if_neg (by decide +kernel), if_neg (by decide +kernel), if_neg (by decide +kernel), if_pos rfl], keep g1⟩
      · exact ⟨l2, _, .n, by rw [four_val, if_neg (by decide +kernel), if_neg (by decide +kernel), if_pos rfl], keep g2⟩
      · exact ⟨l3, _, .d, by rw [four_val, if_neg (by decide +kernel), if_pos rfl], keep g3⟩
      · exact ⟨l4, _, .m, by rw [four_val, if_pos rfl], keep g4⟩
    generalize upd Hf pd (.dK (mergeK [] [(Sum.inr "eldest", .ref l1), (Sum.inr "newest", .ref l2), (Sum.inr "dearest", .ref l3), (Sum.inr "mean", .ref l4)])) = H6 at S6 hw6 hD6
    clear keep gd g1 g2 g3 g4 hw5 SF
    walk_at "nx"
    refine ⟨a, ns, 0, rfl, S6.seq hSB, hl, fun H7 s7 => ⟨_, rfl, by decide, ?_⟩⟩
    have hat : 0 ≤ cellV ns 0 % 4 ∧ cellV ns 0 % 4 < 4 := by omega
    generalize cellV ns 0 % 4 = at4 at hat
    have S7 := S6.trans s7
    have hw7 := s7 _ _ hw6
    have hD7 := hD6.same s7
    clear S6 hw6 hD6 s7
    try dsimp only
    rw [ap_seq, ap_for]
    walk_at "rdi"
    have c1 : (cutV (words4.map V.str) (some at4) Option.none).length ≤ 4 := cutV_length _ _ _
    have c2 : (cutV (words4.map V.str) Option.none (some at4)).length ≤ 4 := cutV_length _ _ _
    refine ⟨_, SqL.of hw7, fun q1 hq1 => ⟨_, SqL.of (Same.new hq1 _ _ hw7), fun q2 hq2 => ⟨_, Same.new hq2 _ _ upd_same, _, upd_same, by rw [sizeLine_eq]; omega, fun q3 hq3 => ?_⟩⟩⟩
    have v3 := (Same.new (o := .lst (cutV (words4.map V.str) (some at4) Option.none)) hq1).trans ((Same.new (o := .lst (cutV (words4.map V.str) Option.none (some at4))) hq2).trans (Same.new (o := .lst (cutV (words4.map V.str) (some at4) Option.none ++ cutV (words4.map V.str) Option.none (some at4))) hq3))
    generalize hHg : upd _ q3 (HO.lst (cutV (words4.map V.str) (some at4) Option.none ++ cutV (words4.map V.str) Option.none (some at4))) = Hg at v3
    have hg3 : Hg q3 = some (.lst (cutV (words4.map V.str) (some at4) Option.none ++ cutV (words4.map V.str) Option.none (some at4))) := by rw [← hHg]; exact upd_same
    clear hHg hq1 hq2 hq3
    obtain ⟨ws, ews, hws⟩ := strs_sub (xs := cutV (words4.map V.str) (some at4) Option.none ++ cutV (words4.map V.str) Option.none (some at4)) fun v hv => (List.mem_append.mp hv).elim cut_mem cut_mem
    rw [ews] at hg3
    clear ews c1 c2
    refine ⟨⟨_, SqL.of hg3⟩, ?_⟩
    refine ForP.list (K := K) (a := q3) (xs := ws.map V.str) (fun i σ Hx => ∃ v4 v5 v6 v7 v8 : Option V, σ = [some (.ref a), some (.ref pw), some (.ref pd), some (.int at4), v4, v5, v6, v7, v8] ∧ Same Hg Hx) ⟨_, _, _, _, _, rfl, Same.refl _⟩ (fun i σ Hx _ ⟨_, _, _, _, _, _, s⟩ => SqL.of (s _ _ hg3)) ?_ ?_
    · rintro i y σ H8 hy ⟨v4, v5, v6, v7, v8, rfl, s8⟩
      obtain ⟨z, hz, rfl⟩ := List.mem_map.mp (List.mem_of_getElem? hy)
      have hzw := hws z hz
      obtain ⟨C, hC⟩ := way_in (A := A) hzw
      have S8 := S7.trans (v3.trans s8)
      have hw8 := (v3.trans s8) _ _ hw7
      have hD8 := hD7.same (v3.trans s8)
      obtain ⟨hza, hzl⟩ := word_asc hzw
      walk_at "rdi"
      walk_at "nx"
      refine ⟨z, rfl, hza.asc (by decide), .inl ⟨C, hC, fun x dx H9 s9 hx hx' => ?_⟩⟩
      walk_at "nx"
      obtain ⟨kvs, hd1, hd2⟩ := hD8.same s9
      obtain ⟨ld, bs, hK, hv, hld⟩ := hd2 z C hC
      refine ⟨_, dx, _, hx', _, way_mem hC, rfl, x, rfl, _, .str z, true, by with_unfolding_all rfl, ?_⟩
      rw [if_neg (by decide)]
      refine ⟨_, dx, _, hx', _, way_mem hC, rfl, x, rfl, rfl, ?_⟩
      rw [if_neg (not_not_intro rfl)]
      refine ⟨x, C, dx, bs, rfl, hx', hK, fun lk H10 s10 hlk hlk' => ⟨_, hv ▸ DGet.k (k := Sum.inr z) (s10 _ _ hd1), rNeD_bools hlk' (s10 _ _ hld) ⟨_, rfl, ?_⟩⟩⟩
      rw [if_neg (by decide)]
      have t10 := s8.trans (s9.trans s10)
      have S10 := S8.trans (s9.trans s10)
      have hw10 := (s9.trans s10) _ _ hw8
      clear hd1 hd2 hv hld hlk hlk' hx hx' s9 s10 hD8 hw8 S8 s8
      walk_at "nx"
      refine ⟨by decide, by decide, ?_⟩
      refine comp_rangeV (lo := 0) (n := 4) (fun σ => ∃ v, σ = [v, some (.str z), some (.ref a)]) (fun _ v => ∃ y, v = .str y ∧ Asc y) ⟨_, rfl⟩ (lz _ (by decide)) ?_ ?_
      · rintro j hj σ H11 R ⟨_, rfl⟩ sm kk
        walk_at "rdi"
        refine ⟨a, ns, 1 + j, congrArg (fun u => [V.ref a, V.int u]) (by omega), (S10.trans sm).seq hSB, hl, fun H12 s12 => ⟨z, _, rfl, hzw, fun y hy => kk _ _ _ ⟨_, rfl⟩ s12 ⟨y, rfl, hy⟩⟩⟩
      · intro D1 H11 acc hD1 s11 hA1 hlen hF
        obtain ⟨zs, rfl, hzs⟩ := strs_of hF
        rw [List.length_map] at hlen
        walk_at "rdi"
        have z1 := hza.1
        have hsp : AscN 1 (Str.ofString " ") := by
          have : (Str.ofString " ").length ≤ 1 ∧ ∀ c ∈ (Str.ofString " ").cps.toList, c < 128 := by decide +kernel
          exact this
        have hsl : (Str.ofString " ").length ≤ 1 := hsp.1
        refine ⟨rfl, z, rfl, rfl, by have := (upper_asc hzw).1; omega, by rw [sizeLine_eq]; omega, by rw [sizeLine_eq]; omega, lz _ (by decide), fun p1 hp1 => ⟨_, Same.new hp1 _ _ hA1, _, upd_same, by rw [List.length_map, hlen]; exact lz (4 + 3) (by decide), fun p2 hp2 => ?_⟩⟩
        obtain ⟨zs2, e2, hz2, hl2⟩ : ∃ zs2 : List Str, zs.map V.str ++ [V.str (Txt.upper z), V.str (z ++ z), V.str (z ++ Str.ofString " ")] = zs2.map V.str ∧ (∀ y ∈ zs2, Asc y) ∧ zs2.length = 7 := by
          refine ⟨zs ++ [Txt.upper z, z ++ z, z ++ Str.ofString " "], by simp, fun y hy => ?_, by simp [hlen]⟩
          rcases List.mem_append.mp hy with hy | hy
          · exact hzs y hy
          rcases List.mem_cons.mp hy with rfl | hy
          · exact (upper_asc hzw).asc (by decide)
          rcases List.mem_cons.mp hy with rfl | hy
          · exact (hza.app hza).asc (by decide)
          obtain rfl := List.mem_singleton.mp hy
          exact (hza.app hsp).asc (by decide)
        have u1 := Same.new (o := .lst [V.str (Txt.upper z), V.str (z ++ z), V.str (z ++ Str.ofString " ")]) hp1
        have u2 := Same.new (o := .lst (zs.map V.str ++ [V.str (Txt.upper z), V.str (z ++ z), V.str (z ++ Str.ofString " ")])) hp2
        have s13 := s11.trans (u1.trans u2)
        generalize hHi : upd _ p2 (HO.lst (zs.map V.str ++ [V.str (Txt.upper z), V.str (z ++ z), V.str (z ++ Str.ofString " ")])) = Hi at s13
        have hg : Hi p2 = some (.lst (zs.map V.str ++ [V.str (Txt.upper z), V.str (z ++ z), V.str (z ++ Str.ofString " ")])) := by rw [← hHi]; exact upd_same
        rw [e2] at hg
        clear u1 u2 hHi hp1 hp2 hA1 s11 e2 hzs hlen
        have hw13 := s13 _ _ hw10
        rw [ap_for]
        walk_at "rdi"
        obtain ⟨j, hj, ej⟩ : ∃ j : Nat, j < 4 ∧ at4 = j := ⟨at4.toNat, by omega, by omega⟩
        have hjw : j < words4.length := hj
        have hwz : words4[j] ∈ words4 := List.getElem_mem hjw
        obtain ⟨hwa, _⟩ := word_asc hwz
        have h2 := hwa.1
        have hem : AscN 0 (Str.ofString "") := ⟨by decide, by decide⟩
        refine ⟨by rw [sizeLine_eq]; omega, _, SqL.of hw13, V.str words4[j], by rw [ej]; exact atI_nat (by rw [List.getElem?_map, List.getElem?_eq_getElem hjw]; rfl), _, rfl, by rw [str_len, sizeLine_eq]; omega, lz _ (by decide), fun p3 hp3 => ⟨_, Same.new hp3 _ _ hg, _, upd_same, by rw [List.length_map, hl2]; exact lz (7 + 2) (by decide), fun p4 hp4 => ?_⟩⟩
        obtain ⟨zs3, e3, hz3, hl3⟩ : ∃ zs3 : List Str, zs2.map V.str ++ [V.str (z ++ Str.ofString " " ++ words4[j]), V.str (Str.ofString "")] = zs3.map V.str ∧ (∀ y ∈ zs3, Asc y) ∧ zs3.length = 9 := by
          refine ⟨zs2 ++ [z ++ Str.ofString " " ++ words4[j], Str.ofString ""], by simp, fun y hy => ?_, by simp [hl2]⟩
          rcases List.mem_append.mp hy with hy | hy
          · exact hz2 y hy
          rcases List.mem_cons.mp hy with rfl | hy
          · exact ((hza.app hsp).app hwa).asc (by decide)
          obtain rfl := List.mem_singleton.mp hy
          exact hem.asc (by decide)
        have u1 := Same.new (o := .lst [V.str (z ++ Str.ofString " " ++ words4[j]), V.str (Str.ofString "")]) hp3
        have u2 := Same.new (o := .lst (zs2.map V.str ++ [V.str (z ++ Str.ofString " " ++ words4[j]), V.str (Str.ofString "")])) hp4
        have s14 := s13.trans (u1.trans u2)
        generalize hHj : upd _ p4 (HO.lst (zs2.map V.str ++ [V.str (z ++ Str.ofString " " ++ words4[j]), V.str (Str.ofString "")])) = Hj at s14
        have hgj : Hj p4 = some (.lst (zs2.map V.str ++ [V.str (z ++ Str.ofString " " ++ words4[j]), V.str (Str.ofString "")])) := by rw [← hHj]; exact upd_same
        rw [e3] at hgj
        clear u1 u2 hHj hp3 hp4 e3 hz2 hg hw13
        have hw14 := s14 _ _ hw10
        refine ⟨⟨_, SqL.of hgj⟩, ?_⟩
        refine ForP.list (K := K) (a := p4) (xs := zs3.map V.str) (fun i σ Hx => ∃ v7 v8 : Option V, σ = [some (.ref a), some (.ref pw), some (.ref pd), some (.int at4), some (.str z), some (.ref x), some (.ref p2), v7, v8] ∧ Same Hj Hx) ⟨_, _, rfl, Same.refl _⟩ (fun i σ Hx _ ⟨_, _, _, s⟩ => SqL.of (s _ _ hgj)) ?_ ?_
        · rintro i2 y2 σ H15 hy2 ⟨v7, v8, rfl, s15⟩
          obtain ⟨y, hym, rfl⟩ := List.mem_map.mp (List.mem_of_getElem? hy2)
          have hya := hz3 y hym
          walk_at "rdi"
          refine ⟨_, .inl (SqL.of (s15 _ _ hw14)), rfl, flat_strs _, ?_⟩
          rw [inV_strs]
          by_cases hm : y ∈ words4
          · rw [if_neg (by simp [hm])]
            exact s15
          · rw [if_pos (by simp [hm])]
            refine ⟨y, rfl, hya, hm, fun H16 s16 => ⟨_, rfl, ?_⟩⟩
            rw [if_neg (by decide)]
            exact s15.trans s16
        · rintro σ H15 ⟨v7, v8, rfl, s15⟩
          exact ⟨_, _, _, _, _, rfl, t10.trans (s14.trans s15)⟩
    · rintro σ H8 ⟨v4, v5, v6, v7, v8, rfl, s8⟩
      try dsimp only
      rw [ap_seq, ap_for]
      walk_at "rdi"
      have S8 := S7.trans (v3.trans s8)
      have hw8 := (v3.trans s8) _ _ hw7
      refine ⟨by decide, by decide, ?_⟩
      rw [show Int.toNat 8 = 8 from rfl]
      refine ForP.range (lo := 0) (n := 8) (fun i σ Hx => ∃ v4 v5 v6 v7 v8 : Option V, σ = [some (.ref a), some (.ref pw), some (.ref pd), some (.int at4), v4, v5, v6, v7, v8] ∧ Same H8 Hx) ⟨_, _, _, _, _, rfl, Same.refl _⟩ ?_ ?_
      · rintro i σ H9 hi ⟨v4, v5, v6, v7, v8, rfl, s9⟩
        walk_at "rdi"
        walk_at "nx"
        refine ⟨a, ns, 5 + i, congrArg (fun u => [V.ref a, V.int u]) (by omega), (S8.trans s9).seq hSB, hl, fun H10 s10 => ⟨_, rfl, fun y hy => ?_⟩⟩
        have s810 := s9.trans s10
        walk_at "rdi"
        refine ⟨_, .inl (SqL.of (s810 _ _ hw8)), rfl, flat_strs _, ?_⟩
        rw [inV_strs]
        by_cases hm : y ∈ words4
        · rw [if_neg (by simp [hm])]
          exact s810
        · rw [if_pos (by simp [hm])]
          refine ⟨y, rfl, hy, hm, fun H11 s11 => ⟨_, rfl, ?_⟩⟩
          rw [if_neg (by decide)]
          exact s810.trans s11
      · rintro σ H9 ⟨v4, v5, v6, v7, v8, rfl, s9⟩
        walk_at "rda"
        intro x0 d0 hx0 hd0 n0
        refine ⟨_, d0, _, upd_same, _, List.mem_cons_self, rfl, x0, rfl, ?_⟩
        intro x1 d1 hx1 hd1 n1
        refine ⟨_, d1, _, upd_same, _, List.mem_cons_self, rfl, x1, rfl, ?_⟩
        intro x2 d2 hx2 hd2 n2
        refine ⟨_, d2, _, upd_same, _, List.mem_cons_self, rfl, x2, rfl, ?_⟩
        intro x3 d3 hx3 hd3 n3
        refine ⟨_, d3, _, upd_same, _, List.mem_cons_self, rfl, x3, rfl, lz _ (by decide), fun p hp => ?_⟩
        have a0 := new_mk (C := A.C_Eldest) hx0 hd0
        have a1 := new_mk (C := A.C_Newest) hx1 hd1
        have a2 := new_mk (C := A.C_Dearest) hx2 hd2
        have a3 := new_mk (C := A.C_Mean) hx3 hd3
        have sf := (a0.s.trans (a1.s.trans (a2.s.trans a3.s))).trans (Same.new (o := .lst (words4.map V.str)) hp)
        exact rEqD_strs (xs := words4) upd_same ((s9.trans sf) _ _ hw8) (k _)
end
end My
namespace My
open PySem L2 PyProof.Rows
theorem all_mk {l : PySem.W.OpenLaw} {w : World} {K : PySem.W.Frag} {h : Heap} {mg : Str → Option Value} {fa : Addr} (X : K.In h) (G : h.Ns mainGlobals mg) (hfa : mg "law" = some (.ref fa))
    {c0 : Addr}
    (u_Eldest : PySem.W.nsIn K mainGlobals "Eldest" = some (some (.ref c0)))
    {c1 : Addr}
    (u_Newest : PySem.W.nsIn K mainGlobals "Newest" = some (some (.ref c1)))
    {c2 : Addr}
    (u_Dearest : PySem.W.nsIn K mainGlobals "Dearest" = some (some (.ref c2)))
    {c3 : Addr}
    (u_Mean : PySem.W.nsIn K mainGlobals "Mean" = some (some (.ref c3)))
    {c4 : Addr}
    (u_NoWay : PySem.W.nsIn K mainGlobals "NoWay" = some (some (.ref c4)))
    {c5 : Addr}
    (u_Way : PySem.W.nsIn K mainGlobals "Way" = some (some (.ref c5)))
    {c6 : Addr}
    (u_LotError : PySem.W.nsIn K mainGlobals "LotError" = some (some (.ref c6)))
    {c7 : Addr}
    (u_Late : PySem.W.nsIn K mainGlobals "Late" = some (some (.ref c7)))
    {c8 : Addr}
    (u_NoEntry : PySem.W.nsIn K mainGlobals "NoEntry" = some (some (.ref c8)))
    {c9 : Addr}
    (u_NoNumber : PySem.W.nsIn K mainGlobals "NoNumber" = some (some (.ref c9)))
    {c10 : Addr}
    (u_NoPieces : PySem.W.nsIn K mainGlobals "NoPieces" = some (some (.ref c10)))
    {c11 : Addr}
    (u_NotHeld : PySem.W.nsIn K mainGlobals "NotHeld" = some (some (.ref c11)))
    {c12 : Addr}
    (u_NoText : PySem.W.nsIn K mainGlobals "NoText" = some (some (.ref c12)))
    {c13 : Addr}
    (u_NoLot : PySem.W.nsIn K mainGlobals "NoLot" = some (some (.ref c13)))
    {c14 : Addr}
    (u_NoWeights : PySem.W.nsIn K mainGlobals "NoWeights" = some (some (.ref c14)))
    {c15 : Addr}
    (u_Twice : PySem.W.nsIn K mainGlobals "Twice" = some (some (.ref c15)))
    {f0 : Addr} {od0 an0 : Option Addr} {sl0 : Array (Option Value)} {oc0 kV0 dc0 pm0 cd0 ct0 : Value}
    (a0 : PySem.W.nsIn K mainGlobals "_law_cell" = some (some (.ref f0)))
    (l0 : K.lookup f0 = some ⟨oc0, od0, .func (PySem.W.fnOf "_law_cell" "_law_cell" (defArgs s__law_cell) (defBody s__law_cell) (defScope s__law_cell) .none kV0 dc0 pm0 an0 cd0 ct0), sl0⟩)
    (d0 : PySem.W.codeIn K cd0 "_law_cell" = true)
    (k0 : PySem.W.keepIn K (.ref f0) = true)
    {f1 : Addr} {od1 an1 : Option Addr} {sl1 : Array (Option Value)} {oc1 kV1 dc1 pm1 cd1 ct1 : Value}
    (a1 : PySem.W.findIn K (.ref c0) "word" = some (some (.ref f1)))
    (l1 : K.lookup f1 = some ⟨oc1, od1, .func (PySem.W.fnOf "word" "Eldest.word" (defArgs s_Eldest_word) (defBody s_Eldest_word) (defScope s_Eldest_word) .none kV1 dc1 pm1 an1 cd1 ct1), sl1⟩)
    (d1 : PySem.W.codeIn K cd1 "Eldest.word" = true)
    (k1 : PySem.W.keepIn K (.ref f1) = true)
    {f2 : Addr} {od2 an2 : Option Addr} {sl2 : Array (Option Value)} {oc2 kV2 dc2 pm2 cd2 ct2 : Value}
    (a2 : PySem.W.findIn K (.ref c1) "word" = some (some (.ref f2)))
    (l2 : K.lookup f2 = some ⟨oc2, od2, .func (PySem.W.fnOf "word" "Newest.word" (defArgs s_Newest_word) (defBody s_Newest_word) (defScope s_Newest_word) .none kV2 dc2 pm2 an2 cd2 ct2), sl2⟩)
    (d2 : PySem.W.codeIn K cd2 "Newest.word" = true)
    (k2 : PySem.W.keepIn K (.ref f2) = true)
    {f3 : Addr} {od3 an3 : Option Addr} {sl3 : Array (Option Value)} {oc3 kV3 dc3 pm3 cd3 ct3 : Value}
    (a3 : PySem.W.findIn K (.ref c2) "word" = some (some (.ref f3)))
    (l3 : K.lookup f3 = some ⟨oc3, od3, .func (PySem.W.fnOf "word" "Dearest.word" (defArgs s_Dearest_word) (defBody s_Dearest_word) (defScope s_Dearest_word) .none kV3 dc3 pm3 an3 cd3 ct3), sl3⟩)
    (d3 : PySem.W.codeIn K cd3 "Dearest.word" = true)
    (k3 : PySem.W.keepIn K (.ref f3) = true)
    {f4 : Addr} {od4 an4 : Option Addr} {sl4 : Array (Option Value)} {oc4 kV4 dc4 pm4 cd4 ct4 : Value}
    (a4 : PySem.W.findIn K (.ref c3) "word" = some (some (.ref f4)))
    (l4 : K.lookup f4 = some ⟨oc4, od4, .func (PySem.W.fnOf "word" "Mean.word" (defArgs s_Mean_word) (defBody s_Mean_word) (defScope s_Mean_word) .none kV4 dc4 pm4 an4 cd4 ct4), sl4⟩)
    (d4 : PySem.W.codeIn K cd4 "Mean.word" = true)
    (k4 : PySem.W.keepIn K (.ref f4) = true)
    {f5 : Addr} {od5 an5 : Option Addr} {sl5 : Array (Option Value)} {oc5 kV5 dc5 pm5 cd5 ct5 : Value}
    (a5 : PySem.W.nsIn K mainGlobals "way_by" = some (some (.ref f5)))
    (l5 : K.lookup f5 = some ⟨oc5, od5, .func (PySem.W.fnOf "way_by" "way_by" (defArgs s_way_by) (defBody s_way_by) (defScope s_way_by) .none kV5 dc5 pm5 an5 cd5 ct5), sl5⟩)
    (d5 : PySem.W.codeIn K cd5 "way_by" = true)
    (k5 : PySem.W.keepIn K (.ref f5) = true)
    {f6 : Addr} {od6 an6 : Option Addr} {sl6 : Array (Option Value)} {oc6 kV6 dc6 pm6 cd6 ct6 : Value}
    (a6 : PySem.W.nsIn K mainGlobals "_law_any" = some (some (.ref f6)))
    (l6 : K.lookup f6 = some ⟨oc6, od6, .func (PySem.W.fnOf "_law_any" "_law_any" (defArgs s__law_any) (defBody s__law_any) (defScope s__law_any) .none kV6 dc6 pm6 an6 cd6 ct6), sl6⟩)
    (d6 : PySem.W.codeIn K cd6 "_law_any" = true)
    (k6 : PySem.W.keepIn K (.ref f6) = true)
    {f7 : Addr} {od7 an7 : Option Addr} {sl7 : Array (Option Value)} {oc7 kV7 dc7 pm7 cd7 ct7 : Value}
    (a7 : PySem.W.nsIn K mainGlobals "_law_kinds" = some (some (.ref f7)))
    (l7 : K.lookup f7 = some ⟨oc7, od7, .func (PySem.W.fnOf "_law_kinds" "_law_kinds" (defArgs s__law_kinds) (defBody s__law_kinds) (defScope s__law_kinds) .none kV7 dc7 pm7 an7 cd7 ct7), sl7⟩)
    (d7 : PySem.W.codeIn K cd7 "_law_kinds" = true)
    (k7 : PySem.W.keepIn K (.ref f7) = true)
    {f8 : Addr} {od8 an8 : Option Addr} {sl8 : Array (Option Value)} {oc8 kV8 dc8 pm8 cd8 ct8 : Value}
    (a8 : PySem.W.nsIn K mainGlobals "_law_bent" = some (some (.ref f8)))
    (l8 : K.lookup f8 = some ⟨oc8, od8, .func (PySem.W.fnOf "_law_bent" "_law_bent" (defArgs s__law_bent) (defBody s__law_bent) (defScope s__law_bent) .none kV8 dc8 pm8 an8 cd8 ct8), sl8⟩)
    (d8 : PySem.W.codeIn K cd8 "_law_bent" = true)
    (k8 : PySem.W.keepIn K (.ref f8) = true)
    {f9 : Addr} {od9 an9 : Option Addr} {sl9 : Array (Option Value)} {oc9 kV9 dc9 pm9 cd9 ct9 : Value}
    (a9 : PySem.W.nsIn K mainGlobals "_law_refused" = some (some (.ref f9)))
    (l9 : K.lookup f9 = some ⟨oc9, od9, .func (PySem.W.fnOf "_law_refused" "_law_refused" (defArgs s__law_refused) (defBody s__law_refused) (defScope s__law_refused) .none kV9 dc9 pm9 an9 cd9 ct9), sl9⟩)
    (d9 : PySem.W.codeIn K cd9 "_law_refused" = true)
    (k9 : PySem.W.keepIn K (.ref f9) = true)
    {f10 : Addr} {od10 an10 : Option Addr} {sl10 : Array (Option Value)} {oc10 kV10 dc10 pm10 cd10 ct10 : Value}
    (a10 : PySem.W.nsIn K mainGlobals "law" = some (some (.ref f10)))
    (l10 : K.lookup f10 = some ⟨oc10, od10, .func (PySem.W.fnOf "law" "law" (defArgs s_law) (defBody s_law) (defScope s_law) .none kV10 dc10 pm10 an10 cd10 ct10), sl10⟩)
    (d10 : PySem.W.codeIn K cd10 "law" = true)
    (k10 : PySem.W.keepIn K (.ref f10) = true)
    (z_len : PySem.W.nsIn K mainGlobals "len" = some none)
    (z_range : PySem.W.nsIn K mainGlobals "range" = some none)
    (z_isinstance : PySem.W.nsIn K mainGlobals "isinstance" = some none)
    (z_ValueError : PySem.W.nsIn K mainGlobals "ValueError" = some none)
    (z_str : PySem.W.nsIn K mainGlobals "str" = some none)
    (x_NoWay : PySem.W.excIn K c4 [.type "ValueError", .type "Exception", .type "BaseException", .type "object"] "ValueError.__new__" = true)
    (ya_NoWay : PySem.W.findIn K (.ref c4) "__class__" = some (some (.builtin "object.__class__")))
    (yb_NoWay : PySem.W.findIn K (.ref c4) "__getattribute__" = some (some (.builtin "BaseException.__getattribute__")))
    (yc_NoWay : PySem.W.findIn K (.ref c4) "__getattr__" = some none)
    (x_LotError : PySem.W.excIn K c6 [.type "ValueError", .type "Exception", .type "BaseException", .type "object"] "ValueError.__new__" = true)
    (ya_LotError : PySem.W.findIn K (.ref c6) "__class__" = some (some (.builtin "object.__class__")))
    (yb_LotError : PySem.W.findIn K (.ref c6) "__getattribute__" = some (some (.builtin "BaseException.__getattribute__")))
    (yc_LotError : PySem.W.findIn K (.ref c6) "__getattr__" = some none)
    (x_NoEntry : PySem.W.excIn K c8 [.type "ValueError", .type "Exception", .type "BaseException", .type "object"] "ValueError.__new__" = true)
    (ya_NoEntry : PySem.W.findIn K (.ref c8) "__class__" = some (some (.builtin "object.__class__")))
    (yb_NoEntry : PySem.W.findIn K (.ref c8) "__getattribute__" = some (some (.builtin "BaseException.__getattribute__")))
    (yc_NoEntry : PySem.W.findIn K (.ref c8) "__getattr__" = some none)
    (x_NoPieces : PySem.W.excIn K c10 [.type "ValueError", .type "Exception", .type "BaseException", .type "object"] "ValueError.__new__" = true)
    (ya_NoPieces : PySem.W.findIn K (.ref c10) "__class__" = some (some (.builtin "object.__class__")))
    (yb_NoPieces : PySem.W.findIn K (.ref c10) "__getattribute__" = some (some (.builtin "BaseException.__getattribute__")))
    (yc_NoPieces : PySem.W.findIn K (.ref c10) "__getattr__" = some none)
    (x_NoWeights : PySem.W.excIn K c14 [.type "ValueError", .type "Exception", .type "BaseException", .type "object"] "ValueError.__new__" = true)
    (ya_NoWeights : PySem.W.findIn K (.ref c14) "__class__" = some (some (.builtin "object.__class__")))
    (yb_NoWeights : PySem.W.findIn K (.ref c14) "__getattribute__" = some (some (.builtin "BaseException.__getattribute__")))
    (yc_NoWeights : PySem.W.findIn K (.ref c14) "__getattr__" = some none)
    (oc_n : PySem.W.specialIn K (.builtin "object.__class__") "__get__" = some (some (.builtin "getset_descriptor.__get__")))
    (oc_t : PySem.W.takesIn K (.builtin "object.__class__") = some true)
    (pg_Eldest : PySem.W.plainGet K c0 Str.empty = true)
    (hd_Eldest : PySem.W.hasDictIn K c0 = true)
    (po_Eldest : PySem.W.plainOver K c0 = true)
    (sa_Eldest : PySem.W.findIn K (.ref c0) "__setattr__" = some (some (.builtin "object.__setattr__")))
    (ha_Eldest : PySem.W.findIn K (.ref c0) "__class__" = some (some (.builtin "object.__class__")))
    (hm_Eldest : PySem.W.mroIn K c0 (.type "object") = some true)
    (pg_Newest : PySem.W.plainGet K c1 Str.empty = true)
    (hd_Newest : PySem.W.hasDictIn K c1 = true)
    (po_Newest : PySem.W.plainOver K c1 = true)
    (sa_Newest : PySem.W.findIn K (.ref c1) "__setattr__" = some (some (.builtin "object.__setattr__")))
    (ha_Newest : PySem.W.findIn K (.ref c1) "__class__" = some (some (.builtin "object.__class__")))
    (hm_Newest : PySem.W.mroIn K c1 (.type "object") = some true)
    (pg_Dearest : PySem.W.plainGet K c2 Str.empty = true)
    (hd_Dearest : PySem.W.hasDictIn K c2 = true)
    (po_Dearest : PySem.W.plainOver K c2 = true)
    (sa_Dearest : PySem.W.findIn K (.ref c2) "__setattr__" = some (some (.builtin "object.__setattr__")))
    (ha_Dearest : PySem.W.findIn K (.ref c2) "__class__" = some (some (.builtin "object.__class__")))
    (hm_Dearest : PySem.W.mroIn K c2 (.type "object") = some true)
    (pg_Mean : PySem.W.plainGet K c3 Str.empty = true)
    (hd_Mean : PySem.W.hasDictIn K c3 = true)
    (po_Mean : PySem.W.plainOver K c3 = true)
    (sa_Mean : PySem.W.findIn K (.ref c3) "__setattr__" = some (some (.builtin "object.__setattr__")))
    (ha_Mean : PySem.W.findIn K (.ref c3) "__class__" = some (some (.builtin "object.__class__")))
    (hm_Mean : PySem.W.mroIn K c3 (.type "object") = some true)
    (pg_Way : PySem.W.plainGet K c5 Str.empty = true)
    (hd_Way : PySem.W.hasDictIn K c5 = true)
    (po_Way : PySem.W.plainOver K c5 = true)
    (sa_Way : PySem.W.findIn K (.ref c5) "__setattr__" = some (some (.builtin "object.__setattr__")))
    (ha_Way : PySem.W.findIn K (.ref c5) "__class__" = some (some (.builtin "object.__class__")))
    (hm_Way : PySem.W.mroIn K c5 (.type "object") = some true)
    (m0a_Eldest : PySem.W.makesIn K c0 = true)
    (m0b_Eldest : PySem.W.findIn K (.ref c0) "__init__" = some (some (.builtin "object.__init__")))
    (m0c_Eldest : PySem.W.keepIn K (.ref c0) = true)
    (m0a_Newest : PySem.W.makesIn K c1 = true)
    (m0b_Newest : PySem.W.findIn K (.ref c1) "__init__" = some (some (.builtin "object.__init__")))
    (m0c_Newest : PySem.W.keepIn K (.ref c1) = true)
    (m0a_Dearest : PySem.W.makesIn K c2 = true)
    (m0b_Dearest : PySem.W.findIn K (.ref c2) "__init__" = some (some (.builtin "object.__init__")))
    (m0c_Dearest : PySem.W.keepIn K (.ref c2) = true)
    (m0a_Mean : PySem.W.makesIn K c3 = true)
    (m0b_Mean : PySem.W.findIn K (.ref c3) "__init__" = some (some (.builtin "object.__init__")))
    (m0c_Mean : PySem.W.keepIn K (.ref c3) = true)
    (mea_Eldest_word : PySem.W.findIn K (.ref c0) "word" = some (some (.ref f1)))
    (meb_Eldest_word : PySem.W.isFn K (.ref f1) = true)
    (mea_Newest_word : PySem.W.findIn K (.ref c1) "word" = some (some (.ref f2)))
    (meb_Newest_word : PySem.W.isFn K (.ref f2) = true)
    (mea_Dearest_word : PySem.W.findIn K (.ref c2) "word" = some (some (.ref f3)))
    (meb_Dearest_word : PySem.W.isFn K (.ref f3) = true)
    (mea_Mean_word : PySem.W.findIn K (.ref c3) "word" = some (some (.ref f4)))
    (meb_Mean_word : PySem.W.isFn K (.ref f4) = true)
    (w_kc_Eldest_Eldest : PySem.W.kitOne K (.ref c0) (.ref c0) = some true)
    (w_kc_Eldest_Newest : PySem.W.kitOne K (.ref c0) (.ref c1) = some false)
    (w_kc_Eldest_Dearest : PySem.W.kitOne K (.ref c0) (.ref c2) = some false)
    (w_kc_Eldest_Mean : PySem.W.kitOne K (.ref c0) (.ref c3) = some false)
    (w_kc_Eldest_Way : PySem.W.kitOne K (.ref c0) (.ref c5) = some true)
    (w_kc_Newest_Eldest : PySem.W.kitOne K (.ref c1) (.ref c0) = some false)
    (w_kc_Newest_Newest : PySem.W.kitOne K (.ref c1) (.ref c1) = some true)
    (w_kc_Newest_Dearest : PySem.W.kitOne K (.ref c1) (.ref c2) = some false)
    (w_kc_Newest_Mean : PySem.W.kitOne K (.ref c1) (.ref c3) = some false)
    (w_kc_Newest_Way : PySem.W.kitOne K (.ref c1) (.ref c5) = some true)
    (w_kc_Dearest_Eldest : PySem.W.kitOne K (.ref c2) (.ref c0) = some false)
    (w_kc_Dearest_Newest : PySem.W.kitOne K (.ref c2) (.ref c1) = some false)
    (w_kc_Dearest_Dearest : PySem.W.kitOne K (.ref c2) (.ref c2) = some true)
    (w_kc_Dearest_Mean : PySem.W.kitOne K (.ref c2) (.ref c3) = some false)
    (w_kc_Dearest_Way : PySem.W.kitOne K (.ref c2) (.ref c5) = some true)
    (w_kc_Mean_Eldest : PySem.W.kitOne K (.ref c3) (.ref c0) = some true)
    (w_kc_Mean_Newest : PySem.W.kitOne K (.ref c3) (.ref c1) = some false)
    (w_kc_Mean_Dearest : PySem.W.kitOne K (.ref c3) (.ref c2) = some false)
    (w_kc_Mean_Mean : PySem.W.kitOne K (.ref c3) (.ref c3) = some true)
    (w_kc_Mean_Way : PySem.W.kitOne K (.ref c3) (.ref c5) = some true)
    (w_su_NoWay_LotError : PySem.W.kitOne K (.ref c4) (.ref c6) = some true)
    (w_kx1 : PySem.W.kitOne K (.ref c4) (.ref c4) = some true)
    (w_kx2 : PySem.W.kitOne K (.ref c4) (.type "ValueError") = some true)
    (w_kx3 : PySem.W.kitAny K (.ref c4) [.ref c7, .ref c8, .ref c9, .ref c10, .ref c11] = some false)
    (w_kx4 : PySem.W.kitAny K (.ref c4) [.ref c12, .ref c13, .ref c14, .ref c15] = some false)
    : ∃ fd : FuncData, (∀ (s : Shared) (v : Value), BindsTo s fd ⟨[v], []⟩ [("_law_script", v)]) ∧ ∀ base : Heap, K.In base → base.Ns mainGlobals mg → FnOk l.prog w K mg base CX0 4 fa fd ["_law_script"] (sp_law K) := by
  have e := hfa.symm.trans (PySem.W.mg_of X G a10)
  cases e
  have T : Txt K mg ⟨f0, f1, f2, f3, f4, f5, f6, f7, f8, f9, fa, c0, c1, c2, c3, c4, c5, c6, c7, c8, c9, c10, c11, c12, c13, c14, c15⟩ ⟨_, _, _, _, _, _, _, _, _, _, _⟩ := ⟨PySem.W.mg_of X G a0, k0, fun_mk (st := s__law_cell) l0 d0 k0, fun_mk (st := s_Eldest_word) l1 d1 k1, fun_mk (st := s_Newest_word) l2 d2 k2, fun_mk (st := s_Dearest_word) l3 d3 k3, fun_mk (st := s_Mean_word) l4 d4 k4, PySem.W.mg_of X G a5, k5, fun_mk (st := s_way_by) l5 d5 k5, PySem.W.mg_of X G a6, k6, fun_mk (st := s__law_any) l6 d6 k6, PySem.W.mg_of X G a7, k7, fun_mk (st := s__law_kinds) l7 d7 k7, PySem.W.mg_of X G a8, k8, fun_mk (st := s__law_bent) l8 d8 k8, PySem.W.mg_of X G a9, k9, fun_mk (st := s__law_refused) l9 d9 k9, PySem.W.mg_of X G a10, k10, fun_mk (st := s_law) l10 d10 k10, PySem.W.mg_none_of X G z_len, PySem.W.mg_none_of X G z_range, PySem.W.mg_none_of X G z_isinstance, PySem.W.mg_none_of X G z_ValueError, PySem.W.mg_none_of X G z_str, PySem.W.mg_of X G u_Eldest, PySem.W.mg_of X G u_Newest, PySem.W.mg_of X G u_Dearest, PySem.W.mg_of X G u_Mean, PySem.W.mg_of X G u_NoWay, PySem.W.mg_of X G u_Way, PySem.W.mg_of X G u_LotError, PySem.W.mg_of X G u_Late, PySem.W.mg_of X G u_NoEntry, PySem.W.mg_of X G u_NoNumber, PySem.W.mg_of X G u_NoPieces, PySem.W.mg_of X G u_NotHeld, PySem.W.mg_of X G u_NoText, PySem.W.mg_of X G u_NoLot, PySem.W.mg_of X G u_NoWeights, PySem.W.mg_of X G u_Twice, ⟨x_NoWay⟩, ⟨ya_NoWay, yb_NoWay, yc_NoWay⟩, ⟨x_LotError⟩, ⟨ya_LotError, yb_LotError, yc_LotError⟩, ⟨x_NoEntry⟩, ⟨ya_NoEntry, yb_NoEntry, yc_NoEntry⟩, ⟨x_NoPieces⟩, ⟨ya_NoPieces, yb_NoPieces, yc_NoPieces⟩, ⟨x_NoWeights⟩, ⟨ya_NoWeights, yb_NoWeights, yc_NoWeights⟩, ⟨pg_Eldest, hd_Eldest, po_Eldest, sa_Eldest⟩, ⟨⟨pg_Eldest, hd_Eldest, po_Eldest, sa_Eldest⟩, ha_Eldest, oc_n, oc_t, hm_Eldest⟩, ⟨pg_Newest, hd_Newest, po_Newest, sa_Newest⟩, ⟨⟨pg_Newest, hd_Newest, po_Newest, sa_Newest⟩, ha_Newest, oc_n, oc_t, hm_Newest⟩, ⟨pg_Dearest, hd_Dearest, po_Dearest, sa_Dearest⟩, ⟨⟨pg_Dearest, hd_Dearest, po_Dearest, sa_Dearest⟩, ha_Dearest, oc_n, oc_t, hm_Dearest⟩, ⟨pg_Mean, hd_Mean, po_Mean, sa_Mean⟩, ⟨⟨pg_Mean, hd_Mean, po_Mean, sa_Mean⟩, ha_Mean, oc_n, oc_t, hm_Mean⟩, ⟨pg_Way, hd_Way, po_Way, sa_Way⟩, ⟨⟨pg_Way, hd_Way, po_Way, sa_Way⟩, ha_Way, oc_n, oc_t, hm_Way⟩, ⟨m0a_Eldest, m0b_Eldest, m0c_Eldest⟩, ⟨m0a_Newest, m0b_Newest, m0c_Newest⟩, ⟨m0a_Dearest, m0b_Dearest, m0c_Dearest⟩, ⟨m0a_Mean, m0b_Mean, m0c_Mean⟩, ⟨mea_Eldest_word, meb_Eldest_word, k1⟩, ⟨mea_Newest_word, meb_Newest_word, k2⟩, ⟨mea_Dearest_word, meb_Dearest_word, k3⟩, ⟨mea_Mean_word, meb_Mean_word, k4⟩, w_kc_Eldest_Eldest, w_kc_Eldest_Newest, w_kc_Eldest_Dearest, w_kc_Eldest_Mean, w_kc_Eldest_Way, w_kc_Newest_Eldest, w_kc_Newest_Newest, w_kc_Newest_Dearest, w_kc_Newest_Mean, w_kc_Newest_Way, w_kc_Dearest_Eldest, w_kc_Dearest_Newest, w_kc_Dearest_Dearest, w_kc_Dearest_Mean, w_kc_Dearest_Way, w_kc_Mean_Eldest, w_kc_Mean_Newest, w_kc_Mean_Dearest, w_kc_Mean_Mean, w_kc_Mean_Way, w_su_NoWay_LotError, w_kx1, w_kx2, w_kx3, w_kx4⟩
  exact ⟨_, fun s v => .of_eq rfl, fun base _ _ => ok_law T⟩
theorem walk {l : PySem.W.OpenLaw} {q : Program} {loose : List Str} {XP : (Str → Option Value) → Heap → Prop} {YP : World → Heap → Prop} {d : DefRec} {K : Params → PySem.W.Frag} (hn : l.most = some 63) (hdf : d.params.defaults = [])
    (hY : ∀ (w : World) (h : Heap), YP w h → (K w.params).In h)
    (F : ∀ (w : World) (mg : Str → Option Value) (fa : Addr) (h : Heap), (K w.params).In h → h.Ns mainGlobals mg → mg d.name = some (.ref fa) →
      ∃ fd : FuncData, (∀ (s : Shared) (u : Value), BindsTo s fd ⟨[u], []⟩ [("_law_script", u)]) ∧ ∀ base : Heap, (K w.params).In base → base.Ns mainGlobals mg → FnOk l.prog w (K w.params) mg base CX0 4 fa fd ["_law_script"] (sp_law (K w.params))) :
    PySem.W.WalkO q loose XP YP l.row.toRowW d [] (fun f vs => PySem.call f vs) :=
  L2.walk_of (n := 63) (k := 4) (x := "_law_script") (CX := fun _ => CX0) (sp := fun w => sp_law (K w.params)) hn (by decide) hdf ⟨rfl, by decide, by decide⟩ hY F (fun _ _ a ns hl _ hS => ⟨a, ns, rfl, hS, hl, fun _ => rfl⟩) fun _ _ _ _ _ z => z
end My
def PySem.W.Fast.tw14227338357953213829 : Nat := 0
def PySem.W.Fast.tw1091903964228401924 : Nat := 0
open PySem PySem.W PyProof.Rows
set_option maxRecDepth 100000 in
set_option maxHeartbeats 0 in
theorem PySem.Challenge.cw_lotledger_k30_words_of_ways_holds : PySem.Challenge.rw_lotledger_k30_words_of_ways.Holds := by
  w_on; o_law; k_head; (case hw => w_witness2)
  k_fill
  refine My.walk (l := PySem.Challenge.rw_lotledger_k30_words_of_ways) rfl rfl (fun w h Y => PySem.W.kIn_of Y) ?F
  case F =>
    intro w mg fa h KX G hmg
    refine' My.all_mk KX G hmg ?u_Eldest ?u_Newest ?u_Dearest ?u_Mean ?u_NoWay ?u_Way ?u_LotError ?u_Late ?u_NoEntry ?u_NoNumber ?u_NoPieces ?u_NotHeld ?u_NoText ?u_NoLot ?u_NoWeights ?u_Twice ?a0 ?l0 ?d0 ?k0 ?a1 ?l1 ?d1 ?k1 ?a2 ?l2 ?d2 ?k2 ?a3 ?l3 ?d3 ?k3 ?a4 ?l4 ?d4 ?k4 ?a5 ?l5 ?d5 ?k5 ?a6 ?l6 ?d6 ?k6 ?a7 ?l7 ?d7 ?k7 ?a8 ?l8 ?d8 ?k8 ?a9 ?l9 ?d9 ?k9 ?a10 ?l10 ?d10 ?k10 ?z_len ?z_range ?z_isinstance ?z_ValueError ?z_str ?x_NoWay ?ya_NoWay ?yb_NoWay ?yc_NoWay ?x_LotError ?ya_LotError ?yb_LotError ?yc_LotError ?x_NoEntry ?ya_NoEntry ?yb_NoEntry ?yc_NoEntry ?x_NoPieces ?ya_NoPieces ?yb_NoPieces ?yc_NoPieces ?x_NoWeights ?ya_NoWeights ?yb_NoWeights ?yc_NoWeights ?oc_n ?oc_t ?pg_Eldest ?hd_Eldest ?po_Eldest ?sa_Eldest ?ha_Eldest ?hm_Eldest ?pg_Newest ?hd_Newest ?po_Newest ?sa_Newest ?ha_Newest ?hm_Newest ?pg_Dearest ?hd_Dearest ?po_Dearest ?sa_Dearest ?ha_Dearest ?hm_Dearest ?pg_Mean ?hd_Mean ?po_Mean ?sa_Mean ?ha_Mean ?hm_Mean ?pg_Way ?hd_Way ?po_Way ?sa_Way ?ha_Way ?hm_Way ?m0a_Eldest ?m0b_Eldest ?m0c_Eldest ?m0a_Newest ?m0b_Newest ?m0c_Newest ?m0a_Dearest ?m0b_Dearest ?m0c_Dearest ?m0a_Mean ?m0b_Mean ?m0c_Mean ?mea_Eldest_word ?meb_Eldest_word ?mea_Newest_word ?meb_Newest_word ?mea_Dearest_word ?meb_Dearest_word ?mea_Mean_word ?meb_Mean_word ?w_kc_Eldest_Eldest ?w_kc_Eldest_Newest ?w_kc_Eldest_Dearest ?w_kc_Eldest_Mean ?w_kc_Eldest_Way ?w_kc_Newest_Eldest ?w_kc_Newest_Newest ?w_kc_Newest_Dearest ?w_kc_Newest_Mean ?w_kc_Newest_Way ?w_kc_Dearest_Eldest ?w_kc_Dearest_Newest ?w_kc_Dearest_Dearest ?w_kc_Dearest_Mean ?w_kc_Dearest_Way ?w_kc_Mean_Eldest ?w_kc_Mean_Newest ?w_kc_Mean_Dearest ?w_kc_Mean_Mean ?w_kc_Mean_Way ?w_su_NoWay_LotError ?w_kx1 ?w_kx2 ?w_kx3 ?w_kx4
    (case u_Eldest => k_is)
    (case u_Newest => k_is)
    (case u_Dearest => k_is)
    (case u_Mean => k_is)
    (case u_NoWay => k_is)
    (case u_Way => k_is)
    (case u_LotError => k_is)
    (case u_Late => k_is)
    (case u_NoEntry => k_is)
    (case u_NoNumber => k_is)
    (case u_NoPieces => k_is)
    (case u_NotHeld => k_is)
    (case u_NoText => k_is)
    (case u_NoLot => k_is)
    (case u_NoWeights => k_is)
    (case u_Twice => k_is)
    (case a0 => k_is)
    (case l0 => k_is)
    (case d0 => k_is)
    (case k0 => k_is)
    (case a1 => k_is)
    (case l1 => k_is)
    (case d1 => k_is)
    (case k1 => k_is)
    (case a2 => k_is)
    (case l2 => k_is)
    (case d2 => k_is)
    (case k2 => k_is)
    (case a3 => k_is)
    (case l3 => k_is)
    (case d3 => k_is)
    (case k3 => k_is)
    (case a4 => k_is)
    (case l4 => k_is)
    (case d4 => k_is)
    (case k4 => k_is)
    (case a5 => k_is)
    (case l5 => k_is)
    (case d5 => k_is)
    (case k5 => k_is)
    (case a6 => k_is)
    (case l6 => k_is)
    (case d6 => k_is)
    (case k6 => k_is)
    (case a7 => k_is)
    (case l7 => k_is)
    (case d7 => k_is)
    (case k7 => k_is)
    (case a8 => k_is)
    (case l8 => k_is)
    (case d8 => k_is)
    (case k8 => k_is)
    (case a9 => k_is)
    (case l9 => k_is)
    (case d9 => k_is)
    (case k9 => k_is)
    (case a10 => k_is)
    (case l10 => k_is)
    (case d10 => k_is)
    (case k10 => k_is)
    (case z_len => k_is)
    (case z_range => k_is)
    (case z_isinstance => k_is)
    (case z_ValueError => k_is)
    (case z_str => k_is)
    (case x_NoWay => k_exc)
    (case ya_NoWay => k_is)
    (case yb_NoWay => k_is)
    (case yc_NoWay => k_is)
    (case x_LotError => k_exc)
    (case ya_LotError => k_is)
    (case yb_LotError => k_is)
    (case yc_LotError => k_is)
    (case x_NoEntry => k_exc)
    (case ya_NoEntry => k_is)
    (case yb_NoEntry => k_is)
    (case yc_NoEntry => k_is)
    (case x_NoPieces => k_exc)
    (case ya_NoPieces => k_is)
    (case yb_NoPieces => k_is)
    (case yc_NoPieces => k_is)
    (case x_NoWeights => k_exc)
    (case ya_NoWeights => k_is)
    (case yb_NoWeights => k_is)
    (case yc_NoWeights => k_is)
    (case oc_n => k_is)
    (case oc_t => k_is)
    (case pg_Eldest => k_is)
    (case hd_Eldest => k_is)
    (case po_Eldest => k_is)
    (case sa_Eldest => k_is)
    (case ha_Eldest => k_is)
    (case hm_Eldest => k_is)
    (case pg_Newest => k_is)
    (case hd_Newest => k_is)
    (case po_Newest => k_is)
    (case sa_Newest => k_is)
    (case ha_Newest => k_is)
    (case hm_Newest => k_is)
    (case pg_Dearest => k_is)
    (case hd_Dearest => k_is)
    (case po_Dearest => k_is)
    (case sa_Dearest => k_is)
    (case ha_Dearest => k_is)
    (case hm_Dearest => k_is)
    (case pg_Mean => k_is)
    (case hd_Mean => k_is)
    (case po_Mean => k_is)
    (case sa_Mean => k_is)
    (case ha_Mean => k_is)
    (case hm_Mean => k_is)
    (case pg_Way => k_is)
    (case hd_Way => k_is)
    (case po_Way => k_is)
    (case sa_Way => k_is)
    (case ha_Way => k_is)
    (case hm_Way => k_is)
    (case m0a_Eldest => k_is)
    (case m0b_Eldest => k_is)
    (case m0c_Eldest => k_is)
    (case m0a_Newest => k_is)
    (case m0b_Newest => k_is)
    (case m0c_Newest => k_is)
    (case m0a_Dearest => k_is)
    (case m0b_Dearest => k_is)
    (case m0c_Dearest => k_is)
    (case m0a_Mean => k_is)
    (case m0b_Mean => k_is)
    (case m0c_Mean => k_is)
    (case mea_Eldest_word => k_is)
    (case meb_Eldest_word => k_is)
    (case mea_Newest_word => k_is)
    (case meb_Newest_word => k_is)
    (case mea_Dearest_word => k_is)
    (case meb_Dearest_word => k_is)
    (case mea_Mean_word => k_is)
    (case meb_Mean_word => k_is)
    (case w_kc_Eldest_Eldest => kit_is)
    (case w_kc_Eldest_Newest => kit_is)
    (case w_kc_Eldest_Dearest => kit_is)
    (case w_kc_Eldest_Mean => kit_is)
    (case w_kc_Eldest_Way => kit_is)
    (case w_kc_Newest_Eldest => kit_is)
    (case w_kc_Newest_Newest => kit_is)
    (case w_kc_Newest_Dearest => kit_is)
    (case w_kc_Newest_Mean => kit_is)
    (case w_kc_Newest_Way => kit_is)
    (case w_kc_Dearest_Eldest => kit_is)
    (case w_kc_Dearest_Newest => kit_is)
    (case w_kc_Dearest_Dearest => kit_is)
    (case w_kc_Dearest_Mean => kit_is)
    (case w_kc_Dearest_Way => kit_is)
    (case w_kc_Mean_Eldest => kit_is)
    (case w_kc_Mean_Newest => kit_is)
    (case w_kc_Mean_Dearest => kit_is)
    (case w_kc_Mean_Mean => kit_is)
    (case w_kc_Mean_Way => kit_is)
    (case w_su_NoWay_LotError => kit_is)
    (case w_kx1 => kit_is)
    (case w_kx2 => kit_is)
    (case w_kx3 => kit_is)
    (case w_kx4 => kit_is)
